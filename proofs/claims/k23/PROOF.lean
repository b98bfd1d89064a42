import PyProof.Rows.All
import Wide.All
import OpenK.AllK
import Wide.FinOn
import Lean
import PyProof.EqAt
import PyProof.EqKinds
import PyProof.TupleCall
import KE.KLam
import KE.KSortKey
import KE.KSorted
import PySem.Challenge.RW_throng_k23_ways_thinned
set_option Elab.async false
set_option linter.all false
set_option maxRecDepth 100000
/-! THE HAND LAYER, for ints, bools, texts, own classes, LISTS and tuples (index, slices, in, append, pop ..), calls, loops. Paste it whole ahead of your own text; what your proof does not reach may be deleted. -/
namespace L2
open PySem PySem.Spec PyProof.Rows

/-- a key: an int or a str -/
abbrev Key := Sum Int Str
def keyIs : Key → Value → Bool
  | .inl k, v => Value.isInt k v
  | .inr x, v => Value.isStrOf x v
def keyH (w : World) : Key → Int
  | .inl k => hashInt k
  | .inr x => hashStr w x
theorem keyIs_shape : ∀ {k : Key} {v : Value}, keyIs k v = true → (∃ i t, k = Sum.inl i ∧ v = Value.int i t) ∨ (∃ x t, k = Sum.inr x ∧ v = Value.str x t)
  | .inl i, v, h => by
    obtain ⟨t, e⟩ := Value.isInt_shape (k := i) (v := v) h
    exact .inl ⟨i, t, rfl, e⟩
  | .inr x, v, h => by
    obtain ⟨t, e⟩ := Value.isStrOf_shape (x := x) (v := v) h
    exact .inr ⟨x, t, rfl, e⟩
theorem keyIs_int (i : Int) (t : Tok) : keyIs (.inl i) (.int i t) = true := by simp [keyIs, Value.isInt]
theorem keyIs_str (x : Str) (t : Tok) : keyIs (.inr x) (.str x t) = true := by simp [keyIs, Value.isStrOf]
theorem key_ll (a b : Int) : decide ((Sum.inl a : Key) = Sum.inl b) = (a == b) := by
  by_cases e : a = b
  · subst e; simp
  · have h : ¬ (Sum.inl a : Key) = Sum.inl b := fun q => e (Sum.inl.inj q)
    rw [decide_eq_false h]
    exact (beq_eq_false_iff_ne.mpr e).symm
theorem key_rr (a b : Str) : decide ((Sum.inr a : Key) = Sum.inr b) = decide (a = b) := by
  by_cases e : a = b
  · subst e; simp
  · have h : ¬ (Sum.inr a : Key) = Sum.inr b := fun q => e (Sum.inr.inj q)
    rw [decide_eq_false h, decide_eq_false e]
theorem key_lr (a : Int) (b : Str) : decide ((Sum.inl a : Key) = Sum.inr b) = false := decide_eq_false (fun q => nomatch q)
theorem key_rl (a : Str) (b : Int) : decide ((Sum.inr a : Key) = Sum.inl b) = false := decide_eq_false (fun q => nomatch q)

def mixKind (prog : Program) (w : World) : PySem.KeyKind prog w Key where
  is := keyIs
  hash := keyH w
  inj := fun v a b ha hb => by
    rcases keyIs_shape ha with ⟨i, t, rfl, rfl⟩ | ⟨x, t, rfl, rfl⟩
    · rcases keyIs_shape hb with ⟨j, u, rfl, e⟩ | ⟨y, u, rfl, e⟩
      · injection e with e1 _; rw [e1]
      · exact nomatch e
    · rcases keyIs_shape hb with ⟨j, u, rfl, e⟩ | ⟨y, u, rfl, e⟩
      · exact nomatch e
      · injection e with e1 _; rw [e1]
  byValue := fun k v h => by
    rcases keyIs_shape h with ⟨i, t, rfl, rfl⟩ | ⟨x, t, rfl, rfl⟩ <;> rfl
  pyHash := fun hv h => by
    rcases keyIs_shape hv with ⟨i, t, rfl, rfl⟩ | ⟨x, t, rfl, rfl⟩
    · exact wpAny_pyHash_int h
    · exact wpAny_pyHash_str h
  eqBool := fun hu hv h => by
    rcases keyIs_shape hu with ⟨i, t, rfl, rfl⟩ | ⟨x, t, rfl, rfl⟩
    · rcases keyIs_shape hv with ⟨j, u, rfl, rfl⟩ | ⟨y, u, rfl, rfl⟩
      · rw [key_ll] at h; exact wpAny_eqBool_int h
      · rw [key_lr] at h; exact SeqAt.EqAt.int_str i t y u _ _ _ _ h
    · rcases keyIs_shape hv with ⟨j, u, rfl, rfl⟩ | ⟨y, u, rfl, rfl⟩
      · rw [key_rl] at h; exact SeqAt.EqAt.str_int x t j u _ _ _ _ h
      · rw [key_rr] at h; exact wpAny_eqBool_str h
  «strs» := fun k x t v h => by
    rcases keyIs_shape h with ⟨i, u, rfl, e⟩ | ⟨y, u, rfl, e⟩
    · exact nomatch e
    · injection e with e1 _
      subst e1
      cases v <;> rfl

theorem mixKind_int (prog : Program) (w : World) (i : Int) (t : Tok) : (mixKind prog w).is (.inl i) (.int i t) = true := keyIs_int i t
theorem mixKind_str (prog : Program) (w : World) (x : Str) (t : Tok) : (mixKind prog w).is (.inr x) (.str x t) = true := keyIs_str x t
end L2

namespace L2
open PySem PySem.Spec PyProof.Rows

/-- a value, without the heap -/
inductive V where
  | non | bl (b : Bool) | int (i : Int) | str (x : Str) | byt (b : Array UInt8) | flt (b : UInt64) | ref (a : Addr) | ty (n : String)
  deriving DecidableEq

def RelV : V → Value → Prop
  | .non, u => u = Value.none
  | .bl b, u => u = Value.bool b
  | .int i, u => ∃ t, u = Value.int i t
  | .str x, u => ∃ t, u = Value.str x t
  | .byt b, u => ∃ t, u = Value.bytes b t
  | .flt b, u => ∃ t, u = Value.float b t
  | .ref a, u => u = Value.ref a
  | .ty n, u => u = Value.type n

abbrev Vals : List V → List Value → Prop := Paired RelV
theorem Vals.length {xs : List V} {us : List Value} (r : Vals xs us) : xs.length = us.length := Paired.length r
theorem Vals.get : ∀ {xs : List V} {us : List Value} {i : Nat} {x : V}, Vals xs us → xs[i]? = some x → ∃ u, us[i]? = some u ∧ RelV x u
  | _, _, _, _, .nil, e => by simp at e
  | _, _, 0, _, .cons r _, e => by simp at e; subst e; exact ⟨_, rfl, r⟩
  | _, _, i + 1, x, .cons _ t, e => by
    obtain ⟨u, h1, h2⟩ := Vals.get (i := i) (x := x) t (by simpa using e)
    exact ⟨u, by simpa using h1, h2⟩
theorem Vals.set {x : V} {u : Value} (r : RelV x u) : ∀ {xs : List V} {us : List Value} (i : Nat), Vals xs us → Vals (xs.set i x) (us.set i u)
  | _, _, _, .nil => .nil
  | _, _, 0, .cons _ t => .cons r t
  | _, _, i + 1, .cons q t => .cons q (Vals.set r i t)
theorem Vals.append : ∀ {xs ys : List V} {us ws : List Value}, Vals xs us → Vals ys ws → Vals (xs ++ ys) (us ++ ws)
  | _, _, _, _, .nil, s => s
  | _, _, _, _, .cons r t, s => .cons r (Vals.append t s)
theorem Vals.take : ∀ {xs : List V} {us : List Value} (n : Nat), Vals xs us → Vals (xs.take n) (us.take n)
  | _, _, 0, _ => .nil
  | _, _, _ + 1, .nil => .nil
  | _, _, n + 1, .cons r t => .cons r (Vals.take n t)
theorem Vals.drop : ∀ {xs : List V} {us : List Value} (n : Nat), Vals xs us → Vals (xs.drop n) (us.drop n)
  | _, _, 0, r => r
  | _, _, _ + 1, .nil => .nil
  | _, _, n + 1, .cons _ t => Vals.drop n t
theorem Vals.none_of : ∀ {xs : List V} {us : List Value} {i : Nat}, Vals xs us → xs[i]? = none → us[i]? = none := fun {xs us i} r e => by
  have h1 := r.length
  have h2 : xs.length ≤ i := List.getElem?_eq_none_iff.mp e
  exact List.getElem?_eq_none_iff.mpr (by omega)

def RelO : Option V → Option Value → Prop
  | some v, some u => RelV v u
  | none, none => True
  | _, _ => False
def KV {κ : Type} : List (κ × V) → List (κ × Value) → Prop := Paired fun (p : κ × V) (q : κ × Value) => p.1 = q.1 ∧ RelV p.2 q.2

/-- a key of a dict (00_mix): an int or a text -/
def kV : Key → V
  | .inl i => .int i
  | .inr x => .str x

/-- what stands at a tracked address -/
inductive HO where
  /-- a list -/
  | lst (xs : List V)
  /-- a tuple (never changes) -/
  | tup (xs : List V)
  /-- a dict whose keys are ints and texts; one whose keys are tuples of ints and texts (the empty one is both) -/
  | dK (kvs : List (Key × V)) | dT (kvs : List (List Key × V))
  /-- a set of ints: its members, its size -/
  | set (S : Int → Bool) (n : Nat)
  /-- an instance of the class at C, its dict at dx, its attributes -/
  | ins (C dx : Addr) (fs : List (Str × V))
  /-- the dict of the instance at x -/
  | own (x : Addr)
  /-- the dict of an exception -/
  | xd (fs : List (Str × V))
  /-- a bound method, f of x -/
  | met (f x : Addr)
  /-- a range object lo, lo + 1, .. below hi -/
  | rng (lo hi : Int)
  /-- a thing that is known to the object (the script; a dict while a loop walks it): read, never written while it is so -/
  | frz (o : Obj) (u : HO)
  /-- a code object's table -/
  | tbl (ps : Array Value)
  /-- any other thing, by what is true of its one object (a def of one's own: SetO a S n := HO.ext fun h => ..) -/
  | ext (φ : Heap → Prop)

abbrev Hp := Addr → Option HO
def upd (H : Hp) (a : Addr) (o : HO) : Hp := fun b => if b = a then some o else H b
theorem upd_same {H : Hp} {a : Addr} {o : HO} : upd H a o a = some o := by unfold upd; rw [if_pos rfl]
theorem upd_ne {H : Hp} {a b : Addr} {o : HO} (h : b ≠ a) : upd H a o b = H b := by unfold upd; rw [if_neg h]
theorem ne_of_none {H : Hp} {a b : Addr} {o : HO} (h : H a = some o) (h' : H b = none) : a ≠ b := by
  intro e; subst e; rw [h] at h'; cases h'

section
variable (P : Program) (w : World)
def ObjOk (H : Hp) (h : Heap) (a : Addr) : HO → Prop
  | .lst xs => xs.length ≤ sizeLine ∧ ∃ (its : List Value) (n : Nat), Vals xs its ∧ h.get? a = some { cls := .type "list", data := .seq its.toArray n }
  | .tup xs => xs.length ≤ sizeLine ∧ ∃ its : List Value, Vals xs its ∧ IsTup h a its.toArray
  | .dK kvs => kvs.length ≤ sizeLine ∧ (a == sysModules) = false ∧ ∃ vs, KV kvs vs ∧ h.DictOf (mixKind P w) a vs
  | .dT kvs => kvs.length ≤ sizeLine ∧ (a == sysModules) = false ∧ ∃ xs : List (List Key × Addr × Value),
      Paired (fun (p : List Key × V) (q : List Key × Addr × Value) => p.1 = q.1 ∧ H q.2.1 = some (.tup (p.1.map kV)) ∧ RelV p.2 q.2.2) kvs xs ∧
      ∃ o es ep, h.get? a = some o ∧ o.ExactDict ∧ o.data = .dict es ep ∧ es.toList = xs.map (entryOfKey (tupleKind (mixKind P w))) ∧ (xs.map (·.1)).Nodup
  | .set S n => h.SetOf (intKind P w) a S n
  | .ins C dx fs => H dx = some (.own a) ∧ fs.length ≤ 1000 ∧ dx ≠ a ∧ h.get? a = some (PySem.W.instObj C dx) ∧
      ∃ mA, h.Ns1 dx mA ∧ (∀ f, RelO (fs.lookup f) (mA f)) ∧ PySem.Within mA (fs.map (·.1))
  | .own _ => ∃ o, h.get? a = some o
  | .xd fs => ∃ mA, h.Ns1 a mA ∧ ∀ f, RelO (fs.lookup f) (mA f)
  | .rng lo hi => ∃ t u v, h.get? a = some { cls := .type "range", data := .fields #[.int lo t, .int hi u, .int 1 v] }
  | .frz o u => h.get? a = some o ∧ ObjOk H h a u
  | .tbl ps => h.get? a = some { cls := .none, data := .fields ps }
  | .met f x => h.get? a = some (PySem.W.methodObj (.ref f) (.ref x))
  | .ext φ => φ h ∧ (∃ o, h.get? a = some o) ∧ ∀ h1 h2 : Heap, φ h1 → (∀ o, h1.get? a = some o → h2.get? a = some o) → φ h2
/-- the abstract heap is held -/
def HOk (H : Hp) (h : Heap) : Prop := ∀ a o, H a = some o → ObjOk P w H h a o
end

section
variable {P : Program} {w : World} {H H' : Hp} {h h' : Heap} {a : Addr} {o : HO}
theorem ObjOk.lt (x : ObjOk P w H h a o) : a < h.objs.size := by
  cases o with
  | lst xs => obtain ⟨_, _, _, _, e⟩ := x; exact Heap.lt_size e
  | tup xs => obtain ⟨_, _, _, p⟩ := x; exact p.lt
  | dK kvs => obtain ⟨_, _, _, _, o, _, _, e, _⟩ := x; exact Heap.lt_size e
  | dT kvs => obtain ⟨_, _, _, _, o, _, _, e, _⟩ := x; exact Heap.lt_size e
  | set S n => obtain ⟨o, _, _, _, e, _⟩ := x; exact Heap.lt_size e
  | ins C dx fs => obtain ⟨_, _, _, e, _⟩ := x; exact Heap.lt_size e
  | own y => obtain ⟨_, e⟩ := x; exact Heap.lt_size e
  | xd fs => obtain ⟨_, ⟨_, _, _, e, _⟩, _⟩ := x; exact Heap.lt_size e
  | rng lo hi => obtain ⟨_, _, _, e⟩ := x; exact Heap.lt_size e
  | frz ob u => obtain ⟨e, _⟩ := x; exact Heap.lt_size e
  | tbl ps => exact Heap.lt_size (show h.get? a = some _ from x)
  | met f y => exact Heap.lt_size (show h.get? a = some _ from x)
  | ext φ => obtain ⟨_, ⟨_, e⟩, _⟩ := x; exact Heap.lt_size e
theorem Paired.mapP {α β : Type} {F G : α → β → Prop} : ∀ {l₁ : List α} {l₂ : List β}, Paired F l₁ l₂ → (∀ a b, F a b → G a b) → Paired G l₁ l₂
  | _, _, .nil, _ => .nil
  | _, _, .cons r t, f => .cons (f _ _ r) (Paired.mapP t f)
theorem Paired.imp' {α β : Type} {F G : α → β → Prop} (f : ∀ a b, F a b → G a b) {l₁ : List α} {l₂ : List β} (r : Paired F l₁ l₂) : Paired G l₁ l₂ := Paired.mapP r f
/-- what an object's description leans on: its own object, its own dict, the tuples -/
theorem ObjOk.stay (x : ObjOk P w H h a o) (k : ∀ b u, (b = a ∨ H b = some (.own a)) → h.get? b = some u → h'.get? b = some u)
    (ho : ∀ b, H b = some (.own a) → H' b = some (.own a)) (ht : ∀ b xs, H b = some (.tup xs) → H' b = some (.tup xs)) : ObjOk P w H' h' a o := by
  induction o with
  | lst xs => obtain ⟨z, its, n, r, e⟩ := x; exact ⟨z, its, n, r, k _ _ (.inl rfl) e⟩
  | tup xs => obtain ⟨z, its, r, ob, e, c⟩ := x; exact ⟨z, its, r, ob, k _ _ (.inl rfl) e, c⟩
  | dK kvs => obtain ⟨z, y, vs, r, ob, es, ep, e, c⟩ := x; exact ⟨z, y, vs, r, ob, es, ep, k _ _ (.inl rfl) e, c⟩
  | dT kvs =>
    obtain ⟨z, y, xs, r, ob, es, ep, e, c⟩ := x
    exact ⟨z, y, xs, Paired.mapP r fun p q z => ⟨z.1, ht _ _ z.2.1, z.2.2⟩, ob, es, ep, k _ _ (.inl rfl) e, c⟩
  | set S n => obtain ⟨ob, es, ep, t, e, c⟩ := x; exact ⟨ob, es, ep, t, k _ _ (.inl rfl) e, c⟩
  | ins C dx fs =>
    obtain ⟨d, z, ne, e, mA, ⟨od, es, ep, e2, c⟩, r⟩ := x
    exact ⟨ho _ d, z, ne, k _ _ (.inl rfl) e, mA, ⟨od, es, ep, k _ _ (.inr d) e2, c⟩, r⟩
  | own y => obtain ⟨ob, e⟩ := x; exact ⟨ob, k _ _ (.inl rfl) e⟩
  | xd fs => obtain ⟨mA, ⟨od, es, ep, e, c⟩, r⟩ := x; exact ⟨mA, ⟨od, es, ep, k _ _ (.inl rfl) e, c⟩, r⟩
  | rng lo hi => obtain ⟨t, u, v, e⟩ := x; exact ⟨t, u, v, k _ _ (.inl rfl) e⟩
  | frz ob u ih => obtain ⟨e, q⟩ := x; exact ⟨k _ _ (.inl rfl) e, ih q⟩
  | tbl ps =>
    have e : h.get? a = some { cls := .none, data := .fields ps } := x
    show h'.get? a = some { cls := .none, data := .fields ps }
    exact k a _ (.inl rfl) e
  | met f y =>
    have e : h.get? a = some (PySem.W.methodObj (.ref f) (.ref y)) := x
    show h'.get? a = some (PySem.W.methodObj (.ref f) (.ref y))
    exact k a _ (.inl rfl) e
  | ext φ => obtain ⟨p, ⟨o, e⟩, st⟩ := x; exact ⟨st _ _ p fun o q => k _ _ (.inl rfl) q, ⟨o, k _ _ (.inl rfl) e⟩, st⟩
theorem HOk.lt (x : HOk P w H h) (e : H a = some o) : a < h.objs.size := (x a o e).lt
theorem HOk.fresh (x : HOk P w H h) (e : h.objs.size ≤ a) : H a = none := by
  cases q : H a with
  | none => rfl
  | some u => exact absurd (Nat.lt_of_lt_of_le (x.lt q) e) (Nat.lt_irrefl _)
/-- every object of the heap is kept -/
theorem HOk.kept (x : HOk P w H h) (k : ∀ b u, h.get? b = some u → h'.get? b = some u) : HOk P w H h' := fun a o e =>
  (x a o e).stay (fun b u _ q => k b u q) (fun _ q => q) fun _ _ q => q
/-- a new object is laid and tracked -/
theorem HOk.laid (x : HOk P w H h) (k : ∀ b u, h.get? b = some u → h'.get? b = some u) (hp : h.objs.size ≤ a) (new : ObjOk P w (upd H a o) h' a o) : HOk P w (upd H a o) h' := fun b u e => by
  have hn := x.fresh hp
  by_cases hb : b = a
  · subst hb; rw [upd_same] at e; cases e; exact new
  · rw [upd_ne hb] at e
    exact (x b u e).stay (fun c v _ q => k c v q) (fun c q => by rw [upd_ne (ne_of_none q hn)]; exact q) fun c xs q => by rw [upd_ne (ne_of_none q hn)]; exact q
end

/-- what may be read as u: it is u, or a known u -/
def Rd (H : Hp) (a : Addr) (u : HO) : Prop := H a = some u ∨ ∃ o, H a = some (.frz o u)
theorem Rd.of {H : Hp} {a : Addr} {u : HO} (h : H a = some u) : Rd H a u := .inl h
theorem Rd.ok {P : Program} {w : World} {H : Hp} {h : Heap} {a : Addr} {u : HO} (r : Rd H a u) (x : HOk P w H h) : ObjOk P w H h a u := by
  rcases r with r | ⟨o, r⟩
  · exact x a u r
  · obtain ⟨_, q⟩ := x a _ r
    exact q
/-- what may be written -/
def Mut : Option HO → Prop
  | some (.lst _) => True
  | some (.dK _) => True
  | some (.dT _) => True
  | some (.set _ _) => True
  | some (.ins _ _ _) => True
  | some (.ext _) => True
  | _ => False
section
variable {P : Program} {w : World} {H : Hp} {h h' : Heap} {x e : Addr} {o' : HO}
/-- the object at e is changed: x itself, or the dict of the instance x -/
theorem HOk.write (ok : HOk P w H h) (mu : Mut (H x)) (he : e = x ∨ H e = some (.own x)) (k : ∀ b u, b ≠ e → h.get? b = some u → h'.get? b = some u) (heo : ∃ u, h'.get? e = some u)
    (new : ObjOk P w (upd H x o') h' x o') : HOk P w (upd H x o') h' := fun b u q => by
  have nown : ∀ c y, H c = some (.own y) → c ≠ x := fun c y r z => by subst z; rw [r] at mu; exact mu
  have ntup : ∀ c xs, H c = some (.tup xs) → c ≠ x := fun c xs r z => by subst z; rw [r] at mu; exact mu
  by_cases hb : b = x
  · subst hb; rw [upd_same] at q; cases q; exact new
  · rw [upd_ne hb] at q
    by_cases hbe : b = e
    · have q' : H b = some (.own x) := by
        rcases he with z | z
        · exact absurd (hbe.trans z) hb
        · rw [hbe]; exact z
      rw [q] at q'; cases q'
      obtain ⟨v, hv⟩ := heo
      exact ⟨v, by rw [hbe]; exact hv⟩
    · refine (ok b u q).stay (fun c v hc r => k c v ?_ r) (fun c r => by rw [upd_ne (nown c b r)]; exact r) fun c xs r => by rw [upd_ne (ntup c xs r)]; exact r
      rcases hc with rfl | hc
      · exact hbe
      · rintro rfl
        rcases he with z | z
        · exact nown c b hc z
        · rw [hc] at z; cases z; exact hb rfl
end

/-! ### kept unless tracked; of the frames at fs (the callers') the slots may change (an exception that passes writes there); of the records at ex (iterators) nothing is said -/
structure Un (fs ex : List Addr) (H H' : Hp) (h h' : Heap) : Prop where
  keep : ∀ b o, h.get? b = some o → H b = none → b ∉ fs → b ∉ ex → h'.get? b = some o
  slot : ∀ b o, h.get? b = some o → H b = none → b ∈ fs → b ∉ ex → ∃ sl, h'.get? b = some { o with slots := sl }
  free : ∀ b o, h.get? b = some o → H b = none → b ∉ ex → H' b = none
  there : ∀ b o, h.get? b = some o → b ∉ ex → ∃ o', h'.get? b = some o'
  tups : ∀ b xs, H b = some (.tup xs) → H' b = some (.tup xs)
  frzs : ∀ b o u, H b = some (.frz o u) → H' b = some (.frz o u)
  tbls : ∀ b ps, H b = some (.tbl ps) → ∃ more, H' b = some (.tbl (ps ++ more))
section
variable {fs fs' ex ex' : List Addr} {H H1 H2 : Hp} {h h1 h2 h' : Heap} {a x e : Addr} {o : HO}
theorem Un.any (u : Un fs ex H H1 h h1) {b : Addr} {ob : Obj} (q : h.get? b = some ob) (n : H b = none) (hx : b ∉ ex) : ∃ sl, h1.get? b = some { ob with slots := sl } := by
  by_cases hb : b ∈ fs
  · exact u.slot b ob q n hb hx
  · exact ⟨ob.slots, u.keep b ob q n hb hx⟩
theorem Un.trans (a : Un fs ex H H1 h h1) (b : Un fs ex H1 H2 h1 h2) : Un fs ex H H2 h h2 where
  keep := fun c ob q n hc hx => b.keep c ob (a.keep c ob q n hc hx) (a.free c ob q n hx) hc hx
  slot := fun c ob q n hc hx => by
    obtain ⟨sl, e1⟩ := a.slot c ob q n hc hx
    obtain ⟨sl', e2⟩ := b.slot c _ e1 (a.free c ob q n hx) hc hx
    exact ⟨sl', e2⟩
  free := fun c ob q n hx => by
    obtain ⟨o', e1⟩ := a.there c ob q hx
    exact b.free c o' e1 (a.free c ob q n hx) hx
  there := fun c ob q hx => by
    obtain ⟨o', e1⟩ := a.there c ob q hx
    exact b.there c o' e1 hx
  tups := fun c xs q => b.tups c xs (a.tups c xs q)
  frzs := fun c ob xs q => b.frzs c ob xs (a.frzs c ob xs q)
  tbls := fun c ps q => by
    obtain ⟨m1, e1⟩ := a.tbls c ps q
    obtain ⟨m2, e2⟩ := b.tbls c _ e1
    exact ⟨m1 ++ m2, by rw [e2, Array.append_assoc]⟩
theorem Un.kept (k : ∀ b u, h.get? b = some u → h'.get? b = some u) : Un fs ex H H h h' :=
  ⟨fun b ob q _ _ _ => k b ob q, fun b ob q _ _ _ => ⟨ob.slots, k b ob q⟩, fun _ _ _ n _ => n, fun b ob q _ => ⟨ob, k b ob q⟩, fun _ _ q => q, fun _ _ _ q => q, fun _ ps q => ⟨#[], by rw [q]; simp⟩⟩
theorem Un.refl : Un fs ex H H h h := Un.kept fun _ _ q => q
theorem Un.laid (k : ∀ b u, h.get? b = some u → h'.get? b = some u) (hp : h.objs.size ≤ a) (hn : H a = none) : Un fs ex H (upd H a o) h h' where
  keep := fun b u q _ _ _ => k b u q
  slot := fun b u q _ _ _ => ⟨u.slots, k b u q⟩
  free := fun b u q n _ => by rw [upd_ne (Nat.ne_of_lt (Nat.lt_of_lt_of_le (Heap.lt_size q) hp))]; exact n
  there := fun b u q _ => ⟨u, k b u q⟩
  tups := fun b xs q => by rw [upd_ne (ne_of_none q hn)]; exact q
  frzs := fun b u xs q => by rw [upd_ne (ne_of_none q hn)]; exact q
  tbls := fun b ps q => ⟨#[], by rw [upd_ne (ne_of_none q hn), q]; simp⟩
theorem Un.write (mu : Mut (H x)) (he : e = x ∨ H e = some (.own x)) (k : ∀ b u, b ≠ e → h.get? b = some u → h'.get? b = some u) (heo : ∃ u, h'.get? e = some u) : Un fs ex H (upd H x o) h h' := by
  have hx : ∀ b, H b = none → b ≠ x := fun b n z => by subst z; rw [n] at mu; exact mu
  have hb : ∀ b, H b = none → b ≠ e := fun b n z => by
    subst z
    rcases he with r | r
    · exact hx b n r
    · rw [n] at r; cases r
  have hm : ∀ b u, H b = some u → ¬ Mut (some u) → b ≠ x := fun b u q nm z => by subst z; rw [q] at mu; exact nm mu
  refine ⟨fun b u q n _ _ => k b u (hb b n) q, fun b u q n _ _ => ⟨u.slots, k b u (hb b n) q⟩, fun b u q n _ => by rw [upd_ne (hx b n)]; exact n, fun b u q _ => ?_,
    fun b xs q => by rw [upd_ne (hm b _ q fun z => z)]; exact q, fun b u xs q => by rw [upd_ne (hm b _ q fun z => z)]; exact q, fun b ps q => ⟨#[], by rw [upd_ne (hm b _ q fun z => z), q]; simp⟩⟩
  by_cases hbe : b = e
  · subst hbe; exact heo
  · exact ⟨u, k b u hbe q⟩
theorem Un.mono (u : Un fs ex H H1 h h1) (hs : ∀ b ∈ fs, b ∈ fs') (hx : ∀ b ∈ ex, b ∈ ex') : Un fs' ex' H H1 h h1 :=
  ⟨fun b ob q n hb he => u.keep b ob q n (fun z => hb (hs b z)) fun z => he (hx b z), fun _ _ q n _ he => u.any q n fun z => he (hx _ z), fun b ob q n he => u.free b ob q n fun z => he (hx b z), fun b ob q he => u.there b ob q fun z => he (hx b z), u.tups, u.frzs, u.tbls⟩
end

/-! ### the heap without what is tracked -/
def trk (h : Heap) (H : Hp) : List Addr := (List.range h.objs.size).filter fun a => (H a).isSome
def hidT (h : Heap) (H : Hp) : Heap := PySem.W.hideAll h (trk h H)
theorem hidT_size (h : Heap) (H : Hp) : (hidT h H).objs.size = h.objs.size := PySem.W.hideAll_size _ _
theorem hidT_get {h : Heap} {H : Hp} {b : Addr} {o : Obj} (e : h.get? b = some o) (n : H b = none) : (hidT h H).get? b = some o :=
  PySem.W.hideAll_get _ e fun hm => by
    have q : (H b).isSome = true := (List.mem_filter.mp hm).2
    rw [n] at q; simp at q
theorem of_hidT {h : Heap} {H : Hp} {b : Addr} {o : Obj} (e : (hidT h H).get? b = some o) : h.get? b = some o ∧ H b = none := by
  have e' : h.get? b = some o := PySem.W.of_hideAll (trk h H) e
  refine ⟨e', ?_⟩
  cases q : H b with
  | none => rfl
  | some x =>
    have hm : b ∈ trk h H := List.mem_filter.mpr ⟨List.mem_range.mpr (Heap.lt_size e'), by simp [q]⟩
    have z : (hidT h H).get? b = none := PySem.W.hideAll_none (trk h H) hm
    rw [z] at e; cases e

/-! ### OpenK's ledger, filled with every new object but one -/
def allNews (g h : Heap) (L : Addr) : List (Addr × Obj) := (List.range h.objs.size).filterMap fun a => if a = L ∨ (g.get? a).isSome = true then none else (h.get? a).map fun o => (a, o)
theorem mem_allNews {g h : Heap} {L a : Addr} {o : Obj} (h1 : a ≠ L) (h2 : g.get? a = none) (h3 : h.get? a = some o) : (a, o) ∈ allNews g h L :=
  List.mem_filterMap.mpr ⟨a, List.mem_range.mpr (Heap.lt_size h3), by simp [h1, h2, h3]⟩
theorem of_mem_allNews {g h : Heap} {L : Addr} {p : Addr × Obj} (hp : p ∈ allNews g h L) : p.1 ≠ L ∧ g.get? p.1 = none ∧ h.get? p.1 = some p.2 := by
  obtain ⟨b, _, e⟩ := List.mem_filterMap.mp hp
  split at e
  · cases e
  · rename_i hn
    cases q : h.get? b with
    | none => rw [q] at e; simp at e
    | some u =>
      rw [q] at e
      simp only [Option.map_some, Option.some.injEq] at e
      subst e
      refine ⟨fun z => hn (.inl z), ?_, q⟩
      show g.get? b = none
      cases r : g.get? b with
      | none => rfl
      | some v => exact (hn (.inr (by simp [r]))).elim
def rest (g h : Heap) (L d : Addr) : List (Addr × Obj) := (allNews g h L).filter fun p => decide (p.1 ≠ d)
theorem news_all {g h : Heap} {L : Addr} : News g L h (allNews g h L) := fun p hp => let ⟨a, b, c⟩ := of_mem_allNews hp; ⟨c, a, b⟩
end L2

namespace L2
open PySem PySem.Spec PyProof.Rows

/-- the module's facts, over the base: the heap at the law's entry without what is tracked there -/
structure Mod (K : PySem.W.Frag) (mg : Str → Option Value) (base : Heap) : Prop where
  kin : K.In base
  glob : base.Ns mainGlobals mg
  blt : ∃ mb, base.Ns builtinsNs mb ∧ ∀ x : Str, x ≠ "__name__" → mb x = bootBuiltins x
  nolimit : base.NoLimit

/-- the context: a def's body (or a comprehension's block) running. base: fixed through the whole law; s₀, H₀: the entry; outer: the frames whose slots others may change (a def's callers); stack: all frames that run;
   ex: iterators that were made ahead of the entry and are walked here (a comprehension's); fn: the names whose cells were made at the entry (a def: all; a comprehension's block: its own); calm: not within an except suite; pn: pins that every state bears; xe: what is wanted of an exception that leaves the code -/
structure Cx where
  prog : Program
  w : World
  K : PySem.W.Frag
  mg : Str → Option Value
  base : Heap
  A : Around
  N : List Str
  s₀ : Shared
  H₀ : Hp
  env : Env
  outer : List Env
  stack : List Env
  ex : List Addr
  fn : Str → Bool
  calm : Bool
  pn : List (Addr × Obj)
  xe : Value → Shared → Prop
/-- the callers' frames -/
def frs (l : List Env) : List Addr := l.filterMap (·.frame)
abbrev Cx.fs (X : Cx) : List Addr := frs X.outer

def Vis (sc : Scope) (x : Str) : Prop := sc.names.lookup x = some .local ∨ sc.names.lookup x = some .cell ∨ sc.names.lookup x = some .free
def Loc (sc : Scope) (x : Str) : Prop := sc.names.lookup x = some .local ∨ sc.names.lookup x = some .cell
def Look (env : Env) (h : Heap) (m : Str → Option Value) (x : Str) (u : Value) : Prop :=
  (env.kindOf x = some .local ∧ m x = some u) ∨ ((env.kindOf x = some .cell ∨ env.kindOf x = some .free) ∧ ∃ c, env.cells.lookup x = some c ∧ h.IsCell c (some u))

structure Cx.Ok (X : Cx) : Prop where
  mod : Mod X.K X.mg X.base
  kind : X.env.scope.kind = .function
  glob : X.env.globals = mainGlobals
  blt : X.env.builtins = builtinsNs
  above : X.s₀.heap.objs.size ≤ X.env.locals
  inj : ∀ x y c, X.env.cells.lookup x = some c → X.env.cells.lookup y = some c → x = y
  has : ∀ x, (X.env.kindOf x = some .cell ∨ X.env.kindOf x = some .free) → ∃ c, X.env.cells.lookup x = some c
  cab : ∀ x c, X.fn x = true → X.env.cells.lookup x = some c → X.s₀.heap.objs.size ≤ c
  hd : X.calm = true → X.A.handled = none
  frames : X.A.frames = some X.stack
  stk : X.stack = X.outer ∨ (X.stack = X.env :: X.outer ∧ X.env.frame = some X.env.locals)
  exf : ∀ b ∈ X.ex, b ≠ X.env.locals ∧ ∀ x c, X.env.cells.lookup x = some c → c ≠ b
  bs : ∀ b o, X.base.get? b = some o → X.s₀.heap.get? b = some o ∧ X.H₀ b = none
  bsz : X.base.objs.size ≤ X.s₀.heap.objs.size
  noex : ∀ b o, X.base.get? b = some o → b ∉ X.ex
  exfs : ∀ b ∈ X.ex, b ∉ X.fs
  funs : X.s₀.heap.FunFrames X.base X.outer
  frf : ∀ b ∈ X.fs, X.H₀ b = none

structure Inv (X : Cx) (pins : List (Addr × Obj)) (σ : List (Option V)) (H : Hp) (s : Shared) : Prop where
  ok : X.Ok
  os : s.os = X.s₀.os
  bare : AllBare s.gens
  base : Un X.fs X.ex X.H₀ H X.s₀.heap s.heap
  loc : ∃ m, s.heap.Ns X.env.locals m ∧ ∀ (i : Nat) (x : Str) (v : V), X.N[i]? = some x → σ[i]? = some (some v) → Vis X.env.scope x → ∃ u, RelV v u ∧ Look X.env s.heap m x u
  cell : ∀ x c, X.env.cells.lookup x = some c → ∃ v, s.heap.IsCell c v
  free : H X.env.locals = none
  freeC : ∀ x c, X.env.cells.lookup x = some c → H c = none
  pin : ∀ p ∈ X.pn ++ pins, s.heap.get? p.1 = some p.2 ∧ H p.1 = none ∧ p.1 ≠ X.env.locals ∧ p.1 ∉ X.fs ∧ ∀ v, p.2.data ≠ .cell v
  hok : HOk X.prog X.w H s.heap
  len : σ.length = X.N.length
  tk : 0 < s.toks

section
variable {X : Cx} {pins : List (Addr × Obj)} {σ : List (Option V)} {H H' : Hp} {s : Shared} {h' : Heap}

theorem Cx.Ok.nofr (ok : X.Ok) {b : Addr} {o : Obj} (e : X.base.get? b = some o) : b ∉ X.fs := fun hb => by
  have := (ok.funs.mem hb).1
  rw [e] at this; cases this
theorem Inv.bs (I : Inv X pins σ H s) : ∀ b o, X.base.get? b = some o → s.heap.get? b = some o ∧ H b = none := fun b o e =>
  ⟨I.base.keep b o (I.ok.bs b o e).1 (I.ok.bs b o e).2 (I.ok.nofr e) (I.ok.noex b o e), I.base.free b o (I.ok.bs b o e).1 (I.ok.bs b o e).2 (I.ok.noex b o e)⟩
theorem Inv.bk (I : Inv X pins σ H s) : ∀ b o, X.base.get? b = some o → s.heap.get? b = some o := fun b o e => (I.bs b o e).1
theorem Inv.mod (I : Inv X pins σ H s) : Mod X.K X.mg X.base := I.ok.mod
theorem Inv.kIn (I : Inv X pins σ H s) : X.K.In s.heap := I.ok.mod.kin.keeps I.bk
theorem Inv.nolimit (I : Inv X pins σ H s) : s.heap.NoLimit := I.ok.mod.nolimit.keeps I.bk
/-- the frame over the base: for OpenK's rules (K.In X.base is I.mod.kin) -/
theorem Inv.fr (I : Inv X pins σ H s) : ∃ m, Fr X.base X.env.locals s.heap m :=
  let ⟨m, hn, _⟩ := I.loc
  ⟨m, hn, I.bk, Nat.le_trans I.ok.bsz I.ok.above⟩
theorem Inv.lt (I : Inv X pins σ H s) : X.env.locals < s.heap.objs.size := let ⟨_, hn, _⟩ := I.loc; hn.lt
theorem Inv.sz (I : Inv X pins σ H s) : X.s₀.heap.objs.size ≤ s.heap.objs.size := Nat.le_trans I.ok.above (Nat.le_of_lt I.lt)
theorem Inv.nofs (I : Inv X pins σ H s) {a : Addr} (h : s.heap.objs.size ≤ a) : a ∉ X.fs := fun hb => by
  obtain ⟨_, o, ho, _⟩ := I.ok.funs.mem hb
  exact absurd (Nat.lt_of_lt_of_le (Heap.lt_size ho) (Nat.le_trans I.sz h)) (Nat.lt_irrefl _)
theorem Inv.cne (I : Inv X pins σ H s) : ∀ x c, X.env.cells.lookup x = some c → c ≠ X.env.locals := fun x c e z => by
  obtain ⟨v, o, ho, hd⟩ := I.cell x c e
  obtain ⟨m, ⟨o', es, ep, ho', hd', _⟩, _⟩ := I.loc
  rw [z, ho'] at ho; cases ho; rw [hd'] at hd; cases hd
theorem Inv.funs (I : Inv X pins σ H s) : s.heap.FunFrames X.base X.outer := by
  have all : ∀ (l : List Env), (∀ b ∈ frs l, b ∈ X.fs) → X.s₀.heap.FunFrames X.base l → s.heap.FunFrames X.base l := by
    intro l
    induction l with
    | nil => intro _ _; trivial
    | cons env r ih =>
      intro hs hl
      obtain ⟨hk, ⟨L, o, hf, hn, ho, hd⟩, hr⟩ := hl
      have hL : L ∈ X.fs := hs L (by unfold frs; rw [List.filterMap_cons, hf]; exact List.mem_cons_self)
      obtain ⟨sl, e⟩ := I.base.slot L o ho (I.ok.frf L hL) hL fun z => I.ok.exfs L z hL
      exact ⟨hk, ⟨L, _, hf, hn, e, hd⟩, ih (fun b hb => hs b (by unfold frs; rw [List.filterMap_cons, hf]; exact List.mem_cons_of_mem _ hb)) hr⟩
  exact all X.outer (fun _ hb => hb) I.ok.funs

/-- the frames that run, for a call -/
theorem Inv.stack (I : Inv X pins σ H s) : s.heap.FunFrames X.base X.stack := by
  rcases I.ok.stk with e | ⟨e, hf⟩
  · rw [e]; exact I.funs
  · rw [e]
    obtain ⟨m, hn, _⟩ := I.loc
    refine .cons (by rw [I.ok.kind]; decide) hf hn ?_ I.funs
    exact Heap.get?_none_of_le (Nat.le_trans I.ok.bsz I.ok.above)
theorem Inv.stkSub (I : Inv X pins σ H s) : ∀ b ∈ frs X.stack, b ∈ X.env.locals :: X.fs := fun b hb => by
  rcases I.ok.stk with e | ⟨e, hf⟩
  · rw [e] at hb; exact List.mem_cons_of_mem _ hb
  · rw [e] at hb
    unfold frs at hb
    rw [List.filterMap_cons, hf] at hb
    exact hb
theorem Inv.stkFree (I : Inv X pins σ H s) : ∀ b ∈ frs X.stack, H b = none := fun b hb => by
  rcases List.mem_cons.mp (I.stkSub b hb) with e | hb
  · rw [e]; exact I.free
  · obtain ⟨_, o, ho, _⟩ := I.ok.funs.mem hb
    exact I.base.free b o ho (I.ok.frf b hb) fun z => I.ok.exfs b z hb

/-- THE STEP: the untracked objects but the frame and the records at ch are kept (the callers' frames up to slots), the frame's map is kept, the new abstract heap is held -/
theorem Inv.step {g' : Array GenState} {t' : Nat} {d' : Drawn} {ch : List Addr} (I : Inv X pins σ H s)
    (hch : ∀ b ∈ ch, (b ∈ X.ex ∨ X.s₀.heap.objs.size ≤ b) ∧ b ≠ X.env.locals ∧ (∀ x c, X.env.cells.lookup x = some c → c ≠ b) ∧ ∀ p ∈ X.pn ++ pins, p.1 ≠ b)
    (keep : ∀ b o, b ≠ X.env.locals → b ∉ X.fs → b ∉ ch → s.heap.get? b = some o → H b = none → h'.get? b = some o)
    (slot : ∀ b o, b ≠ X.env.locals → b ∈ X.fs → b ∉ ch → s.heap.get? b = some o → H b = none → ∃ sl, h'.get? b = some { o with slots := sl }) (free : ∀ b o, b ∉ ch → s.heap.get? b = some o → H b = none → H' b = none)
    (there : ∀ b o, b ∉ ch → s.heap.get? b = some o → ∃ o', h'.get? b = some o')
    (tups : ∀ b xs, H b = some (.tup xs) → H' b = some (.tup xs)) (frzs : ∀ b o u, H b = some (.frz o u) → H' b = some (.frz o u)) (tbls : ∀ b ps, H b = some (.tbl ps) → ∃ more, H' b = some (.tbl (ps ++ more)))
    (ns : ∀ m, s.heap.Ns X.env.locals m → h'.Ns X.env.locals m) (hok : HOk X.prog X.w H' h') (hg : AllBare g') (ht : 0 < t' := by first | assumption | exact Nat.succ_pos _ | (apply Inv.tk; assumption) | omega) :
    Inv X pins σ H' { s with heap := h', gens := g', drawn := d', toks := t' } := by
  have neL : ∀ b o, X.s₀.heap.get? b = some o → b ≠ X.env.locals := fun b o e => Nat.ne_of_lt (Nat.lt_of_lt_of_le (Heap.lt_size e) I.ok.above)
  have neC : ∀ b o, X.s₀.heap.get? b = some o → b ∉ X.ex → b ∉ ch := fun b o e hx hb => by
    rcases (hch b hb).1 with z | z
    · exact hx z
    · exact absurd (Nat.lt_of_lt_of_le (Heap.lt_size e) z) (Nat.lt_irrefl _)
  have cellK : ∀ x c, X.env.cells.lookup x = some c → ∀ v, s.heap.IsCell c v → h'.IsCell c v := fun x c e v ⟨o, ho, hd⟩ => by
    have nch : c ∉ ch := fun z => (hch c z).2.2.1 x c e rfl
    by_cases hc : c ∈ X.fs
    · obtain ⟨sl, q⟩ := slot c o (I.cne x c e) hc nch ho (I.freeC x c e)
      exact ⟨_, q, hd⟩
    · exact ⟨o, keep c o (I.cne x c e) hc nch ho (I.freeC x c e), hd⟩
  refine ⟨I.ok, I.os, hg, ⟨fun b o e n hb hx => ?_, fun b o e n hb hx => ?_, fun b o e n hx => ?_, fun b o e hx => ?_, fun b xs e => tups b xs (I.base.tups b xs e), fun b o xs e => frzs b o xs (I.base.frzs b o xs e), fun b ps e => ?_⟩, ?_, fun x c e => ?_, ?_, fun x c e => ?_, fun p hp => ?_, hok, I.len, ht⟩
  · exact keep b o (neL b o e) hb (neC b o e hx) (I.base.keep b o e n hb hx) (I.base.free b o e n hx)
  · obtain ⟨sl, e1⟩ := I.base.slot b o e n hb hx
    obtain ⟨sl', e2⟩ := slot b _ (neL b o e) hb (neC b o e hx) e1 (I.base.free b o e n hx)
    exact ⟨sl', e2⟩
  · obtain ⟨o', e1⟩ := I.base.there b o e hx
    exact free b o' (neC b o e hx) e1 (I.base.free b o e n hx)
  · obtain ⟨o', e1⟩ := I.base.there b o e hx
    exact there b o' (neC b o e hx) e1
  · obtain ⟨m1, e1⟩ := I.base.tbls b ps e
    obtain ⟨m2, e2⟩ := tbls b _ e1
    exact ⟨m1 ++ m2, by rw [e2, Array.append_assoc]⟩
  · obtain ⟨m, hn, hl⟩ := I.loc
    refine ⟨m, ns m hn, fun i x v e1 e2 e3 => ?_⟩
    obtain ⟨u, r, l⟩ := hl i x v e1 e2 e3
    refine ⟨u, r, ?_⟩
    rcases l with l | ⟨k, c, e, z⟩
    · exact .inl l
    · exact .inr ⟨k, c, e, cellK x c e _ z⟩
  · obtain ⟨v, z⟩ := I.cell x c e
    exact ⟨v, cellK x c e v z⟩
  · obtain ⟨m, ⟨o, _, _, ho, _⟩, _⟩ := I.loc
    exact free _ o (fun z => (hch _ z).2.1 rfl) ho I.free
  · obtain ⟨v, o, ho, hd⟩ := I.cell x c e
    exact free c o (fun z => (hch c z).2.2.1 x c e rfl) ho (I.freeC x c e)
  · obtain ⟨e, n, ne, nf, d⟩ := I.pin p hp
    have nch : p.1 ∉ ch := fun z => (hch p.1 z).2.2.2 p hp rfl
    exact ⟨keep p.1 p.2 ne nf nch e n, free p.1 p.2 nch e n, ne, nf, d⟩
/-- .. where the frame's own object is kept too -/
theorem Inv.un {t' : Nat} (I : Inv X pins σ H s) (u : Un X.fs [] H H' s.heap h') (hok : HOk X.prog X.w H' h') (ht : 0 < t' := by first | assumption | exact Nat.succ_pos _ | (apply Inv.tk; assumption) | omega) : Inv X pins σ H' { s with heap := h', toks := t' } := by
  obtain ⟨m, ⟨o, es, ep, ho, r⟩, _⟩ := id I.loc
  obtain ⟨sl, hL⟩ := u.any ho I.free (by simp)
  exact I.step (g' := s.gens) (d' := s.drawn) (ch := []) (fun _ z => nomatch z) (fun b o _ hb _ e n => u.keep b o e n hb (by simp)) (fun b o _ hb _ e n => u.slot b o e n hb (by simp)) (fun b o _ e n => u.free b o e n (by simp)) (fun b o _ e => u.there b o e (by simp)) u.tups u.frzs u.tbls (fun m' hm => by
    obtain ⟨o', es', ep', ho', r'⟩ := hm
    rw [ho] at ho'; cases ho'
    exact ⟨_, es', ep', hL, r'⟩) hok I.bare ht
/-- behind a call (or a comprehension's block): the slots of this frame may have changed too, the records at ch may have turned -/
theorem Inv.call {g' : Array GenState} {t' : Nat} {d' : Drawn} {ch : List Addr} (I : Inv X pins σ H s) (u : Un (frs X.stack) ch H H' s.heap h') (hok : HOk X.prog X.w H' h') (hg : AllBare g')
    (hch : ∀ b ∈ ch, (b ∈ X.ex ∨ X.s₀.heap.objs.size ≤ b) ∧ b ≠ X.env.locals ∧ (∀ x c, X.env.cells.lookup x = some c → c ≠ b) ∧ ∀ p ∈ X.pn ++ pins, p.1 ≠ b) (ht : 0 < t' := by first | assumption | exact Nat.succ_pos _ | (apply Inv.tk; assumption) | omega) :
    Inv X pins σ H' { s with heap := h', gens := g', drawn := d', toks := t' } := by
  obtain ⟨m, ⟨o, es, ep, ho, r⟩, _⟩ := id I.loc
  obtain ⟨sl, hL⟩ := u.any ho I.free fun z => (hch _ z).2.1 rfl
  exact I.step (ch := ch) hch (fun b o hL hb hc e n => u.keep b o e n (fun z => (List.mem_cons.mp (I.stkSub b z)).elim hL hb) hc) (fun b o _ _ hc e n => u.any e n hc) (fun b o hc e n => u.free b o e n hc) (fun b o hc e => u.there b o e hc) u.tups u.frzs u.tbls (fun m' hm => by
    obtain ⟨o', es', ep', ho', r'⟩ := hm
    rw [ho] at ho'; cases ho'
    exact ⟨_, es', ep', hL, r'⟩) hok hg ht
/-- an untracked record of ours (an iterator) has turned -/
theorem Inv.turned {t' : Nat} {it : Addr} (I : Inv X pins σ H s) (k : ∀ b o, b ≠ it → s.heap.get? b = some o → h'.get? b = some o) (hn : H it = none) (hL : it ≠ X.env.locals)
    (h1 : it ∈ X.ex ∨ X.s₀.heap.objs.size ≤ it) (h2 : ∀ x c, X.env.cells.lookup x = some c → c ≠ it) (h3 : ∀ p ∈ X.pn ++ pins, p.1 ≠ it) (ht : 0 < t' := by first | assumption | exact Nat.succ_pos _ | (apply Inv.tk; assumption) | omega) : Inv X pins σ H { s with heap := h', toks := t' } := by
  have nit : ∀ b u, H b = some u → b ≠ it := fun b u e z => by rw [z, hn] at e; cases e
  refine I.step (g' := s.gens) (d' := s.drawn) (ch := [it]) (fun b hb => ?_) (fun b o _ _ hc e _ => k b o (fun z => hc (by simp [z])) e) (fun b o _ _ hc e _ => ⟨o.slots, k b o (fun z => hc (by simp [z])) e⟩) (fun _ _ _ _ n => n)
    (fun b o hc e => ⟨o, k b o (fun z => hc (by simp [z])) e⟩) (fun _ _ e => e) (fun _ _ _ e => e) (fun b ps e => ⟨#[], by rw [e]; simp⟩) (fun m hm => ?_) (fun b u e => ?_) I.bare
  · have e : b = it := by simpa using hb
    subst e
    exact ⟨h1, hL, h2, h3⟩
  · obtain ⟨o, es, ep, ho, r⟩ := hm
    exact ⟨o, es, ep, k _ o (Ne.symm hL) ho, r⟩
  · refine (I.hok b u e).stay (fun c v hc q => k c v ?_ q) (fun _ q => q) fun _ _ q => q
    rcases hc with z | z
    · rw [z]; exact nit b u e
    · exact nit c _ z
theorem Inv.tok (I : Inv X pins σ H s) (t : Nat) (ht : 0 < t := by first | assumption | exact Nat.succ_pos _ | (apply Inv.tk; assumption) | omega) : Inv X pins σ H { s with toks := t } := I.un (h' := s.heap) (t' := t) Un.refl I.hok ht
/-- all objects kept -/
theorem Inv.kept {t' : Nat} (I : Inv X pins σ H s) (k : ∀ b u, s.heap.get? b = some u → h'.get? b = some u) (ht : 0 < t' := by first | assumption | exact Nat.succ_pos _ | (apply Inv.tk; assumption) | omega) : Inv X pins σ H { s with heap := h', toks := t' } := I.un (Un.kept k) (I.hok.kept k) ht
/-- a new object laid and tracked -/
theorem Inv.laid {a : Addr} {o : HO} {t' : Nat} (I : Inv X pins σ H s) (k : ∀ b u, s.heap.get? b = some u → h'.get? b = some u) (hp : s.heap.objs.size ≤ a) (new : ObjOk X.prog X.w (upd H a o) h' a o) (ht : 0 < t' := by first | assumption | exact Nat.succ_pos _ | (apply Inv.tk; assumption) | omega) :
    Inv X pins σ (upd H a o) { s with heap := h', toks := t' } := I.un (Un.laid k hp (I.hok.fresh hp)) (I.hok.laid k hp new) ht
/-- an object written -/
theorem Inv.write {x e : Addr} {o : HO} {t' : Nat} (I : Inv X pins σ H s) (mu : Mut (H x)) (he : e = x ∨ H e = some (.own x)) (k : ∀ b u, b ≠ e → s.heap.get? b = some u → h'.get? b = some u) (heo : ∃ u, h'.get? e = some u)
    (new : ObjOk X.prog X.w (upd H x o) h' x o) (ht : 0 < t' := by first | assumption | exact Nat.succ_pos _ | (apply Inv.tk; assumption) | omega) : Inv X pins σ (upd H x o) { s with heap := h', toks := t' } := I.un (Un.write mu he k heo) (I.hok.write mu he k heo new) ht
/-- forgetting slots, pins -/
theorem Inv.weak {σ' : List (Option V)} (I : Inv X pins σ H s) (hl : σ'.length = σ.length) (w : ∀ (i : Nat) v, σ'[i]? = some (some v) → σ[i]? = some (some v)) : Inv X pins σ' H s :=
  ⟨I.ok, I.os, I.bare, I.base, let ⟨m, hn, hl'⟩ := I.loc; ⟨m, hn, fun i x v e1 e2 e3 => hl' i x v e1 (w i v e2) e3⟩, I.cell, I.free, I.freeC, I.pin, I.hok, hl.trans I.len, I.tk⟩
theorem Inv.pins_of {pins' : List (Addr × Obj)} (I : Inv X pins σ H s) (h : ∀ p ∈ pins', s.heap.get? p.1 = some p.2 ∧ H p.1 = none ∧ p.1 ≠ X.env.locals ∧ p.1 ∉ X.fs ∧ ∀ v, p.2.data ≠ .cell v) : Inv X pins' σ H s :=
  ⟨I.ok, I.os, I.bare, I.base, I.loc, I.cell, I.free, I.freeC, fun p hp => (List.mem_append.mp hp).elim (fun z => I.pin p (List.mem_append_left _ z)) (h p), I.hok, I.len, I.tk⟩

theorem nodup_ix {N : List Str} (hN : N.Nodup) {i j : Nat} {x : Str} (a : N[i]? = some x) (b : N[j]? = some x) : i = j := by
  obtain ⟨h1, e1⟩ := List.getElem?_eq_some_iff.mp a
  obtain ⟨h2, e2⟩ := List.getElem?_eq_some_iff.mp b
  exact (List.getElem_inj hN).mp (e1.trans e2.symm)

/-- a name is stored; what changed -/
theorem store_ok2 {M : Model} {A : Around} {E : Value → Shared → Prop} {i : Nat} {x : Str} {v : V} {u : Value} {Q : Unit → Shared → Prop} (I : Inv X pins σ H s) (hN : X.N.Nodup) (hi : X.N[i]? = some x) (hx : Loc X.env.scope x) (r : RelV v u)
    (h : ∀ s', Inv X pins (σ.set i (some v)) H s' → (∃ a, Heap.SameBut a s.heap s'.heap ∧ (a = X.env.locals ∨ X.env.cells.lookup x = some a)) → Q () s') (hf : X.fn x = true ∨ X.env.scope.names.lookup x = some .local := by first | exact .inl rfl | exact .inr rfl | assumption) : wpAny M A (storeName X.env x u) Q E s := by
  obtain ⟨m, hn, hl⟩ := id I.loc
  have hcls : (X.env.scope.kind == .class || (X.env.scope.kind == .module && X.env.locals != X.env.globals)) = false := by rw [I.ok.kind]; rfl
  have hiσ : i < σ.length := by rw [I.len]; exact (List.getElem?_eq_some_iff.mp hi).1
  have cne := I.cne
  have tracked : ∀ {a : Addr} {h' : Heap}, (∃ o, s.heap.get? a = some o ∧ H a = none) → Heap.SameBut a s.heap h' → HOk X.prog X.w H h' := fun {a h'} ha hs b ob e => by
    obtain ⟨_, _, hfree⟩ := ha
    refine (I.hok b ob e).stay (fun c w' hc q => (hs.2 c ?_).trans q) (fun _ q => q) fun _ _ q => q
    rintro rfl
    rcases hc with rfl | hc
    · rw [hfree] at e; cases e
    · rw [hfree] at hc; cases hc
  rcases hx with hk | hk
  · refine wpAny_storeName_local hk hn (fun h' hn' hs => ?_) hcls
    obtain ⟨oL, _, _, hoL, _⟩ := id hn
    refine h _ ⟨I.ok, I.os, I.bare, ⟨fun b o e n hb hx => ?_, fun b o e n hb hx => ?_, I.base.free, fun b o e hx => ?_, I.base.tups, I.base.frzs, I.base.tbls⟩, ⟨_, hn', fun j y v' e1 e2 e3 => ?_⟩, fun y c e => ?_, I.free, I.freeC, fun p hp => ?_, tracked ⟨oL, hoL, I.free⟩ hs, by simpa using I.len, (by first | exact Nat.succ_pos _ | exact I.tk)⟩ ⟨_, hs, .inl rfl⟩
    · exact (hs.2 b (Nat.ne_of_lt (Nat.lt_of_lt_of_le (Heap.lt_size e) I.ok.above))).trans (I.base.keep b o e n hb hx)
    · obtain ⟨sl, e1⟩ := I.base.slot b o e n hb hx
      exact ⟨sl, (hs.2 b (Nat.ne_of_lt (Nat.lt_of_lt_of_le (Heap.lt_size e) I.ok.above))).trans e1⟩
    · obtain ⟨o', e1⟩ := I.base.there b o e hx
      exact ⟨o', (hs.2 b (Nat.ne_of_lt (Nat.lt_of_lt_of_le (Heap.lt_size e) I.ok.above))).trans e1⟩
    · by_cases hj : j = i
      · subst hj
        rw [hi] at e1; cases e1
        rw [List.getElem?_set_self hiσ] at e2
        cases e2
        exact ⟨u, r, .inl ⟨hk, by simp⟩⟩
      · rw [List.getElem?_set_ne (Ne.symm hj)] at e2
        obtain ⟨u', r', q⟩ := hl j y v' e1 e2 e3
        refine ⟨u', r', ?_⟩
        rcases q with ⟨k, e⟩ | ⟨k, c, e, z⟩
        · refine .inl ⟨k, ?_⟩
          have : y ≠ x := fun e => hj (nodup_ix hN e1 (e ▸ hi))
          simp [this, e]
        · exact .inr ⟨k, c, e, z.sameBut hs (cne y c e)⟩
    · obtain ⟨w', z⟩ := I.cell y c e
      exact ⟨w', z.sameBut hs (cne y c e)⟩
    · obtain ⟨e, n, ne, nf, d⟩ := I.pin p hp
      exact ⟨(hs.2 p.1 ne).trans e, n, ne, nf, d⟩
  · have hfn : X.fn x = true := by
      rcases hf with z | z
      · exact z
      · rw [z] at hk; cases hk
    obtain ⟨c, hc⟩ := I.ok.has x (.inl hk)
    obtain ⟨w', z⟩ := I.cell x c hc
    refine wpAny_storeName_cell I.ok.kind hk hc z (fun h' hc' hs => ?_)
    obtain ⟨oc, hoc, hocd⟩ := id z
    refine h { s with heap := h' } ⟨I.ok, I.os, I.bare, ⟨fun b o e n hb hx => ?_, fun b o e n hb hx => ?_, I.base.free, fun b o e hx => ?_, I.base.tups, I.base.frzs, I.base.tbls⟩, ⟨m, hn.sameBut hs (Ne.symm (cne x c hc)), fun j y v' e1 e2 e3 => ?_⟩, fun y c' e => ?_, I.free, I.freeC, fun p hp => ?_, tracked ⟨oc, hoc, I.freeC x c hc⟩ hs, by simpa using I.len, I.tk⟩ ⟨c, hs, .inr hc⟩
    · exact (hs.2 b (Nat.ne_of_lt (Nat.lt_of_lt_of_le (Heap.lt_size e) (I.ok.cab x c hfn hc)))).trans (I.base.keep b o e n hb hx)
    · obtain ⟨sl, e1⟩ := I.base.slot b o e n hb hx
      exact ⟨sl, (hs.2 b (Nat.ne_of_lt (Nat.lt_of_lt_of_le (Heap.lt_size e) (I.ok.cab x c hfn hc)))).trans e1⟩
    · obtain ⟨o', e1⟩ := I.base.there b o e hx
      exact ⟨o', (hs.2 b (Nat.ne_of_lt (Nat.lt_of_lt_of_le (Heap.lt_size e) (I.ok.cab x c hfn hc)))).trans e1⟩
    · by_cases hj : j = i
      · subst hj
        rw [hi] at e1; cases e1
        rw [List.getElem?_set_self hiσ] at e2
        cases e2
        exact ⟨u, r, .inr ⟨.inl hk, c, hc, hc'⟩⟩
      · rw [List.getElem?_set_ne (Ne.symm hj)] at e2
        obtain ⟨u', r', q⟩ := hl j y v' e1 e2 e3
        refine ⟨u', r', ?_⟩
        rcases q with q | ⟨k, c', e, z'⟩
        · exact .inl q
        · refine .inr ⟨k, c', e, z'.sameBut hs ?_⟩
          rintro rfl
          exact hj (nodup_ix hN e1 (I.ok.inj _ _ _ e hc ▸ hi))
    · by_cases hcc : c' = c
      · subst hcc; exact ⟨_, hc'⟩
      · obtain ⟨w2, z2⟩ := I.cell y c' e
        exact ⟨w2, z2.sameBut hs hcc⟩
    · obtain ⟨e, n, ne, nf, d⟩ := I.pin p hp
      refine ⟨(hs.2 p.1 ?_).trans e, n, ne, nf, d⟩
      intro q
      rw [q, hoc] at e
      have q' : oc = p.2 := Option.some.inj e
      exact d w' (by rw [← q']; exact hocd)
theorem store_ok {M : Model} {A : Around} {E : Value → Shared → Prop} {i : Nat} {x : Str} {v : V} {u : Value} {Q : Unit → Shared → Prop} (I : Inv X pins σ H s) (hN : X.N.Nodup) (hi : X.N[i]? = some x) (hx : Loc X.env.scope x) (r : RelV v u)
    (h : ∀ s', Inv X pins (σ.set i (some v)) H s' → Q () s') (hf : X.fn x = true ∨ X.env.scope.names.lookup x = some .local := by first | exact .inl rfl | exact .inr rfl | assumption) : wpAny M A (storeName X.env x u) Q E s :=
  store_ok2 I hN hi hx r (fun s' I' _ => h s' I') hf
/-- behind a call or a block, the state as it is -/
theorem Inv.call' {s' : Shared} {ch : List Addr} (I : Inv X pins σ H s) (ho : s'.os = s.os) (u : Un (frs X.stack) ch H H' s.heap s'.heap) (hok : HOk X.prog X.w H' s'.heap) (hg : AllBare s'.gens)
    (hch : ∀ b ∈ ch, (b ∈ X.ex ∨ X.s₀.heap.objs.size ≤ b) ∧ b ≠ X.env.locals ∧ (∀ x c, X.env.cells.lookup x = some c → c ≠ b) ∧ ∀ p ∈ X.pn ++ pins, p.1 ≠ b) (ht : 0 < s'.toks := by first | assumption | exact Nat.succ_pos _ | (apply Inv.tk; assumption) | omega) : Inv X pins σ H' s' := by
  obtain ⟨h', g', d', t', o'⟩ := s'
  have e : o' = s.os := ho
  subst e
  exact I.call (g' := g') (t' := t') (d' := d') u hok hg hch ht
end

/-! ### the judgements -/
/-- an exception: its class, its own dict's address (where it has one), the abstract heap behind it -/
abbrev XK := Value → Option Addr → Hp → Prop
abbrev St := List (Option V)
abbrev VK := V → Hp → Prop
/-- an expression's reading; a test's; an argument list's -/
abbrev TE := St → Hp → VK → Prop
abbrev TT := St → Hp → (Bool → Hp → Prop) → Prop
abbrev TA := St → Hp → (List V → Hp → Prop) → Prop
/-- what is wanted behind a statement -/
structure Ends where
  nx : St → Hp → Prop
  rt : VK
  bk : St → Hp → Prop := fun _ _ => False
  ct : St → Hp → Prop := fun _ _ => False
abbrev TS := Ends → St → Hp → Prop

def EP (X : Cx) (pins : List (Addr × Obj)) (σ : St) (Q : VK) (u : Value) (s' : Shared) : Prop := ∃ v H', Inv X pins σ H' s' ∧ RelV v u ∧ Q v H'
def TP (X : Cx) (pins : List (Addr × Obj)) (σ : St) (Q : Bool → Hp → Prop) (b : Bool) (s' : Shared) : Prop := ∃ H', Inv X pins σ H' s' ∧ Q b H'
def AP (X : Cx) (pins : List (Addr × Obj)) (σ : St) (Q : List V → Hp → Prop) (us : List Value) (s' : Shared) : Prop := ∃ vs H', Inv X pins σ H' s' ∧ Vals vs us ∧ Q vs H'
def SP (X : Cx) (pins : List (Addr × Obj)) (D : Ends) (f : Flow) (s' : Shared) : Prop :=
  match f with
  | .next => ∃ σ' H', Inv X pins σ' H' s' ∧ D.nx σ' H'
  | .brk => ∃ σ' H', Inv X pins σ' H' s' ∧ D.bk σ' H'
  | .cont => ∃ σ' H', Inv X pins σ' H' s' ∧ D.ct σ' H'
  | .ret u => ∃ v σ' H', Inv X pins σ' H' s' ∧ RelV v u ∧ D.rt v H'

def PE (X : Cx) (e : Expr) (t : TE) : Prop :=
  ∀ (pins : List (Addr × Obj)) (s : Shared) (σ : St) (H : Hp) (Q : VK), Inv X pins σ H s → t σ H Q → wpAny (model X.prog X.w) X.A (eval e X.env) (EP X pins σ Q) X.xe s
def PT (X : Cx) (e : Expr) (t : TT) : Prop :=
  ∀ (pins : List (Addr × Obj)) (s : Shared) (σ : St) (H : Hp) (Q : Bool → Hp → Prop), Inv X pins σ H s → t σ H Q → wpAny (model X.prog X.w) X.A (isTrue e X.env (eval e X.env)) (TP X pins σ Q) X.xe s
/-- a test whatever its 'whole' is (and, or) -/
def PW (X : Cx) (e : Expr) (t : TT) : Prop :=
  ∀ (whole : Sem Value) (pins : List (Addr × Obj)) (s : Shared) (σ : St) (H : Hp) (Q : Bool → Hp → Prop), Inv X pins σ H s → t σ H Q → wpAny (model X.prog X.w) X.A (isTrue e X.env whole) (TP X pins σ Q) X.xe s
theorem PW.pt {X : Cx} {e : Expr} {t : TT} (h : PW X e t) : PT X e t := h _
/-- an argument list (no star), from the left -/
def PA (X : Cx) (es : List Expr) (t : TA) : Prop :=
  ∀ (pos : Pos) (pins : List (Addr × Obj)) (s : Shared) (σ : St) (H : Hp) (Q : List V → Hp → Prop), Inv X pins σ H s → t σ H Q → wpAny (model X.prog X.w) X.A (spliced (backTo pos (starEach es X.env))) (AP X pins σ Q) X.xe s
def PS (X : Cx) (st : Stmt) (t : TS) : Prop :=
  ∀ (pins : List (Addr × Obj)) (s : Shared) (σ : St) (H : Hp) (D : Ends), Inv X pins σ H s → t D σ H → wpAny (model X.prog X.w) X.A (exec st X.env) (SP X pins D) X.xe s
def PSs (X : Cx) (st : List Stmt) (t : TS) : Prop :=
  ∀ (pins : List (Addr × Obj)) (s : Shared) (σ : St) (H : Hp) (D : Ends), Inv X pins σ H s → t D σ H → wpAny (model X.prog X.w) X.A (execs st X.env) (SP X pins D) X.xe s
/-- weaken the end -/
theorem thn {α : Type} {t : Sem α} {Q Q' : α → Shared → Prop} {M : Model} {A : Around} {E : Value → Shared → Prop} {s : Shared} (h : wpAny M A t Q E s) (hQ : ∀ a s, Q a s → Q' a s) : wpAny M A t Q' E s := wpAny_mono h hQ fun _ _ x => x
theorem tokQ {α : Type} {t : Sem α} {Q : α → Shared → Prop} {M : Model} {A : Around} {E : Value → Shared → Prop} {s : Shared} (h0 : 0 < s.toks) (h : wpAny M A t (fun a s' => 0 < s'.toks → Q a s') E s) : wpAny M A t Q E s :=
  wpAny_mono (wpAny_toks_of (n := 1) h0 h) (fun _ _ z => z.2 z.1) fun _ _ z => z.2
end L2

namespace L2
open PySem PySem.Spec PyProof.Rows
section
variable {X : Cx}

/-! ### names and constants -/
def tVar (i : Nat) : TE := fun σ H Q => ∃ v, σ[i]? = some (some v) ∧ Q v H
def tC (v : V) : TE := fun _ H Q => Q v H
theorem pe_var {i : Nat} {x : Str} {pos : Pos} (hN : X.N[i]? = some x) (hv : Vis X.env.scope x) (hd : (x == ("__debug__" : Str)) = false := by decide) (hcd : (x == ("__classdict__" : Str)) = false := by decide) : PE X (.Name x pos) (tVar i) := by
  intro pins s σ H Q I h
  obtain ⟨v, e, h⟩ := h
  obtain ⟨m, hn, hl⟩ := I.loc
  obtain ⟨u, r, l⟩ := hl i x v hN e hv
  have fin : EP X pins σ Q u s := ⟨v, H, I, r, h⟩
  rcases l with ⟨hk, hm⟩ | ⟨hk, c, hc, hcell⟩
  · exact wpAny_Name (wpAny_loadName_local I.ok.kind hk hn hm fin) hd
  · rcases hk with hk | hk
    · exact wpAny_Name (wpAny_loadName_cell I.ok.kind hk hc hcell fin) hd
    · exact wpAny_Name (wpAny_loadName_free I.ok.kind hk hc hcell fin hcd) hd
theorem pe_int {i j pos} : PE X (.Constant (.int i) j pos) (tC (.int i)) := fun _ _ _ H _ I h => wpAny_Constant_int ⟨.int i, H, I.tok _, ⟨_, rfl⟩, h⟩
theorem pe_bl {b j pos} : PE X (.Constant (.bool b) j pos) (tC (.bl b)) := fun _ _ _ H _ I h => Constant_bool ⟨.bl b, H, I, rfl, h⟩
theorem pe_non {j pos} : PE X (.Constant .none j pos) (tC .non) := fun _ _ _ H _ I h => Constant_none ⟨.non, H, I, rfl, h⟩
theorem pe_str {x j pos} : PE X (.Constant (.str x) j pos) (tC (.str x)) := fun _ _ _ H _ I h => Calls.Constant_str ⟨.str x, H, I.tok _, ⟨_, rfl⟩, h⟩

/-- a global name of the def -/
def Gl (X : Cx) (x : Str) : Prop := X.env.kindOf x = some .globalImplicit
theorem ld_glob {E : Value → Shared → Prop} {pins : List (Addr × Obj)} {s : Shared} {σ : St} {H : Hp} {x : Str} {u : Value} {pos : Pos} {Q : Value → Shared → Prop} (I : Inv X pins σ H s) (hg : Gl X x) (hm : X.mg x = some u) (h : Q u s)
    (hd : (x == ("__debug__" : Str)) = false := by decide) : wpAny (model X.prog X.w) X.A (eval (.Name x pos) X.env) Q E s :=
  Calls.Name_function_global I.ok.kind hg (Calls.loadGlobal_global (by rw [I.ok.glob]; exact I.mod.glob.keeps I.bk) hm h) hd
theorem ld_blt {E : Value → Shared → Prop} {pins : List (Addr × Obj)} {s : Shared} {σ : St} {H : Hp} {x : Str} {u : Value} {pos : Pos} {Q : Value → Shared → Prop} (I : Inv X pins σ H s) (hg : Gl X x) (hm : X.mg x = none) (hv : bootBuiltins x = some u) (h : Q u s)
    (hn : x ≠ "__name__" := by decide) (hd : (x == ("__debug__" : Str)) = false := by decide) : wpAny (model X.prog X.w) X.A (eval (.Name x pos) X.env) Q E s := by
  obtain ⟨mb, h1, h2⟩ := I.mod.blt
  exact Calls.Name_function_global I.ok.kind hg (Calls.loadGlobal_builtin (by rw [I.ok.glob]; exact I.mod.glob.keeps I.bk) hm (by rw [I.ok.blt]; exact h1.keeps I.bk) ((h2 x hn).trans hv) h) hd
theorem pe_bltn {x : Str} {v : V} {u : Value} {pos : Pos} (hg : Gl X x) (hm : X.mg x = none) (hv : bootBuiltins x = some u) (r : RelV v u) (hn : x ≠ "__name__" := by decide) (hd : (x == ("__debug__" : Str)) = false := by decide) : PE X (.Name x pos) (tC v) :=
  fun _ _ _ H _ I h => ld_blt I hg hm hv ⟨v, H, I, r, h⟩ hn hd

/-! ### arithmetic -/
variable {a b : Expr} {ta tb : TE} {pos : Pos}
/-! ### comparisons -/
/-- a comparison as a value, as a test -/
def tB (t : TE) : TT := fun σ H Q => t σ H fun x H1 => ∃ c, x = .bl c ∧ Q c H1
/-- an expression whose value is a bool, as a test -/
theorem pt_val {e : Expr} {t : TE} (h : PE X e t) (he : ∀ whole, isTrue e X.env whole = (do let v ← whole; standAt e.pos; holding [v] (truthy v)) := by intro _; rfl) : PT X e (tB t) := by
  intro pins s σ H Q I hw
  refine isTrue_plain (thn (h pins s σ H _ I hw) fun v s1 ⟨x, H1, I1, r1, q1⟩ => ?_) (he _)
  obtain ⟨d, rfl, q⟩ := q1
  cases r1
  exact wpAny_truthy_bool ⟨H1, I1, q⟩

/-! ### and, or, not -/
variable {tA tB' : TT} {rest : List Expr}
def tAnd (t u : TT) : TT := fun σ H Q => t σ H fun c H1 => if c = true then u σ H1 Q else Q false H1
def tOr (t u : TT) : TT := fun σ H Q => t σ H fun c H1 => if c = true then Q true H1 else u σ H1 Q
def tNot (t : TT) : TT := fun σ H Q => t σ H fun c H1 => Q (!c) H1
theorem pw_and1 (ha : PT X a tA) : PW X (.BoolOp .And [a] pos) tA := by
  intro wh pins s σ H Q I h
  refine isTrue_and (thn (ha pins s σ H Q I h) fun c s1 e => ?_)
  cases c with
  | true => exact isTrue_and_nil e
  | false => exact e
theorem pw_or1 (ha : PT X a tA) : PW X (.BoolOp .Or [a] pos) tA := by
  intro wh pins s σ H Q I h
  refine isTrue_or (thn (ha pins s σ H Q I h) fun c s1 e => ?_)
  cases c with
  | false => exact isTrue_or_nil e
  | true => exact e
theorem pw_and (ha : PT X a tA) (hb : PW X (.BoolOp .And (b :: rest) pos) tB') : PW X (.BoolOp .And (a :: b :: rest) pos) (tAnd tA tB') := by
  intro wh pins s σ H Q I h
  refine isTrue_and (thn (ha pins s σ H _ I h) fun c s1 ⟨H1, I1, q1⟩ => ?_)
  cases c with
  | true => exact hb wh pins s1 σ H1 Q I1 q1
  | false => exact ⟨H1, I1, q1⟩
theorem pw_or (ha : PT X a tA) (hb : PW X (.BoolOp .Or (b :: rest) pos) tB') : PW X (.BoolOp .Or (a :: b :: rest) pos) (tOr tA tB') := by
  intro wh pins s σ H Q I h
  refine isTrue_or (thn (ha pins s σ H _ I h) fun c s1 ⟨H1, I1, q1⟩ => ?_)
  cases c with
  | true => exact ⟨H1, I1, q1⟩
  | false => exact hb wh pins s1 σ H1 Q I1 q1
theorem pt_not (ha : PT X a tA) : PT X (.UnaryOp .Not a pos) (tNot tA) := by
  intro pins s σ H Q I h
  exact isTrue_not (ha pins s σ H (fun c H1 => Q (!c) H1) I h)
/-- a if t else b -/
def tIf (t : TT) (ta tb : TE) : TE := fun σ H Q => t σ H fun c H1 => if c = true then ta σ H1 Q else tb σ H1 Q
theorem pe_ifExp {c : Expr} (hc : PT X c tA) (ha : PE X a ta) (hb : PE X b tb) : PE X (.IfExp c a b pos) (tIf tA ta tb) := by
  intro pins s σ H Q I h
  refine wpAny_IfExp (thn (hc pins s σ H _ I h) fun d s1 ⟨H1, I1, q1⟩ => ?_)
  cases d with
  | true => exact ha pins s1 σ H1 Q I1 q1
  | false => exact hb pins s1 σ H1 Q I1 q1
end
end L2

namespace L2
open PySem PySem.Spec PyProof.Rows

/-! ### a list, a tuple that is read: tracked, frozen, or an object of the module -/
def SqL (K : PySem.W.Frag) (H : Hp) (a : Addr) (xs : List V) : Prop :=
  Rd H a (.lst xs) ∨
    ∃ (o : Obj) (its : Array Value) (n : Nat), K.lookup a = some o ∧ o.cls = .type "list" ∧ o.dict = none ∧ o.data = .seq its n ∧ its.size ≤ sizeLine ∧ Vals xs its.toList
def SqT (K : PySem.W.Frag) (H : Hp) (a : Addr) (xs : List V) : Prop :=
  Rd H a (.tup xs) ∨
    ∃ (o : Obj) (its : Array Value) (n : Nat), K.lookup a = some o ∧ o.cls = .type "tuple" ∧ o.data = .seq its n ∧ its.size ≤ sizeLine ∧ Vals xs its.toList
def absV : Value → Option V
  | .none => some .non
  | .bool b => some (.bl b)
  | .int i _ => some (.int i)
  | .str x _ => some (.str x)
  | .bytes b _ => some (.byt b)
  | .float b _ => some (.flt b)
  | .ref a => some (.ref a)
  | .type n => some (.ty n)
  | _ => none
theorem RelV.abs {x : V} {u : Value} (r : RelV x u) : absV u = some x := by
  cases x with
  | non => cases r; rfl
  | bl _ => cases r; rfl
  | int _ => obtain ⟨t, rfl⟩ := r; rfl
  | str _ => obtain ⟨t, rfl⟩ := r; rfl
  | byt _ => obtain ⟨t, rfl⟩ := r; rfl
  | flt _ => obtain ⟨t, rfl⟩ := r; rfl
  | ref _ => cases r; rfl
  | ty _ => cases r; rfl
theorem RelV.inj {x y : V} {u : Value} (r : RelV x u) (q : RelV y u) : x = y := Option.some.inj (r.abs.symm.trans q.abs)
theorem Vals.inj : ∀ {xs ys : List V} {us : List Value}, Vals xs us → Vals ys us → xs = ys
  | _, _, _, .nil, .nil => rfl
  | _, _, _, .cons r t, .cons r' t' => by rw [r.inj r', Vals.inj t t']
section
variable {X : Cx} {pins : List (Addr × Obj)} {σ : St} {H : Hp} {s : Shared} {a : Addr} {xs ys : List V}
theorem SqL.of {K : PySem.W.Frag} (h : H a = some (.lst xs)) : SqL K H a xs := .inl (.inl h)
theorem SqT.of {K : PySem.W.Frag} (h : H a = some (.tup xs)) : SqT K H a xs := .inl (.inl h)
theorem Inv.list (I : Inv X pins σ H s) (h : SqL X.K H a xs) : ∃ its : List Value, Vals xs its ∧ PlainL s.heap a its.toArray ∧ xs.length ≤ sizeLine := by
  rcases h with h | ⟨o, its, n, hk, hc, hd, hs, hz, r⟩
  · obtain ⟨z, its, n, r, e⟩ := h.ok I.hok
    exact ⟨its, r, ⟨_, n, e, rfl, rfl, rfl⟩, z⟩
  · refine ⟨its.toList, r, ⟨o, n, I.kIn a o hk, hc, hd, by simpa using hs⟩, ?_⟩
    have e := r.length
    simp only [Array.length_toList] at e
    omega
theorem Inv.tuple (I : Inv X pins σ H s) (h : SqT X.K H a xs) : ∃ its : List Value, Vals xs its ∧ IsTup s.heap a its.toArray ∧ xs.length ≤ sizeLine := by
  rcases h with h | ⟨o, its, n, hk, hc, hs, hz, r⟩
  · obtain ⟨z, its, r, p⟩ := h.ok I.hok
    exact ⟨its, r, p, z⟩
  · refine ⟨its.toList, r, ⟨o, I.kIn a o hk, hc, n, by simpa using hs⟩, ?_⟩
    have e := r.length
    simp only [Array.length_toList] at e
    omega
theorem Inv.list_inj (I : Inv X pins σ H s) (h : SqL X.K H a xs) (h' : SqL X.K H a ys) : xs = ys := by
  obtain ⟨its, r, ⟨o, n, e, _, _, d⟩, _⟩ := I.list h
  obtain ⟨its', r', ⟨o', n', e', _, _, d'⟩, _⟩ := I.list h'
  rw [e] at e'; cases e'
  rw [d] at d'
  injection d' with d1 _
  have : its = its' := by simpa using congrArg Array.toList d1
  subst this
  exact r.inj r'
theorem Inv.tuple_inj (I : Inv X pins σ H s) (h : SqT X.K H a xs) (h' : SqT X.K H a ys) : xs = ys := by
  obtain ⟨its, r, ⟨o, e, _, n, d⟩, _⟩ := I.tuple h
  obtain ⟨its', r', ⟨o', e', _, n', d'⟩, _⟩ := I.tuple h'
  rw [e] at e'; cases e'
  rw [d] at d'
  injection d' with d1 _
  have : its = its' := by simpa using congrArg Array.toList d1
  subst this
  exact r.inj r'
end

/-! ### another wish about exceptions -/
abbrev Cx.wish (X : Cx) (E : Value → Shared → Prop) : Cx := { X with xe := E }
/-- no exception leaves -/
abbrev Cx.nox (X : Cx) : Cx := X.wish fun _ _ => False
theorem Cx.Ok.wish {X : Cx} (ok : X.Ok) (E : Value → Shared → Prop) : (X.wish E).Ok :=
  ⟨ok.mod, ok.kind, ok.glob, ok.blt, ok.above, ok.inj, ok.has, ok.cab, ok.hd, ok.frames, ok.stk, ok.exf, ok.bs, ok.bsz, ok.noex, ok.exfs, ok.funs, ok.frf⟩
theorem Cx.Ok.unwish {X : Cx} {E : Value → Shared → Prop} (ok : (X.wish E).Ok) : X.Ok :=
  ⟨ok.mod, ok.kind, ok.glob, ok.blt, ok.above, ok.inj, ok.has, ok.cab, ok.hd, ok.frames, ok.stk, ok.exf, ok.bs, ok.bsz, ok.noex, ok.exfs, ok.funs, ok.frf⟩
section
variable {X : Cx} {pins : List (Addr × Obj)} {σ : St} {H : Hp} {s : Shared} {E : Value → Shared → Prop}
theorem Inv.wish (I : Inv X pins σ H s) (E : Value → Shared → Prop) : Inv (X.wish E) pins σ H s := ⟨I.ok.wish E, I.os, I.bare, I.base, I.loc, I.cell, I.free, I.freeC, I.pin, I.hok, I.len, I.tk⟩
theorem Inv.unwish (I : Inv (X.wish E) pins σ H s) : Inv X pins σ H s := ⟨I.ok.unwish, I.os, I.bare, I.base, I.loc, I.cell, I.free, I.freeC, I.pin, I.hok, I.len, I.tk⟩
theorem SP.unwish {D : Ends} {f : Flow} {s' : Shared} (h : SP (X.wish E) pins D f s') : SP X pins D f s' := by
  cases f with
  | next => obtain ⟨σ', H', I, q⟩ := h; exact ⟨σ', H', I.unwish, q⟩
  | brk => obtain ⟨σ', H', I, q⟩ := h; exact ⟨σ', H', I.unwish, q⟩
  | cont => obtain ⟨σ', H', I, q⟩ := h; exact ⟨σ', H', I.unwish, q⟩
  | ret u => obtain ⟨v, σ', H', I, r, q⟩ := h; exact ⟨v, σ', H', I.unwish, r, q⟩
theorem PE.nox {e : Expr} {t : TE} (h : PE X.nox e t) : PE X e t := fun pins s σ H Q I hw =>
  wpAny_mono (h pins s σ H Q (I.wish _) hw) (fun _ _ ⟨v, H', I', r, q⟩ => ⟨v, H', I'.unwish, r, q⟩) fun _ _ z => False.elim z
theorem PT.nox {e : Expr} {t : TT} (h : PT X.nox e t) : PT X e t := fun pins s σ H Q I hw =>
  wpAny_mono (h pins s σ H Q (I.wish _) hw) (fun _ _ ⟨H', I', q⟩ => ⟨H', I'.unwish, q⟩) fun _ _ z => False.elim z
theorem PSs.nox {st : List Stmt} {t : TS} (h : PSs X.nox st t) : PSs X st t := fun pins s σ H D I hw =>
  wpAny_mono (h pins s σ H D (I.wish _) hw) (fun _ _ q => q.unwish) fun _ _ z => False.elim z
end

/-! ### blocks and small statements -/
section
variable {X : Cx} {st : Stmt} {rest : List Stmt} {t u : TS} {e : Expr} {te : TE} {pos : Pos}
def tNext : TS := fun D σ H => D.nx σ H
def tSeq (t u : TS) : TS := fun D σ H => t { D with nx := u D } σ H
theorem pss_nil : PSs X [] tNext := fun _ _ σ H _ I h => wpAny_execs_nil ⟨σ, H, I, h⟩
theorem pss_cons (h1 : PS X st t) (h2 : PSs X rest u) : PSs X (st :: rest) (tSeq t u) := by
  intro pins s σ H D I h
  refine wpAny_execs_cons (thn (h1 pins s σ H { D with nx := u D } I h) fun f s1 q => ?_)
  cases f with
  | next =>
    obtain ⟨σ', H', I', q⟩ := q
    exact h2 pins s1 σ' H' D I' q
  | ret v => exact q
  | brk => exact q
  | cont => exact q
theorem pss_one (h1 : PS X st t) : PSs X [st] t := by
  intro pins s σ H D I h
  refine wpAny_execs_cons (thn (h1 pins s σ H D I h) fun f s1 q => ?_)
  cases f with
  | next => exact wpAny_execs_nil q
  | ret v => exact q
  | brk => exact q
  | cont => exact q
def tBreak : TS := fun D σ H => D.bk σ H
theorem ps_break : PS X (.Break pos) tBreak := fun _ _ σ H _ I h => wpAny_Break ⟨σ, H, I, h⟩
/-- in a def's body nothing is shown -/
theorem Inv.quiet {pins : List (Addr × Obj)} {σ : St} {H : Hp} {s : Shared} (I : Inv X pins σ H s) : interactive X.env = false := by simp [interactive, I.ok.kind]
/-- an expression whose value is dropped -/
def tDrop (te : TE) : TS := fun D σ H => te σ H fun _ H1 => D.nx σ H1
theorem ps_expr (he : PE X e te) (hs : swapsWith e none pos.line X.env = pure false := by rfl) : PS X (.Expr e pos) (tDrop te) := by
  intro pins s σ H D I h
  exact wpAny_Expr_any (thn (he pins s σ H _ I h) fun v s1 ⟨x, H1, I1, r1, q1⟩ => ⟨σ, H1, I1, q1⟩) I.quiet hs
def tRet (te : TE) : TS := fun D σ H => te σ H D.rt
theorem ps_ret (he : PE X e te) : PS X (.Return (some e) pos) (tRet te) := by
  intro pins s σ H D I h
  exact wpAny_Return_some (thn (he pins s σ H _ I h) fun v s1 ⟨x, H1, I1, r1, q1⟩ => ⟨x, σ, H1, I1, r1, q1⟩)
def tRetN : TS := fun D _ H => D.rt .non H
def tIfS (c : TT) (t u : TS) : TS := fun D σ H => c σ H fun b H1 => if b = true then t D σ H1 else u D σ H1
theorem ps_if {c : Expr} {a b : List Stmt} {tc : TT} (hc : PT X c tc) (ha : PSs X a t) (hb : PSs X b u) : PS X (.If c a b pos) (tIfS tc t u) := by
  intro pins s σ H D I h
  refine wpAny_If (thn (hc pins s σ H _ I h) fun d s1 ⟨H1, I1, q1⟩ => ?_)
  cases d with
  | true => exact ha pins s1 σ H1 D I1 q1
  | false => exact hb pins s1 σ H1 D I1 q1
end

/-! ### targets -/
abbrev TG := V → St → Hp → (St → Hp → Prop) → Prop
abbrev TGs := List V → St → Hp → (St → Hp → Prop) → Prop
def PG (X : Cx) (target : Expr) (t : TG) : Prop :=
  ∀ (pins : List (Addr × Obj)) (s : Shared) (σ : St) (H : Hp) (v : V) (u : Value) (Q : St → Hp → Prop), Inv X pins σ H s → RelV v u → t v σ H Q →
    wpAny (model X.prog X.w) X.A (assign target X.env u) (fun _ s' => ∃ σ' H', Inv X pins σ' H' s' ∧ Q σ' H') X.xe s
/-- several targets, one after another -/
def PGs (X : Cx) (ts : List Expr) (t : TGs) : Prop :=
  ∀ (pins : List (Addr × Obj)) (s : Shared) (σ : St) (H : Hp) (vs : List V) (us : List Value) (Q : St → Hp → Prop), Inv X pins σ H s → Vals vs us → t vs σ H Q →
    wpAny (model X.prog X.w) X.A (assignInOrder ((assignEach ts X.env).map (·.2)) us) (fun _ s' => ∃ σ' H', Inv X pins σ' H' s' ∧ Q σ' H') X.xe s
/-- o[i] = v, by values -/
abbrev TSet := V → V → V → Hp → (Hp → Prop) → Prop
section
variable {X : Cx} {pos : Pos}
def gName (i : Nat) : TG := fun v σ H Q => Q (σ.set i (some v)) H
theorem pg_name {i : Nat} {x : Str} (hN : X.N.Nodup) (hi : X.N[i]? = some x) (hx : Loc X.env.scope x) (hf : X.fn x = true ∨ X.env.scope.names.lookup x = some .local := by first | exact .inl rfl | exact .inr rfl | assumption) : PG X (.Name x pos) (gName i) := by
  intro pins s σ H v u Q I r h
  exact wpAny_assign_Name (store_ok I hN hi hx r (fun s' I' => ⟨_, H, I', h⟩) hf)
def gNil : TGs := fun vs σ H Q => vs = [] ∧ Q σ H
def gCons (t : TG) (u : TGs) : TGs := fun vs σ H Q => ∃ v r, vs = v :: r ∧ t v σ H fun σ' H' => u r σ' H' Q
theorem pgs_nil : PGs X [] gNil := by
  intro pins s σ H vs us Q I r h
  obtain ⟨e, h⟩ := h
  subst e
  cases r
  exact assignInOrder_nil ⟨σ, H, I, h⟩
theorem pgs_cons {e : Expr} {es : List Expr} {t : TG} {u : TGs} (h1 : PG X e t) (h2 : PGs X es u)
    (hs : (assignEach (e :: es) X.env).map (·.2) = assign e X.env :: (assignEach es X.env).map (·.2) := by rfl) : PGs X (e :: es) (gCons t u) := by
  intro pins s σ H vs us Q I r h
  obtain ⟨v, vr, e1, h⟩ := h
  subst e1
  cases r with
  | cons r rr =>
    rw [hs]
    refine assignInOrder_cons (thn (h1 pins s σ H _ _ _ I r h) fun _ s1 ⟨σ1, H1, I1, q1⟩ => ?_)
    exact h2 pins s1 σ1 H1 _ _ Q I1 rr q1
/-- (a, b, ..) = a tuple of that length -/
def gTup (K : PySem.W.Frag) (n : Nat) (t : TGs) : TG := fun v σ H Q => ∃ a xs, v = .ref a ∧ SqT K H a xs ∧ xs.length = n ∧ t xs σ H Q
theorem pg_tup {es : List Expr} {k : Nat} {t : TGs} {n : Nat} (hc : X.calm = true) (h : PGs X es t)
    (hn : (assignEach es X.env).length = n := by rfl) (hst : (assignEach es X.env).findIdx? (·.1) = none := by rfl) : PG X (.Tuple es k pos) (gTup X.K n t) := by
  intro pins s σ H v u Q I r hw
  obtain ⟨a, xs, e1, hq, hl, hw⟩ := hw
  subst e1
  cases r
  obtain ⟨its, rv, ht, hz⟩ := I.tuple hq
  refine assign_Tuple_tuple (I.ok.hd hc) ht (by simp [hn, ← hl, rv.length]) hst fun h' hx => ?_
  have I1 : Inv X pins σ H { s with heap := h' } := I.kept (t' := s.toks) fun b o e => hx b o (Nat.ne_of_lt (Heap.lt_size e)) e
  exact h pins _ σ H xs _ Q I1 (by simpa using rv) hw
/-- o[i] = .. -/
def gSub (to ti : TE) (t : TSet) : TG := fun v σ H Q => to σ H fun o H1 => ti σ H1 fun i H2 => t o i v H2 fun H3 => Q σ H3
/-- target = value -/
def tAsg (te : TE) (g : TG) : TS := fun D σ H => te σ H fun x H1 => g x σ H1 D.nx
theorem ps_asg {tg e : Expr} {te : TE} {g : TG} (he : PE X e te) (hg : PG X tg g) (hs : swapsWithSole [tg] e pos.line X.env = pure false := by rfl) (hw : swappedStores [tg] e X.env = pure none := by rfl)
    (h1 : (assignEach [tg] X.env).map (·.2) = [assign tg X.env] := by rfl) : PS X (.Assign [tg] e pos) (tAsg te g) := by
  intro pins s σ H D I h
  refine wpAny_Assign_stores (thn (he pins s σ H _ I h) fun v s1 ⟨x, H1, I1, r1, q1⟩ => ?_) hs hw
  rw [h1]
  exact thn (hg pins s1 σ H1 x v _ I1 r1 q1) fun _ s2 q => q
/-- name = value -/
theorem ps_set {i : Nat} {x : Str} {e : Expr} {te : TE} {pos' : Pos} (hN : X.N.Nodup) (hi : X.N[i]? = some x) (hx : Loc X.env.scope x) (he : PE X e te) (hs : swapsWith e (some (.Name x pos')) pos.line X.env = pure false := by rfl) (hf : X.fn x = true ∨ X.env.scope.names.lookup x = some .local := by first | exact .inl rfl | exact .inr rfl | assumption) :
    PS X (.Assign [.Name x pos'] e pos) (tAsg te (gName i)) := by
  intro pins s σ H D I h
  refine wpAny_Assign_Name (thn (he pins s σ H _ I h) fun v s1 ⟨y, H1, I1, r1, q1⟩ => ?_) hs
  exact store_ok I1 hN hi hx r1 (fun s2 I2 => ⟨_, H1, I2, q1⟩) hf
/-- a, b = x, y with plain local names: stored from the right; the pair itself is not tracked (the opening rows as in PyProof/Rows/TupAssign.lean:23) -/
def tPar (i j : Nat) (ta : TA) : TS := fun D σ H => ta σ H fun vs H1 => ∃ v w, vs = [v, w] ∧ D.nx ((σ.set i (some v)).set j (some w)) H1
end

/-! ### while -/
section
variable {X : Cx} {pos : Pos}
/-- the invariant W with its measure -/
def tWhile (c : TT) (tb : TS) : TS := fun D σ H => ∃ W : Nat → St → Hp → Prop, (∃ m, W m σ H) ∧ ∀ m σ H, W m σ H →
  c σ H fun b H1 => if b = true then ∃ N : St → Hp → Prop, (∀ σ' H', N σ' H' → ∃ m', m' < m ∧ W m' σ' H') ∧ tb { D with nx := N, ct := N, bk := D.nx } σ H1 else D.nx σ H1
theorem ps_while {c : Expr} {body : List Stmt} {tc : TT} {tb : TS} (hp : PassesOwn (model X.prog X.w) X.A X.env X.xe) (hc : PT X c tc) (hb : PSs X body tb) : PS X (.While c body [] pos) (tWhile tc tb) := by
  intro pins s σ H D I h
  obtain ⟨W, ⟨m0, w0⟩, turn⟩ := h
  refine wpAny_While (codeAny_whileLoop (fun n s' => ∃ σ' H', Inv X pins σ' H' s' ∧ W n σ' H') ?_ m0 ⟨σ, H, I, w0⟩)
  rintro n s1 ⟨σ1, H1, I1, w1⟩
  refine wpAny_passesOwn hp (thn (hc pins s1 σ1 H1 _ I1 (turn n σ1 H1 w1)) fun b s2 ⟨H2, I2, q2⟩ => ?_)
  cases b with
  | true =>
    obtain ⟨N, hN, q2⟩ := q2
    rw [if_pos rfl]
    refine wpAny_passesOwn hp (thn (hb pins s2 σ1 H2 _ I2 q2) fun f s3 q3 => ?_)
    cases f with
    | next =>
      obtain ⟨σ3, H3, I3, n3⟩ := q3
      obtain ⟨m', hm, w3⟩ := hN σ3 H3 n3
      exact ⟨m', hm, σ3, H3, I3, w3⟩
    | cont =>
      obtain ⟨σ3, H3, I3, n3⟩ := q3
      obtain ⟨m', hm, w3⟩ := hN σ3 H3 n3
      exact ⟨m', hm, σ3, H3, I3, w3⟩
    | brk => exact q3
    | ret v => exact q3
  | false =>
    rw [if_neg Bool.false_ne_true]
    exact wpAny_execs_nil ⟨σ1, H2, I2, q2⟩
end

/-! ### what a loop or a comprehension walks -/
/-- at turn i: it yields x (the heap may grow), or it stops -/
structure It where
  go : Nat → Hp → Prop
  yld : Nat → Hp → V → Hp → Prop
  stop : Nat → Hp → Prop
/-- the iterator's own objects may turn: they are not the frame's, not pinned, younger than the entry (or a comprehension's own) -/
def FpOk (X : Cx) (pins : List (Addr × Obj)) (H : Hp) (b : Addr) : Prop :=
  H b = none ∧ b ≠ X.env.locals ∧ b ∉ X.fs ∧ (b ∈ X.ex ∨ X.s₀.heap.objs.size ≤ b) ∧ (∀ x c, X.env.cells.lookup x = some c → c ≠ b) ∧ ∀ p ∈ X.pn ++ pins, p.1 ≠ b
theorem Inv.fpOk {X : Cx} {pins : List (Addr × Obj)} {σ : St} {H H' : Hp} {s : Shared} {b : Addr} (I : Inv X pins σ H s) (hb : s.heap.objs.size ≤ b) (hn : H' b = none) : FpOk X pins H' b := by
  refine ⟨hn, Nat.ne_of_gt (Nat.lt_of_lt_of_le I.lt hb), I.nofs hb, .inr (Nat.le_trans I.sz hb), fun x c e z => ?_, fun p hp z => ?_⟩
  · obtain ⟨v, q⟩ := I.cell x c e
    exact absurd (Nat.lt_of_lt_of_le q.lt (by rw [z]; exact hb)) (Nat.lt_irrefl _)
  · exact absurd (Nat.lt_of_lt_of_le (Heap.lt_size (I.pin p hp).1) (by rw [z]; exact hb)) (Nat.lt_irrefl _)
structure Turn (P : Program) (w : World) (K : PySem.W.Frag) (tg : Expr) (J : It) (fp : List Addr) (it : Addr) (tn : Nat → Heap → Prop) : Prop where
  mem : it ∈ fp
  obj : ∀ i h, tn i h → ∀ b ∈ fp, ∃ o, h.get? b = some o ∧ ∀ v, o.data ≠ .cell v
  keep : ∀ i h h', tn i h → (∀ b ∈ fp, ∀ o, h.get? b = some o → h'.get? b = some o) → tn i h'
  item : ∀ (X : Cx), X.prog = P → X.w = w → X.K = K → X.calm = true → ∀ (i : Nat) (pins : List (Addr × Obj)) (s : Shared) (σ : St) (H : Hp) (E : Value → Shared → Prop), Inv X pins σ H s → (∀ b ∈ fp, FpOk X pins H b) → tn i s.heap → J.go i H →
    wpAny (model P w) X.A (pyNext (.ref it)) (fun r s1 => ∃ u, r = some u ∧
      wpAny (model P w) X.A (letOwnedTupleGo tg (.ref it) u) (fun _ s2 => ∃ x H', Inv X pins σ H' s2 ∧ RelV x u ∧ J.yld i H x H' ∧ tn (i + 1) s2.heap ∧ ∀ b ∈ fp, H' b = none) E s1) E s
  done : ∀ (X : Cx), X.prog = P → X.w = w → X.K = K → X.calm = true → ∀ (i : Nat) (pins : List (Addr × Obj)) (s : Shared) (σ : St) (H : Hp) (E : Value → Shared → Prop), Inv X pins σ H s → (∀ b ∈ fp, FpOk X pins H b) → tn i s.heap → J.stop i H →
    wpAny (model P w) X.A (pyNext (.ref it)) (fun r s1 => r = none ∧ Inv X pins σ H s1) E s
  self : ∀ (A : Around) (i : Nat) (s : Shared) (Q : Value → Shared → Prop) (E : Value → Shared → Prop), tn i s.heap → Q (.ref it) s → wpAny (model P w) A (pyIter (.ref it)) Q E s
abbrev TI := St → Hp → (It → Hp → Prop) → Prop
/-- an iterator has come -/
def PIE (X : Cx) (pins : List (Addr × Obj)) (σ : St) (tg : Expr) (R : It → Hp → Prop) (itv : Value) (s2 : Shared) : Prop :=
  ∃ (it : Addr) (fp : List Addr) (tn : Nat → Heap → Prop) (J : It) (H' : Hp), itv = .ref it ∧ Inv X pins σ H' s2 ∧ Turn X.prog X.w X.K tg J fp it tn ∧ tn 0 s2.heap ∧ (∀ b ∈ fp, FpOk X pins H' b) ∧ R J H'
def PI (X : Cx) (tg iter : Expr) (wi : TI) : Prop :=
  ∀ (pins : List (Addr × Obj)) (s : Shared) (σ : St) (H : Hp) (R : It → Hp → Prop), Inv X pins σ H s → wi σ H R →
    wpAny (model X.prog X.w) X.A (eval iter X.env) (fun v s1 => wpAny (model X.prog X.w) X.A (pyIter v) (PIE X pins σ tg R) X.xe s1) X.xe s

/-- the step ahead of the store is nothing for an iterator that keeps no tuple -/
theorem go_of {M : Model} {A : Around} {E : Value → Shared → Prop} {s : Shared} {tg : Expr} {it : Addr} {u : Value} {o : Obj} {n : String} {vs : Array Value} {Q : Unit → Shared → Prop} (ho : s.heap.get? it = some o) (hc : o.cls = .type n) (hd : o.data = .fields vs)
    (hn : ["enumerate", "zip", "dict_itemiterator", "dict_reverseitemiterator", "odict_iterator", "itertools.zip_longest", "itertools.pairwise"].contains n = false) (hQ : Q () s) : wpAny M A (letOwnedTupleGo tg (.ref it) u) Q E s := by
  unfold letOwnedTupleGo
  cases tg <;> first
    | exact wpAny_pure hQ
    | (cases u <;> first
        | exact wpAny_pure hQ
        | (refine wpAny_bind (wpAny_load ho ?_)
           rw [hc, hd]
           show wpAny M A (if (["enumerate", "zip", "dict_itemiterator", "dict_reverseitemiterator", "odict_iterator", "itertools.zip_longest", "itertools.pairwise"].contains n && vs[0]? == some (rawInt _)) = true then _ else _) Q E s
           rw [if_neg (by intro h; rw [hn, Bool.false_and] at h; cases h)]
           exact wpAny_pure hQ))

/-- the list at a, as it stands at each turn (a loop may append to it) -/
def Itl (K : PySem.W.Frag) (a : Addr) : It :=
  ⟨fun i H => ∃ xs x, SqL K H a xs ∧ xs[i]? = some x, fun i H x H' => H' = H ∧ ∀ xs, SqL K H a xs → xs[i]? = some x, fun i H => ∃ xs, SqL K H a xs ∧ xs.length ≤ i⟩
def Itt (K : PySem.W.Frag) (a : Addr) : It :=
  ⟨fun i H => ∃ xs x, SqT K H a xs ∧ xs[i]? = some x, fun i H x H' => H' = H ∧ ∀ xs, SqT K H a xs → xs[i]? = some x, fun i H => ∃ xs, SqT K H a xs ∧ xs.length ≤ i⟩
/-- lo, lo + 1, .. (n of them) -/
def Itr (lo : Int) (n : Nat) : It := ⟨fun i _ => i < n, fun i H x H' => H' = H ∧ x = .int (lo + i), fun i _ => n ≤ i⟩
theorem turn_list {P : Program} {w : World} {K : PySem.W.Frag} {tg : Expr} (a it : Addr) : Turn P w K tg (Itl K a) [it] it (fun i h => h.IsListIter it a i) where
  mem := by simp
  obj := fun i h st b hb => by
    have e : b = it := by simpa using hb
    subst e
    obtain ⟨o, e, c, d⟩ := st
    exact ⟨o, e, fun v z => by rw [d] at z; cases z⟩
  keep := fun i h h' st k => st.at fun o e => k it (by simp) o e
  item := by
    intro X hP hw hK hc i pins s σ H E I hf st hg
    subst hP hw hK
    obtain ⟨xs, x, hq, hx⟩ := hg
    obtain ⟨its, rv, p, hz⟩ := I.list hq
    obtain ⟨u, hu, ru⟩ := rv.get hx
    obtain ⟨f0, f1, f2, f3, f4, f5⟩ := hf it (by simp)
    refine wpAny_pyNext_list_item st p.isList (x := u) (by simpa using hu) fun h' st' sb => ?_
    have I1 : Inv X pins σ H { s with heap := h' } := I.turned (t' := s.toks) (fun b o hb e => (sb.2 b hb).trans e) f0 f1 f3 f4 f5
    obtain ⟨o, e, c, d⟩ := id st'
    exact ⟨u, rfl, go_of (s := { s with heap := h' }) e c d (by decide) ⟨x, H, I1, ru, ⟨rfl, fun ys hy => by rw [I.list_inj hy hq]; exact hx⟩, st', fun b hb => (hf b hb).1⟩⟩
  done := by
    intro X hP hw hK hc i pins s σ H E I hf st hg
    subst hP hw hK
    obtain ⟨xs, hq, hx⟩ := hg
    obtain ⟨its, rv, p, hz⟩ := I.list hq
    obtain ⟨f0, f1, f2, f3, f4, f5⟩ := hf it (by simp)
    have hl := rv.length
    exact wpAny_pyNext_list_end (I.ok.hd hc) st p.isList (by simp; omega) fun h' eb => ⟨rfl, I.turned (t' := s.toks) (fun b o hb e => eb b o hb e) f0 f1 f3 f4 f5⟩
  self := fun _ _ _ _ _ st h => wpAny_pyIter_listiter st h
theorem turn_tuple {P : Program} {w : World} {K : PySem.W.Frag} {tg : Expr} (a it : Addr) : Turn P w K tg (Itt K a) [it] it (fun i h => h.IsTupleIter it a i) where
  mem := by simp
  obj := fun i h st b hb => by
    have e : b = it := by simpa using hb
    subst e
    obtain ⟨o, e, c, d⟩ := st
    exact ⟨o, e, fun v z => by rw [d] at z; cases z⟩
  keep := fun i h h' st k => st.at fun o e => k it (by simp) o e
  item := by
    intro X hP hw hK hc i pins s σ H E I hf st hg
    subst hP hw hK
    obtain ⟨xs, x, hq, hx⟩ := hg
    obtain ⟨its, rv, p, hz⟩ := I.tuple hq
    obtain ⟨u, hu, ru⟩ := rv.get hx
    obtain ⟨f0, f1, f2, f3, f4, f5⟩ := hf it (by simp)
    refine wpAny_pyNext_tuple_item st (show s.heap.IsTuple a its.toArray from p) (x := u) (by simpa using hu) fun h' st' sb => ?_
    have I1 : Inv X pins σ H { s with heap := h' } := I.turned (t' := s.toks) (fun b o hb e => (sb.2 b hb).trans e) f0 f1 f3 f4 f5
    obtain ⟨o, e, c, d⟩ := id st'
    exact ⟨u, rfl, go_of (s := { s with heap := h' }) e c d (by decide) ⟨x, H, I1, ru, ⟨rfl, fun ys hy => by rw [I.tuple_inj hy hq]; exact hx⟩, st', fun b hb => (hf b hb).1⟩⟩
  done := by
    intro X hP hw hK hc i pins s σ H E I hf st hg
    subst hP hw hK
    obtain ⟨xs, hq, hx⟩ := hg
    obtain ⟨its, rv, p, hz⟩ := I.tuple hq
    obtain ⟨f0, f1, f2, f3, f4, f5⟩ := hf it (by simp)
    have hl := rv.length
    exact wpAny_pyNext_tuple_end (I.ok.hd hc) st (show s.heap.IsTuple a its.toArray from p) (by simp; omega) fun h' eb => ⟨rfl, I.turned (t' := s.toks) (fun b o hb e => eb b o hb e) f0 f1 f3 f4 f5⟩
  self := fun _ _ _ _ _ st h => wpAny_pyIter_tupleiter st h
theorem turn_range {P : Program} {w : World} {K : PySem.W.Frag} {tg : Expr} (it : Addr) (lo : Int) (n : Nat) : Turn P w K tg (Itr lo n) [it] it (fun i h => IsRangeIter h it (lo + (i : Nat) * 1) ((n : Int) - (i : Nat)) 1) where
  mem := by simp
  obj := fun i h st b hb => by
    have e : b = it := by simpa using hb
    subst e
    exact ⟨_, st, fun v z => by
      have z' : Data.fields _ = Data.cell v := z
      cases z'⟩
  keep := fun i h h' st k => k it (by simp) _ st
  item := by
    intro X hP hw hK hc i pins s σ H E I hf st hg
    subst hP hw hK
    obtain ⟨f0, f1, f2, f3, f4, f5⟩ := hf it (by simp)
    have W := Walks.range (prog := X.prog) (w := X.w) (I.ok.hd hc) it lo 1 n
    refine tokQ I.tk (W.item i s _ _ hg st fun v h' tk hv st' kk (htk : 0 < tk) => ?_)
    obtain ⟨t, rfl⟩ := hv
    have I1 : Inv X pins σ H { s with heap := h', toks := tk } := I.turned (fun b o hb e => kk b o (by simpa using hb) e) f0 f1 f3 f4 f5
    refine ⟨_, rfl, go_of (s := { s with heap := h', toks := tk }) (n := "range_iterator") st' rfl rfl (by decide) ⟨.int (lo + i), H, I1, ⟨t, ?_⟩, ⟨rfl, rfl⟩, st', fun b hb => (hf b hb).1⟩⟩
    rw [Int.mul_one]
  done := by
    intro X hP hw hK hc i pins s σ H E I hf st hg
    subst hP hw hK
    obtain ⟨f0, f1, f2, f3, f4, f5⟩ := hf it (by simp)
    exact wpAny_pyNext_range_end (I.ok.hd hc) st (by have : n ≤ i := hg; omega) fun h' eb => ⟨rfl, I.turned (t' := s.toks) (fun b o hb e => eb b o hb e) f0 f1 f3 f4 f5⟩
  self := fun _ _ _ _ _ st h => wpAny_pyIter_rangeiter st h
end L2

namespace L2
open PySem PySem.Spec PyProof.Rows
section
variable {X : Cx} {tg : Expr}
/-- a range object just made, walked -/
theorem range_it {pins : List (Addr × Obj)} {σ : St} {H : Hp} {s : Shared} {R : It → Hp → Prop} {E : Value → Shared → Prop} {lo hi : Int} {t u v : Tok} {tk : Nat} (I : Inv X pins σ H s) (h1 : -(2 ^ 62) ≤ lo) (h2 : lo < 2 ^ 62) (h3 : -(2 ^ 62) ≤ hi) (h4 : hi < 2 ^ 62)
    (q : R (Itr lo (hi - lo).toNat) H) (htk : 0 < tk := by first | assumption | exact Nat.succ_pos _ | (apply Inv.tk; assumption) | omega) : wpAny (model X.prog X.w) X.A (pyIter (.ref s.heap.objs.size)) (PIE X pins σ tg R) E { s with heap := s.heap.push { cls := .type "range", data := .fields #[.int lo t, .int hi u, .int 1 v] }, toks := tk } := by
  refine wpAny_pyIter_range (IsRange.new ..) (small_one h1 h2 h3 h4) ?_
  have I1 : Inv X pins σ H { s with heap := s.heap.push { cls := .type "range", data := .fields #[.int lo t, .int hi u, .int 1 v] }, toks := tk } := I.kept fun b o e => Heap.get?_push_of_some _ e
  refine ⟨(s.heap.push { cls := .type "range", data := .fields #[.int lo t, .int hi u, .int 1 v] }).objs.size, [(s.heap.push { cls := .type "range", data := .fields #[.int lo t, .int hi u, .int 1 v] }).objs.size], _, _, H, rfl,
    I1.kept (t' := tk) fun b o e => Heap.get?_push_of_some _ e, turn_range _ lo (hi - lo).toNat, ?_, fun b hb => ?_, q⟩
  · have e1 : lo + ((0 : Nat) : Int) * 1 = lo := by simp
    have e2 : (((hi - lo).toNat : Nat) : Int) - ((0 : Nat) : Int) = Builtin.Range.rangeSize lo hi 1 := by rw [rangeSize_one]; split <;> omega
    show IsRangeIter _ _ (lo + ((0 : Nat) : Int) * 1) ((((hi - lo).toNat : Nat) : Int) - ((0 : Nat) : Int)) 1
    rw [e1, e2]
    exact Heap.get?_push_size _ rfl
  · have e : b = (s.heap.push { cls := .type "range", data := .fields #[.int lo t, .int hi u, .int 1 v] }).objs.size := by simpa using hb
    subst e
    exact I1.fpOk (Nat.le_refl _) (I1.hok.fresh (Nat.le_refl _))
def iRng1 (ta : TA) : TI := fun σ H R => ta σ H fun vs H1 => ∃ j : Int, vs = [.int j] ∧ -(2 ^ 62) ≤ j ∧ j < 2 ^ 62 ∧ R (Itr 0 j.toNat) H1
theorem pi_range1 {a : Expr} {ta : TA} {p pos : Pos} (hg : Gl X "range") (hm : X.mg "range" = none) (ha : PA X [a] ta) (hs : starEach [a] X.env = [(false, eval a X.env)] := by rfl) : PI X tg (.Call (.Name "range" p) [a] [] pos) (iRng1 ta) := by
  intro pins s σ H R I h
  refine Call_ (ld_blt I hg hm boot_range (PyProof.Rows.callWith_type1 (thn (ha pos pins s σ H _ I h) fun us s1 ⟨vs, H1, I1, r1, q1⟩ => ?_) hs rfl))
  obtain ⟨j, e, q1, q2, q⟩ := q1
  subst e
  cases r1 with
  | cons r rr =>
    cases rr
    obtain ⟨t, rfl⟩ := r
    exact call_range_1 (range_it I1 (by omega) (by omega) q1 q2 (by simpa using q))
/-! ### for -/
/-- W: the invariant by the turn and a measure; N: what the body is to reach -/
def tFor (wi : TI) (g : TG) (tb : TS) : TS := fun D σ H => wi σ H fun J H1 => ∃ W : Nat → Nat → St → Hp → Prop, (∃ m, W 0 m σ H1) ∧ ∀ i m σ H, W i m σ H →
  (J.stop i H ∧ D.nx σ H) ∨ (J.go i H ∧ ∃ N : St → Hp → Prop, (∀ σ' H', N σ' H' → ∃ m', m' < m ∧ W (i + 1) m' σ' H') ∧ ∀ x H', J.yld i H x H' → g x σ H' fun σ2 H2 => tb { D with nx := N, ct := N, bk := D.nx } σ2 H2)
/-- the records at fp as they stand -/
def pinsAt (fp : List Addr) (h : Heap) : List (Addr × Obj) := fp.filterMap fun b => (h.get? b).map fun o => (b, o)
theorem mem_pinsAt {fp : List Addr} {h : Heap} {b : Addr} {o : Obj} (hb : b ∈ fp) (e : h.get? b = some o) : (b, o) ∈ pinsAt fp h := List.mem_filterMap.mpr ⟨b, hb, by rw [e]; rfl⟩
theorem of_pinsAt {fp : List Addr} {h : Heap} {p : Addr × Obj} (hp : p ∈ pinsAt fp h) : p.1 ∈ fp ∧ h.get? p.1 = some p.2 := by
  obtain ⟨b, hb, e⟩ := List.mem_filterMap.mp hp
  cases q : h.get? b with
  | none => rw [q] at e; cases e
  | some o =>
    rw [q] at e
    have e' : (b, o) = p := Option.some.inj e
    subst e'
    exact ⟨hb, q⟩
theorem Inv.pinned {pins : List (Addr × Obj)} {σ : St} {H : Hp} {s : Shared} {fp : List Addr} (I : Inv X pins σ H s) (hf : ∀ b ∈ fp, FpOk X pins H b) (ho : ∀ b ∈ fp, ∃ o, s.heap.get? b = some o ∧ ∀ v, o.data ≠ .cell v) : Inv X (pins ++ pinsAt fp s.heap) σ H s :=
  I.pins_of fun p hp => (List.mem_append.mp hp).elim (fun z => I.pin p (List.mem_append_right _ z)) fun z => by
    obtain ⟨hb, e⟩ := of_pinsAt z
    obtain ⟨f0, f1, f2, _⟩ := hf p.1 hb
    obtain ⟨o, e', d⟩ := ho p.1 hb
    rw [e] at e'; cases e'
    exact ⟨e, f0, f1, f2, d⟩
theorem Inv.unpinned {pins pl : List (Addr × Obj)} {σ : St} {H : Hp} {s : Shared} (I : Inv X (pins ++ pl) σ H s) : Inv X pins σ H s := I.pins_of fun p hp => I.pin p (List.mem_append_right _ (List.mem_append_left _ hp))
theorem ps_for {iter : Expr} {body : List Stmt} {wi : TI} {g : TG} {tb : TS} {pos : Pos} (hp : PassesOwn (model X.prog X.w) X.A X.env X.xe) (hc : X.calm = true) (hi : PI X tg iter wi) (hg : PG X tg g) (hb : PSs X body tb)
    (hs : ∀ x, foldedSetIterable iter X.env x = pure x := by intro _; rfl) : PS X (.For tg iter body [] pos) (tFor wi g tb) := by
  intro pins s σ H D I h
  refine wpAny_For (thn (hi pins s σ H _ I h) fun v s1 h1 => thn h1 fun itv s2 h2 => ?_) hs
  obtain ⟨it, fp, tn, J, H2, e, I2, T, st2, f2, W, ⟨m0, w0⟩, turn⟩ := h2
  subst e
  -- what stays true of the iterator's objects through the loop
  have stat : ∀ {H' : Hp}, (∀ b ∈ fp, H' b = none) → ∀ b ∈ fp, FpOk X pins H' b := fun hn b hb => ⟨hn b hb, (f2 b hb).2⟩
  refine codeAny_forLoop_any (fun n s' => ∃ i σ' H', Inv X pins σ' H' s' ∧ tn i s'.heap ∧ (∀ b ∈ fp, H' b = none) ∧ W i n σ' H') ?_ m0 ⟨0, σ, H2, I2, st2, fun b hb => (f2 b hb).1, w0⟩
  rintro n s3 ⟨i, σ3, H3, I3, st3, fr3, w3⟩
  rcases turn i n σ3 H3 w3 with ⟨stop, qn⟩ | ⟨go, N, hN, step⟩
  · refine wpAny_passesOwn hp (thn (T.done X rfl rfl rfl hc i pins s3 σ3 H3 X.xe I3 (stat fr3) st3 stop) fun r s4 ⟨hr, I4⟩ => ?_)
    subst hr
    exact wpAny_execs_nil ⟨σ3, H3, I4, qn⟩
  · refine wpAny_passesOwn hp (thn (T.item X rfl rfl rfl hc i pins s3 σ3 H3 X.xe I3 (stat fr3) st3 go) fun r s4 ⟨u, hr, h4⟩ => ?_)
    subst hr
    refine wpAny_passesOwn hp (thn h4 fun _ s5 ⟨x, H5, I5, r5, y5, st5, fr5⟩ => ?_)
    have I5' := I5.pinned (stat fr5) (T.obj _ _ st5)
    refine wpAny_passesOwn hp (thn (hg _ s5 σ3 H5 x u _ I5' r5 (step x H5 y5)) fun _ s6 ⟨σ6, H6, I6, q6⟩ => ?_)
    refine wpAny_passesOwn hp (thn (hb _ s6 σ6 H6 _ I6 q6) fun f s7 q7 => ?_)
    have again : ∀ {σ7 : St} {H7 : Hp}, Inv X (pins ++ pinsAt fp s5.heap) σ7 H7 s7 → N σ7 H7 → ∃ m, m < n ∧ ∃ i σ' H', Inv X pins σ' H' s7 ∧ tn i s7.heap ∧ (∀ b ∈ fp, H' b = none) ∧ W i m σ' H' := fun {σ7 H7} I7 n7 => by
      obtain ⟨m', hm, w7⟩ := hN σ7 H7 n7
      refine ⟨m', hm, i + 1, σ7, H7, I7.unpinned, T.keep _ _ _ st5 fun b hb o e => (I7.pin (b, o) (List.mem_append_right _ (List.mem_append_right _ (mem_pinsAt hb e)))).1, fun b hb => ?_, w7⟩
      obtain ⟨o, e, d⟩ := T.obj _ _ st5 b hb
      exact (I7.pin (b, o) (List.mem_append_right _ (List.mem_append_right _ (mem_pinsAt hb e)))).2.1
    cases f with
    | next => obtain ⟨σ7, H7, I7, n7⟩ := q7; exact again I7 n7
    | cont => obtain ⟨σ7, H7, I7, n7⟩ := q7; exact again I7 n7
    | brk => obtain ⟨σ7, H7, I7, q7⟩ := q7; exact ⟨σ7, H7, I7.unpinned, q7⟩
    | ret v => obtain ⟨x7, σ7, H7, I7, r7, q7⟩ := q7; exact ⟨x7, σ7, H7, I7.unpinned, r7, q7⟩
end

/-! ### the forms one uses -/
/-- over a list that the body leaves as it is -/
theorem for_list {K : PySem.W.Frag} {a : Addr} {xs : List V} {g : TG} {tb : TS} {D : Ends} {σ : St} {H : Hp} (Pv : Nat → St → Hp → Prop) (h0 : Pv 0 σ H) (hl : ∀ i σ H, i ≤ xs.length → Pv i σ H → SqL K H a xs)
    (hs : ∀ i x σ H, xs[i]? = some x → Pv i σ H → g x σ H fun σ2 H2 => tb { D with nx := Pv (i + 1), ct := Pv (i + 1), bk := D.nx } σ2 H2) (hd : ∀ σ H, Pv xs.length σ H → D.nx σ H) :
    ∃ W : Nat → Nat → St → Hp → Prop, (∃ m, W 0 m σ H) ∧ ∀ i m σ H, W i m σ H →
      ((Itl K a).stop i H ∧ D.nx σ H) ∨ ((Itl K a).go i H ∧ ∃ N : St → Hp → Prop, (∀ σ' H', N σ' H' → ∃ m', m' < m ∧ W (i + 1) m' σ' H') ∧ ∀ x H', (Itl K a).yld i H x H' → g x σ H' fun σ2 H2 => tb { D with nx := N, ct := N, bk := D.nx } σ2 H2) := by
  refine ⟨fun i m σ H => m = xs.length - i ∧ i ≤ xs.length ∧ Pv i σ H, ⟨xs.length, by simp, Nat.zero_le _, h0⟩, ?_⟩
  rintro i m σ H ⟨rfl, hi, p⟩
  have q := hl i σ H hi p
  by_cases hlt : i < xs.length
  · refine .inr ⟨⟨xs, xs[i], q, by simp [hlt]⟩, Pv (i + 1), fun σ' H' p' => ⟨xs.length - (i + 1), by omega, rfl, hlt, p'⟩, fun x H' y => ?_⟩
    obtain ⟨e, y⟩ := y
    subst e
    exact hs i x σ _ (y xs q) p
  · have e : i = xs.length := by omega
    subst e
    exact .inl ⟨⟨xs, q, Nat.le_refl _⟩, hd σ H p⟩
theorem for_range {lo : Int} {n : Nat} {g : TG} {tb : TS} {D : Ends} {σ : St} {H : Hp} (Pv : Nat → St → Hp → Prop) (h0 : Pv 0 σ H)
    (hs : ∀ i σ H, i < n → Pv i σ H → g (.int (lo + i)) σ H fun σ2 H2 => tb { D with nx := Pv (i + 1), ct := Pv (i + 1), bk := D.nx } σ2 H2) (hd : ∀ σ H, Pv n σ H → D.nx σ H) :
    ∃ W : Nat → Nat → St → Hp → Prop, (∃ m, W 0 m σ H) ∧ ∀ i m σ H, W i m σ H →
      ((Itr lo n).stop i H ∧ D.nx σ H) ∨ ((Itr lo n).go i H ∧ ∃ N : St → Hp → Prop, (∀ σ' H', N σ' H' → ∃ m', m' < m ∧ W (i + 1) m' σ' H') ∧ ∀ x H', (Itr lo n).yld i H x H' → g x σ H' fun σ2 H2 => tb { D with nx := N, ct := N, bk := D.nx } σ2 H2) := by
  refine ⟨fun i m σ H => m = n - i ∧ i ≤ n ∧ Pv i σ H, ⟨n, by simp, Nat.zero_le _, h0⟩, ?_⟩
  rintro i m σ H ⟨rfl, hi, p⟩
  by_cases hlt : i < n
  · refine .inr ⟨hlt, Pv (i + 1), fun σ' H' p' => ⟨n - (i + 1), by omega, rfl, hlt, p'⟩, fun x H' y => ?_⟩
    obtain ⟨e, y⟩ := y
    subst e y
    exact hs i σ _ hlt p
  · have e : i = n := by omega
    subst e
    exact .inl ⟨Nat.le_refl _, hd σ H p⟩
end L2

namespace L2
open PySem PySem.Spec PyProof.Rows

abbrev R2 := V → V → Hp → VK → Prop
/-- a two-place operation on values: f is binaryOp op, inplaceOp op or compareOp op -/
def OpR (X : Cx) (f : Value → Value → Sem Value) (r : R2) : Prop :=
  ∀ (pins : List (Addr × Obj)) (s : Shared) (σ : St) (H : Hp) (x y : V) (v u : Value) (Q : VK), Inv X pins σ H s → RelV x v → RelV y u → r x y H Q →
    wpAny (model X.prog X.w) X.A (f v u) (EP X pins σ Q) X.xe s
/-- a one-place operation -/
def UnR (X : Cx) (f : Value → Sem Value) (r : V → Hp → VK → Prop) : Prop :=
  ∀ (pins : List (Addr × Obj)) (s : Shared) (σ : St) (H : Hp) (x : V) (v : Value) (Q : VK), Inv X pins σ H s → RelV x v → r x H Q →
    wpAny (model X.prog X.w) X.A (f v) (EP X pins σ Q) X.xe s
/-- a call of a value that is known (a builtin, a type) with values -/
def CallR (X : Cx) (f : Value) (r : List V → Hp → VK → Prop) : Prop :=
  ∀ (pins : List (Addr × Obj)) (s : Shared) (σ : St) (H : Hp) (xs : List V) (us : List Value) (Q : VK), Inv X pins σ H s → Vals xs us → r xs H Q →
    wpAny (model X.prog X.w) X.A (call f us) (EP X pins σ Q) X.xe s
def tOp (r : R2) (ta tb : TE) : TE := fun σ H Q => ta σ H fun x H1 => tb σ H1 fun y H2 => r x y H2 Q
def tUn (r : V → Hp → VK → Prop) (ta : TE) : TE := fun σ H Q => ta σ H fun x H1 => r x H1 Q
/-- ints in, under C, and a value out -/
def rI (C : Int → Int → Prop) (g : Int → Int → V) : R2 := fun x y H Q => ∃ i j, x = .int i ∧ y = .int j ∧ C i j ∧ Q (g i j) H
def rI0 (g : Int → Int → V) : R2 := fun x y H Q => ∃ i j, x = .int i ∧ y = .int j ∧ Q (g i j) H
def rU (g : Int → V) : V → Hp → VK → Prop := fun x H Q => ∃ i, x = .int i ∧ Q (g i) H

section
variable {X : Cx} {a b c : Expr} {ta tb tc : TE} {pos : Pos}

theorem binT (ha : PE X a ta) (hb : PE X b tb) {pins : List (Addr × Obj)} {s : Shared} {σ : St} {H : Hp} {R : V → V → Hp → Prop} (I : Inv X pins σ H s)
    (h : ta σ H fun x H1 => tb σ H1 fun y H2 => R x y H2) {Q : Value → Shared → Prop} {f : Value → Value → Sem Value}
    (hf : ∀ v u s2 x y H2, Inv X pins σ H2 s2 → RelV x v → RelV y u → R x y H2 → wpAny (model X.prog X.w) X.A (f v u) Q X.xe s2) :
    wpAny (model X.prog X.w) X.A (eval a X.env) (fun v s₁ => wpAny (model X.prog X.w) X.A (eval b X.env) (fun u s₂ => wpAny (model X.prog X.w) X.A (f v u) Q X.xe s₂) X.xe s₁) X.xe s := by
  refine thn (ha pins s σ H _ I h) fun v s1 ⟨x, H1, I1, r1, q1⟩ => ?_
  refine thn (hb pins s1 σ H1 _ I1 q1) fun u s2 ⟨y, H2, I2, r2, q2⟩ => ?_
  exact hf v u s2 x y H2 I2 r1 r2 q2

theorem pe_op {op : Operator} {r : R2} (ho : OpR X (binaryOp op) r) (ha : PE X a ta) (hb : PE X b tb) : PE X (.BinOp a op b pos) (tOp r ta tb) := by
  intro pins s σ H Q I h
  exact wpAny_BinOp (binT ha hb I h fun v u s2 x y H2 I2 rx ry q => ho pins s2 σ H2 x y v u Q I2 rx ry q)
theorem pe_un {op : UnaryOp} {r : V → Hp → VK → Prop} (ho : UnR X (unaryOp op) r) (ha : PE X a ta) : PE X (.UnaryOp op a pos) (tUn r ta) := by
  intro pins s σ H Q I h
  exact UnaryOp_ (thn (ha pins s σ H _ I h) fun v s1 ⟨x, H1, I1, r1, q1⟩ => ho pins s1 σ H1 x v Q I1 r1 q1)
/-! ### ints -/
theorem opI {f : Value → Value → Sem Value} {C : Int → Int → Prop} {g : Int → Int → Int}
    (rule : ∀ (i j : Int) (t u : Tok) (s : Shared) (Q : Value → Shared → Prop) (E : Value → Shared → Prop), C i j → Q (.int (g i j) s.toks) { s with toks := s.toks + 1 } → wpAny (model X.prog X.w) X.A (f (.int i t) (.int j u)) Q E s) :
    OpR X f (rI C fun i j => .int (g i j)) := by
  intro pins s σ H x y v u Q I rx ry h
  obtain ⟨i, j, rfl, rfl, hc, q⟩ := h
  obtain ⟨t, rfl⟩ := rx
  obtain ⟨t', rfl⟩ := ry
  exact rule i j t t' s _ _ hc ⟨.int (g i j), H, I.tok _, ⟨_, rfl⟩, q⟩
theorem opI0 {f : Value → Value → Sem Value} {g : Int → Int → Int}
    (rule : ∀ (i j : Int) (t u : Tok) (s : Shared) (Q : Value → Shared → Prop) (E : Value → Shared → Prop), Q (.int (g i j) s.toks) { s with toks := s.toks + 1 } → wpAny (model X.prog X.w) X.A (f (.int i t) (.int j u)) Q E s) :
    OpR X f (rI0 fun i j => .int (g i j)) := by
  intro pins s σ H x y v u Q I rx ry h
  obtain ⟨i, j, rfl, rfl, q⟩ := h
  obtain ⟨t, rfl⟩ := rx
  obtain ⟨t', rfl⟩ := ry
  exact rule i j t t' s _ _ ⟨.int (g i j), H, I.tok _, ⟨_, rfl⟩, q⟩
theorem opB0 {f : Value → Value → Sem Value} {g : Int → Int → Bool}
    (rule : ∀ (i j : Int) (t u : Tok) (s : Shared) (Q : Value → Shared → Prop) (E : Value → Shared → Prop), Q (.bool (g i j)) s → wpAny (model X.prog X.w) X.A (f (.int i t) (.int j u)) Q E s) :
    OpR X f (rI0 fun i j => .bl (g i j)) := by
  intro pins s σ H x y v u Q I rx ry h
  obtain ⟨i, j, rfl, rfl, q⟩ := h
  obtain ⟨t, rfl⟩ := rx
  obtain ⟨t', rfl⟩ := ry
  exact rule i j t t' s _ _ ⟨.bl (g i j), H, I, rfl, q⟩

def CDiv (i j : Int) : Prop := 0 < j ∧ j < 1073741824
def CPow (i j : Int) : Prop := 0 ≤ j ∧ j ≤ 1000000 ∧ i.natAbs < 2 ^ 64
def CMul (i j : Int) : Prop := (-(2 ^ 64) < i ∧ i < 2 ^ 64) ∨ (-(2 ^ 64) < j ∧ j < 2 ^ 64)
theorem CMul.ok {i j : Int} (h : CMul i j) : IntMulOk i j := by
  rcases h with ⟨h1, h2⟩ | ⟨h1, h2⟩
  · exact .of_left (intBits_le_64 h1 h2)
  · exact .of_right (intBits_le_64 h1 h2)
theorem op_add : OpR X (binaryOp .Add) (rI0 fun i j => .int (i + j)) := opI0 fun _ _ _ _ _ _ _ q => add_int q
theorem op_sub : OpR X (binaryOp .Sub) (rI0 fun i j => .int (i - j)) := opI0 fun _ _ _ _ _ _ _ q => sub_int q
theorem op_mul : OpR X (binaryOp .Mult) (rI CMul fun i j => .int (i * j)) := opI fun _ _ _ _ _ _ _ hc q => mul_int q hc.ok
/-- // by a positive divisor -/
theorem op_fdiv : OpR X (binaryOp .FloorDiv) (rI CDiv fun i j => .int (i / j)) := opI fun i j _ _ _ _ _ hc q => by
  have h1 : (0 : Int) < j := hc.1
  have h2 : j < 1073741824 := hc.2
  exact floordiv_int (by omega) (by rw [Int.fdiv_eq_ediv_of_nonneg i (by omega)]; exact q) (.inl (PyProof.noPylong_small (by omega)))
/-- % by a positive divisor of any size -/
theorem op_mod : OpR X (binaryOp .Mod) (rI (fun _ j => 0 < j) fun i j => .int (i % j)) := opI fun i j _ _ _ _ _ hc q => by
  have h1 : (0 : Int) < j := hc
  exact mod_int' (by omega) (by rw [Int.fmod_eq_emod_of_nonneg i (by omega)]; exact q)
theorem unI {f : Value → Sem Value} {g : Int → Int}
    (rule : ∀ (i : Int) (t : Tok) (s : Shared) (Q : Value → Shared → Prop) (E : Value → Shared → Prop), Q (.int (g i) s.toks) { s with toks := s.toks + 1 } → wpAny (model X.prog X.w) X.A (f (.int i t)) Q E s) :
    UnR X f (rU fun i => .int (g i)) := by
  intro pins s σ H x v Q I rx h
  obtain ⟨i, rfl, q⟩ := h
  obtain ⟨t, rfl⟩ := rx
  exact rule i t s _ _ ⟨.int (g i), H, I.tok _, ⟨_, rfl⟩, q⟩
theorem un_neg : UnR X (unaryOp .USub) (rU fun i => .int (-i)) := unI fun _ _ _ _ _ q => neg_int q
/-! ### bools among ints: n += (a < b) -/
end

/-! ### comparisons -/
/-- the scalars that == tells apart as data does -/
def scal : V → V → Bool
  | .non, .non => true | .non, .int _ => true | .int _, .non => true | .non, .bl _ => true | .bl _, .non => true | .non, .str _ => true | .str _, .non => true
  | .int _, .int _ => true | .bl _, .bl _ => true | .str _, .str _ => true | .byt _, .byt _ => true
  | .int _, .str _ => true | .str _, .int _ => true | .bl _, .str _ => true | .str _, .bl _ => true
  | _, _ => false
def rEq : R2 := fun x y H Q => scal x y = true ∧ Q (.bl (decide (x = y))) H
def rNe : R2 := fun x y H Q => scal x y = true ∧ Q (.bl (!decide (x = y))) H

theorem dec_int {i j : Int} : decide (V.int i = V.int j) = (i == j) := by
  rw [Bool.eq_iff_iff]
  simp
theorem dec_bl {i j : Bool} : decide (V.bl i = V.bl j) = (i == j) := by
  rw [Bool.eq_iff_iff]
  simp
theorem dec_str {i j : Str} : decide (V.str i = V.str j) = (i == j) := by
  rw [Bool.eq_iff_iff]
  simp
theorem dec_byt {i j : Array UInt8} : decide (V.byt i = V.byt j) = (i.toList == j.toList) := by
  rw [Bool.eq_iff_iff]
  cases i
  cases j
  simp

section
variable {X : Cx} {a b c : Expr} {ta tb tc : TE} {pos : Pos}
theorem fin_bl {pins : List (Addr × Obj)} {σ : St} {H : Hp} {s : Shared} {Q : VK} {k k' : Bool} (I : Inv X pins σ H s) (q : Q (.bl k) H) (e : k = k') : EP X pins σ Q (.bool k') s := by
  subst e
  exact ⟨.bl k, H, I, rfl, q⟩
theorem op_eq : OpR X (compareOp .Eq) rEq := by
  intro pins s σ H x y v u Q I rx ry h
  obtain ⟨hs, q⟩ := h
  cases x with
  | non =>
    cases rx
    cases y with
    | non => cases ry; exact PySem.EqNone.eq_none_none (fin_bl I q (by simp))
    | bl j => cases ry; exact PySem.EqNone.eq_none_bool (fin_bl I q (by simp))
    | int j => obtain ⟨t', rfl⟩ := ry; exact PySem.EqNone.eq_none_int (fin_bl I q (by simp))
    | str j => obtain ⟨t', rfl⟩ := ry; exact PySem.EqNone.eq_none_str (fin_bl I q (by simp))
    | _ => exact absurd (show false = true from hs) Bool.false_ne_true
  | bl i =>
    cases rx
    cases y with
    | non => cases ry; exact PySem.EqNone.eq_bool_none (fin_bl I q (by simp))
    | bl j => cases ry; exact eq_bool (fin_bl I q dec_bl)
    | str j => obtain ⟨t', rfl⟩ := ry; exact PySem.EqMixed.eq_bool_str (fin_bl I q (by simp))
    | _ => exact absurd (show false = true from hs) Bool.false_ne_true
  | int i =>
    obtain ⟨t, rfl⟩ := rx
    cases y with
    | non => cases ry; exact PySem.EqNone.eq_int_none (fin_bl I q (by simp))
    | int j => obtain ⟨t', rfl⟩ := ry; exact eq_int (fin_bl I q dec_int)
    | str j => obtain ⟨t', rfl⟩ := ry; exact PySem.EqMixed.eq_int_str (fin_bl I q (by simp))
    | _ => exact absurd (show false = true from hs) Bool.false_ne_true
  | str i =>
    obtain ⟨t, rfl⟩ := rx
    cases y with
    | non => cases ry; exact PySem.EqNone.eq_str_none (fin_bl I q (by simp))
    | bl j => cases ry; exact PySem.EqMixed.eq_str_bool (fin_bl I q (by simp))
    | int j => obtain ⟨t', rfl⟩ := ry; exact PySem.EqMixed.eq_str_int (fin_bl I q (by simp))
    | str j => obtain ⟨t', rfl⟩ := ry; exact eq_str (fin_bl I q dec_str)
    | _ => exact absurd (show false = true from hs) Bool.false_ne_true
  | byt i =>
    obtain ⟨t, rfl⟩ := rx
    cases y with
    | byt j => obtain ⟨t', rfl⟩ := ry; exact PySem.W.eq_bytes (fin_bl I q dec_byt)
    | _ => exact absurd (show false = true from hs) Bool.false_ne_true
  | _ => cases y <;> exact absurd (show false = true from hs) Bool.false_ne_true
theorem op_ne : OpR X (compareOp .NotEq) rNe := by
  intro pins s σ H x y v u Q I rx ry h
  obtain ⟨hs, q⟩ := h
  cases x with
  | non =>
    cases rx
    cases y with
    | non => cases ry; exact PySem.EqNone.ne_none_none (fin_bl I q (by simp))
    | bl j => cases ry; exact PySem.EqNone.ne_none_bool (fin_bl I q (by simp))
    | int j => obtain ⟨t', rfl⟩ := ry; exact PySem.EqNone.ne_none_int (fin_bl I q (by simp))
    | str j => obtain ⟨t', rfl⟩ := ry; exact PySem.EqNone.ne_none_str (fin_bl I q (by simp))
    | _ => exact absurd (show false = true from hs) Bool.false_ne_true
  | bl i =>
    cases rx
    cases y with
    | non => cases ry; exact PySem.EqNone.ne_bool_none (fin_bl I q (by simp))
    | bl j => cases ry; exact ne_bool (fin_bl I q (congrArg not dec_bl))
    | str j => obtain ⟨t', rfl⟩ := ry; exact PySem.EqMixed.ne_bool_str (fin_bl I q (by simp))
    | _ => exact absurd (show false = true from hs) Bool.false_ne_true
  | int i =>
    obtain ⟨t, rfl⟩ := rx
    cases y with
    | non => cases ry; exact PySem.EqNone.ne_int_none (fin_bl I q (by simp))
    | int j => obtain ⟨t', rfl⟩ := ry; exact ne_int (fin_bl I q (congrArg not dec_int))
    | str j => obtain ⟨t', rfl⟩ := ry; exact PySem.EqMixed.ne_int_str (fin_bl I q (by simp))
    | _ => exact absurd (show false = true from hs) Bool.false_ne_true
  | str i =>
    obtain ⟨t, rfl⟩ := rx
    cases y with
    | non => cases ry; exact PySem.EqNone.ne_str_none (fin_bl I q (by simp))
    | bl j => cases ry; exact PySem.EqMixed.ne_str_bool (fin_bl I q (by simp))
    | int j => obtain ⟨t', rfl⟩ := ry; exact PySem.EqMixed.ne_str_int (fin_bl I q (by simp))
    | str j => obtain ⟨t', rfl⟩ := ry; exact ne_str (fin_bl I q (congrArg not dec_str))
    | _ => exact absurd (show false = true from hs) Bool.false_ne_true
  | byt i =>
    obtain ⟨t, rfl⟩ := rx
    cases y with
    | byt j => obtain ⟨t', rfl⟩ := ry; exact PySem.W.ne_bytes (fin_bl I q (congrArg not dec_byt))
    | _ => exact absurd (show false = true from hs) Bool.false_ne_true
  | _ => cases y <;> exact absurd (show false = true from hs) Bool.false_ne_true

theorem op_lt : OpR X (compareOp .Lt) (rI0 fun i j => .bl (decide (i < j))) := opB0 fun _ _ _ _ _ _ _ q => lt_int q
theorem op_le : OpR X (compareOp .LtE) (rI0 fun i j => .bl (decide (i ≤ j))) := opB0 fun _ _ _ _ _ _ _ q => le_int q
theorem op_gt : OpR X (compareOp .Gt) (rI0 fun i j => .bl (decide (j < i))) := opB0 fun _ _ _ _ _ _ _ q => gt_int q
theorem op_ge : OpR X (compareOp .GtE) (rI0 fun i j => .bl (decide (j ≤ i))) := opB0 fun _ _ _ _ _ _ _ q => ge_int q
/-- the one string within the other -/
theorem op_in_str : OpR X (compareOp .In) (fun x y H Q => ∃ i j, x = .str i ∧ y = .str j ∧ Q (.bl (!(Builtin.Str.occurrences j i 0 j.length 1).isEmpty)) H) := by
  intro pins s σ H x y v u Q I rx ry h
  obtain ⟨i, j, rfl, rfl, q⟩ := h
  obtain ⟨t, rfl⟩ := rx
  obtain ⟨t', rfl⟩ := ry
  exact in_str (fin_bl I q rfl)

theorem op_notN : OpR X (compareOp .IsNot) (fun x y H Q => y = .non ∧ Q (.bl (!decide (x = .non))) H) := by
  intro pins s σ H x y v u Q I rx ry h
  obtain ⟨rfl, q⟩ := h
  cases ry
  refine isnot_none_gen (fin_bl I q ?_)
  cases x <;> first
    | (cases rx; rfl)
    | (obtain ⟨t, rfl⟩ := rx; rfl)

theorem op_notin_str : OpR X (compareOp .NotIn) (fun x y H Q => ∃ i j, x = .str i ∧ y = .str j ∧ Q (.bl (!(!(Builtin.Str.occurrences j i 0 j.length 1).isEmpty))) H) := by
  intro pins s σ H x y v u Q I rx ry h
  obtain ⟨i, j, rfl, rfl, q⟩ := h
  obtain ⟨t, rfl⟩ := rx
  obtain ⟨t', rfl⟩ := ry
  exact notIn_str (fin_bl I q rfl)
/-- two rules for one operation: by cases -/
theorem OpR.or {f : Value → Value → Sem Value} {r r' : R2} (h : OpR X f r) (h' : OpR X f r') : OpR X f (fun x y H Q => r x y H Q ∨ r' x y H Q) := by
  intro pins s σ H x y v u Q I rx ry q
  rcases q with q | q
  · exact h pins s σ H x y v u Q I rx ry q
  · exact h' pins s σ H x y v u Q I rx ry q

theorem nomark (b : Expr) {op : CmpOp} (h : op ≠ .In := by decide) (h2 : op ≠ .NotIn := by decide) : behindInMarks op b = false := by
  have e1 : (op == CmpOp.In) = false := by cases op <;> first | rfl | exact absurd rfl h
  have e2 : (op == CmpOp.NotIn) = false := by cases op <;> first | rfl | exact absurd rfl h2
  cases b <;> simp [behindInMarks, e1, e2]
/-- a comparison as a value; hm: nomark b, or (for in, not in) by with_unfolding_all rfl -/
theorem pe_cmpR {op : CmpOp} {r : R2} (ho : OpR X (compareOp op) r) (ha : PE X a ta) (hb : PE X b tb) (hm : behindInMarks op b = false) : PE X (.Compare a [op] [b] pos) (tOp r ta tb) := by
  intro pins s σ H Q I h
  exact wpAny_Compare1 (binT ha hb I h fun v u s2 x y H2 I2 rx ry q => ho pins s2 σ H2 x y v u Q I2 rx ry q) hm
/-- a reading of a value as a test -/
def tTest (t : TE) : TT := fun σ H Q => t σ H fun x H' => ∃ k, x = .bl k ∧ Q k H'
theorem pt_cmpR {op : CmpOp} {r : R2} (ho : OpR X (compareOp op) r) (ha : PE X a ta) (hb : PE X b tb) (hm : behindInMarks op b = false) : PT X (.Compare a [op] [b] pos) (tTest (tOp r ta tb)) := by
  intro pins s σ H Q I h
  refine wpAny_isTrue_Compare1 (thn (ha pins s σ H _ I h) fun v s1 ⟨x, H1, I1, r1, q1⟩ => thn (hb pins s1 σ H1 _ I1 q1) fun u s2 ⟨y, H2, I2, r2, q2⟩ =>
    thn (ho pins s2 σ H2 x y v u _ I2 r1 r2 q2) fun c s3 ⟨z, H3, I3, r3, k, e, q3⟩ => ?_) hm
  subst e
  cases r3
  exact wpAny_truthy_bool ⟨H3, I3, q3⟩
/-- a op1 b op2 c -/
def tChain (r r' : R2) (ta tb tc : TE) : TE := fun σ H Q => ta σ H fun x H1 => tb σ H1 fun y H2 => r x y H2 fun z H3 => ∃ k, z = .bl k ∧
  (if k = true then tc σ H3 fun w' H4 => r' y w' H4 Q else Q (.bl false) H3)
/-! ### truth -/
theorem line63 : (sizeLine : Nat) < 2 ^ 63 := by rw [sizeLine_eq]; decide
/-! ### strs and bytes -/
theorem op_add_str : OpR X (binaryOp .Add) (fun x y H Q => ∃ i j, x = .str i ∧ y = .str j ∧ i.length + j.length ≤ sizeLine ∧ Q (.str (i ++ j)) H) := by
  intro pins s σ H x y v u Q I rx ry h
  obtain ⟨i, j, rfl, rfl, hz, q⟩ := h
  obtain ⟨t, rfl⟩ := rx
  obtain ⟨t', rfl⟩ := ry
  exact tokQ I.tk (add_str (fun t' tk (htk : 0 < tk) => ⟨.str (i ++ j), H, I.tok _, ⟨_, rfl⟩, q⟩) hz)
/-! ### scalar builtins, by CallR -/
theorem vals1 {x : V} {us : List Value} (r : Vals [x] us) : ∃ u, us = [u] ∧ RelV x u := by
  cases r with
  | cons r1 r2 => cases r2; exact ⟨_, rfl, r1⟩
theorem vals2 {x y : V} {us : List Value} (r : Vals [x, y] us) : ∃ u w', us = [u, w'] ∧ RelV x u ∧ RelV y w' := by
  cases r with
  | cons r1 r2 =>
    cases r2 with
    | cons r3 r4 => cases r4; exact ⟨_, _, rfl, r1, r3⟩
theorem call_int1 : CallR X (.type "int") (fun xs H Q => (∃ i, xs = [.int i] ∧ Q (.int i) H) ∨ ∃ k, xs = [.bl k] ∧ Q (.int (if k then 1 else 0)) H) := by
  intro pins s σ H xs us Q I r h
  rcases h with ⟨i, rfl, q⟩ | ⟨k, rfl, q⟩
  · obtain ⟨u, rfl, t, rfl⟩ := vals1 r
    exact call_int_int ⟨.int i, H, I, ⟨_, rfl⟩, q⟩
  · obtain ⟨u, rfl, r1⟩ := vals1 r
    cases r1
    exact call_int_bool ⟨.int (if k then 1 else 0), H, I.tok _, ⟨_, rfl⟩, q⟩
end
end L2

namespace L2
open PySem PySem.Spec PyProof.Rows

/-! ### an instance, its attributes a map -/
structure ObjM (h : Heap) (x dx C : Addr) (mA : Str → Option Value) : Prop where
  obj : h.get? x = some (PySem.W.instObj C dx)
  ns : h.Ns1 dx mA
  ne : dx ≠ x

theorem lookIn_ns {h : Heap} {dx : Addr} {mA : Str → Option Value} (n : h.Ns1 dx mA) : ∃ od, h.get? dx = some od ∧ ∀ name, PySem.W.lookIn name od = some (mA name) := by
  obtain ⟨o, es, ep, ho, hd, hk, _, hm⟩ := n
  refine ⟨o, ho, fun name => ?_⟩
  have e := hm name
  unfold nsFind findBy at e
  rw [← Array.find?_toList] at e
  unfold PySem.W.lookIn
  rw [hd]
  dsimp only
  split
  · rename_i y q
    rw [q] at e
    exact congrArg some e
  · rename_i q
    rw [q] at e
    have a : es.toList.any (·.refKey) = false := by
      rw [List.any_eq_false]
      intro y hy
      obtain ⟨z, t, hkey⟩ := hk y (Array.mem_toList_iff.mp hy)
      simp [DictEntry.refKey, hkey]
    have a' : ¬ es.toList.any (·.refKey) = true := by rw [a]; exact Bool.false_ne_true
    rw [if_neg a']
    exact congrArg some e

theorem ObjM.look {h : Heap} {x dx C : Addr} {mA : Str → Option Value} (I : ObjM h x dx C mA) : ∃ od, PySem.W.InstAt h x (PySem.W.instObj C dx) C (some od) ∧ ∀ name, PySem.W.lookIn name od = some (mA name) :=
  let ⟨od, ho, hl⟩ := lookIn_ns I.ns
  ⟨od, ⟨I.obj, rfl, rfl, ho⟩, hl⟩

section
variable {prog : Program} {w : World} {A : Around} {E : Value → Shared → Prop} {s : Shared} {K : PySem.W.Frag} {x dx C f : Addr} {mA : Str → Option Value} {name : Str} {v : Value}

end

/-! ### the attributes as a list of pairs -/
def putF (f : Str) (v : V) : List (Str × V) → List (Str × V)
  | [] => [(f, v)]
  | (g, x) :: r => if g = f then (g, v) :: r else (g, x) :: putF f v r
theorem RelO.some_of {v : V} {o : Option Value} (r : RelO (some v) o) : ∃ u, o = some u ∧ RelV v u := by
  cases o with
  | none => exact (show False from r).elim
  | some u => exact ⟨u, rfl, r⟩
theorem RelO.none_of {o : Option Value} (r : RelO none o) : o = none := by
  cases o with
  | none => rfl
  | some u => exact (show False from r).elim
section
variable {P : Program} {w : World} {H H' : Hp} {h h' : Heap} {a C dx : Addr} {fs fs' : List (Str × V)}
theorem ins_get (hok : HOk P w H h) (e : H a = some (.ins C dx fs)) : ∃ mA, ObjM h a dx C mA ∧ (∀ f, RelO (fs.lookup f) (mA f)) ∧ PySem.Within mA (fs.map (·.1)) ∧ fs.length ≤ 1000 ∧ H dx = some (.own a) := by
  obtain ⟨d, z, ne, ob, mA, n, r, q⟩ := (show ObjOk P w H h a (.ins C dx fs) from hok a _ e)
  exact ⟨mA, ⟨ob, n, ne⟩, r, q, z, d⟩
end

/-! ### what of the text a class must have -/
structure Cls (K : PySem.W.Frag) (C : Addr) : Prop where
  pg : PySem.W.plainGet K C Str.empty = true
  hd : PySem.W.hasDictIn K C = true
  po : PySem.W.plainOver K C = true
  sa : PySem.W.findIn K (.ref C) "__setattr__" = some (some (.builtin "object.__setattr__"))
theorem Cls.get {K : PySem.W.Frag} {C : Addr} (c : Cls K C) (f : Str) : PySem.W.plainGet K C f = true := c.pg
/-- no class of it has the name -/
def NoAttr (K : PySem.W.Frag) (C : Addr) (f : Str) : Prop := PySem.W.findIn K (.ref C) f = some none
/-- a constant of the class -/
structure Con (K : PySem.W.Frag) (C : Addr) (f : Str) (v : V) (u : Value) : Prop where
  at_ : PySem.W.findIn K (.ref C) f = some (some u)
  rel : RelV v u
  get : PySem.W.specialIn K u "__get__" = some none
  cp : PySem.W.copiedNames.contains f = false
/-- a method: a plain def of the class or of one above it -/
structure Meth (K : PySem.W.Frag) (C : Addr) (m : Str) (f : Addr) : Prop where
  at_ : PySem.W.findIn K (.ref C) m = some (some (.ref f))
  fn : PySem.W.isFn K (.ref f) = true
  kp : PySem.W.keepIn K (.ref f) = true

section
variable {X : Cx} {pins : List (Addr × Obj)} {σ : St} {H : Hp} {s : Shared} {a C dx : Addr} {fs : List (Str × V)} {f : Str} {v : V} {A : Around} {E : Value → Shared → Prop}

/-- a new instance, tracked, without attributes -/
theorem Inv.made (I : Inv X pins σ H s) : Inv X pins σ (upd (upd H s.heap.objs.size (.own (s.heap.objs.size + 1))) (s.heap.objs.size + 1) (.ins C s.heap.objs.size []))
    { s with heap := (s.heap.push PySem.W.emptyDict).push (PySem.W.instObj C s.heap.objs.size) } := by
  have e1 : (s.heap.push PySem.W.emptyDict).get? s.heap.objs.size = some PySem.W.emptyDict := Heap.get?_push_size s.heap rfl
  have e2 : ((s.heap.push PySem.W.emptyDict).push (PySem.W.instObj C s.heap.objs.size)).get? (s.heap.objs.size + 1) = some (PySem.W.instObj C s.heap.objs.size) := by
    have := Heap.get?_push_size (s.heap.push PySem.W.emptyDict) (o := PySem.W.instObj C s.heap.objs.size) rfl
    rwa [Heap.size_push] at this
  have e3 : (s.heap.push PySem.W.emptyDict).Ns s.heap.objs.size (fun _ => none) := ⟨PySem.W.emptyDict, #[], _, e1, rfl, (fun e he => absurd he (by simp)), fun _ => rfl⟩
  have I1 := I.laid (a := s.heap.objs.size) (o := .own (s.heap.objs.size + 1)) (h' := s.heap.push PySem.W.emptyDict) (t' := s.toks) (fun b u q => Heap.get?_push_of_some _ q) (Nat.le_refl _) ⟨_, e1⟩
  refine I1.laid (a := s.heap.objs.size + 1) (o := .ins C s.heap.objs.size []) (t' := s.toks) (fun b u q => Heap.get?_push_of_some _ q) (Nat.le_of_eq (Heap.size_push _ _)) ?_
  have ne : s.heap.objs.size ≠ s.heap.objs.size + 1 := Nat.ne_of_lt (Nat.lt_succ_self _)
  refine ⟨by rw [upd_ne ne, upd_same], Nat.zero_le _, ne, e2, fun _ => none, (Heap.Ns1.of_empty e3).at fun o q => Heap.get?_push_of_some _ q, fun _ => True.intro, fun y hy => absurd rfl hy⟩

end

/-! ### readings and rules -/
/-- e.f, an attribute of the instance -/
def tFld (K : PySem.W.Frag) (ta : TE) (f : Str) : TE := fun σ H Q => ta σ H fun x H1 => ∃ a C dx fs v, x = .ref a ∧ H1 a = some (.ins C dx fs) ∧ Cls K C ∧ NoAttr K C f ∧ fs.lookup f = some v ∧ Q v H1
/-- e.f = value -/
def sFld (K : PySem.W.Frag) (ta tv : TE) (f : Str) : TS := fun D σ H => tv σ H fun y H1 => ta σ H1 fun x H2 => ∃ a C dx fs, x = .ref a ∧ H2 a = some (.ins C dx fs) ∧ Cls K C ∧ NoAttr K C f ∧ fs.length < 1000 ∧
  D.nx σ (upd H2 a (.ins C dx (putF f y fs)))
section
variable {X : Cx} {o e value : Expr} {f : Str} {pos pos' tpos : Pos} {ta tv : TE}
end

/-! ### isinstance -/
section
variable {X : Cx} {pins : List (Addr × Obj)} {σ : St} {H : Hp} {s : Shared} {A : Around} {E : Value → Shared → Prop} {Q : Value → Shared → Prop} {c : Value} {b : Bool}
/-- the type of a value, as the fragment's deciders take it; for an instance its class -/
inductive TyOf (K : PySem.W.Frag) (H : Hp) : V → Value → Prop where
  | non : TyOf K H .non (.type "NoneType")
  | bl (x : Bool) : TyOf K H (.bl x) (.type "bool")
  | int (i : Int) : TyOf K H (.int i) (.type "int")
  | str (x : Str) : TyOf K H (.str x) (.type "str")
  | flt (x : UInt64) : TyOf K H (.flt x) (.type "float")
  | lst {a : Addr} {xs : List V} (e : H a = some (.lst xs)) : TyOf K H (.ref a) (.type "list")
  | frz {a : Addr} {o : Obj} {xs : List V} (e : H a = some (.frz o (.lst xs))) : TyOf K H (.ref a) (.type "list")
  | tup {a : Addr} {xs : List V} (e : H a = some (.tup xs)) : TyOf K H (.ref a) (.type "tuple")
  | dK {a : Addr} {kvs : List (Key × V)} (e : H a = some (.dK kvs)) : TyOf K H (.ref a) (.type "dict")
  | dT {a : Addr} {kvs : List (List Key × V)} (e : H a = some (.dT kvs)) : TyOf K H (.ref a) (.type "dict")
  | ins {a C dx : Addr} {fs : List (Str × V)} (e : H a = some (.ins C dx fs)) (cl : Cls K C) (ha : PySem.W.findIn K (.ref C) "__class__" = some (some (.builtin "object.__class__")))
      (hn : PySem.W.specialIn K (.builtin "object.__class__") "__get__" = some (some (.builtin "getset_descriptor.__get__"))) (htk : PySem.W.takesIn K (.builtin "object.__class__") = some true)
      (hm : PySem.W.mroIn K C (.type "object") = some true) : TyOf K H (.ref a) (.ref C)
/-- isinstance(x, c) for one class c, a built-in or an own one: kitOne's answer -/
theorem isinst_ok {x : V} {u t : Value} (I : Inv X pins σ H s) (rx : RelV x u) (ty : TyOf X.K H x t) (e : PySem.W.kitOne X.K t c = some b) (h : ∀ tk, Q (.bool b) { s with toks := tk }) :
    wpAny (model X.prog X.w) A (call (.builtin "isinstance") [u, c]) Q E s := by
  cases ty with
  | non => cases (show u = Value.none from rx); exact PySem.W.kia_one PySem.W.kitx_none I.kIn True.intro e (fun z => nomatch z) h
  | bl y => cases (show u = Value.bool y from rx); exact PySem.W.kia_one PySem.W.kitx_bool I.kIn True.intro e (fun z => nomatch z) h
  | int i => obtain ⟨t, q⟩ := (show ∃ t, u = Value.int i t from rx); cases q; exact PySem.W.kia_one PySem.W.kitx_int I.kIn True.intro e (fun z => nomatch z) h
  | str y => obtain ⟨t, q⟩ := (show ∃ t, u = Value.str y t from rx); cases q; exact PySem.W.kia_one PySem.W.kitx_str I.kIn True.intro e (fun z => nomatch z) h
  | flt y => obtain ⟨t, q⟩ := (show ∃ t, u = Value.float y t from rx); cases q; exact PySem.W.kia_one PySem.W.kitx_float I.kIn True.intro e (fun z => nomatch z) h
  | @lst a xs ea =>
    cases (show u = Value.ref a from rx)
    obtain ⟨_, _, n, _, h1⟩ := (show ObjOk X.prog X.w H s.heap a (.lst xs) from I.hok a _ ea)
    exact PySem.W.kia_one PySem.W.kitx_list I.kIn ⟨_, h1, rfl⟩ e (fun z => nomatch z) h
  | @frz a ob xs ea =>
    cases (show u = Value.ref a from rx)
    obtain ⟨_, _, _, n, _, h1⟩ := (show ObjOk X.prog X.w H s.heap a (.frz ob (.lst xs)) from I.hok a _ ea)
    exact PySem.W.kia_one PySem.W.kitx_list I.kIn ⟨_, h1, rfl⟩ e (fun z => nomatch z) h
  | @tup a xs ea =>
    cases (show u = Value.ref a from rx)
    obtain ⟨_, _, _, p⟩ := (show ObjOk X.prog X.w H s.heap a (.tup xs) from I.hok a _ ea)
    obtain ⟨o, h1, h2, _⟩ := p
    exact PySem.W.kia_one PySem.W.kitx_tuple I.kIn ⟨o, h1, h2⟩ e (fun z => nomatch z) h
  | @dK a kvs ea =>
    cases (show u = Value.ref a from rx)
    obtain ⟨_, _, vs, _, p⟩ := (show ObjOk X.prog X.w H s.heap a (.dK kvs) from I.hok a _ ea)
    obtain ⟨o, es, ep, h1, h2, _⟩ := p
    exact PySem.W.kia_one PySem.W.kitx_dict I.kIn ⟨o, h1, h2.1⟩ e (fun z => nomatch z) h
  | @dT a kvs ea =>
    cases (show u = Value.ref a from rx)
    obtain ⟨_, _, xs, _, o, es, ep, h1, h2, _⟩ := (show ObjOk X.prog X.w H s.heap a (.dT kvs) from I.hok a _ ea)
    exact PySem.W.kia_one PySem.W.kitx_dict I.kIn ⟨o, h1, h2.1⟩ e (fun z => nomatch z) h
  | @ins a C dx fs ea cl ha hn htk hm =>
    cases (show u = Value.ref a from rx)
    obtain ⟨mA, O, _⟩ := ins_get I.hok ea
    obtain ⟨od, J, _⟩ := O.look
    exact PySem.W.kia_one (PySem.W.kitx_own (cl.get _) cl.hd ha hn htk hm) I.kIn J e (fun z => nomatch z) h
end
end L2

namespace L2
open PySem PySem.Spec PyProof.Rows

/-! ### room -/
structure Room (k : Nat) (A : Around) : Prop where
  hd : A.handled = none
  dp : A.depth + 3 * k + 5 < recursionLimit
  un : A.units + 16 * k + 200 < cLine
  gd : A.guards = some []
theorem Room.mono {j k : Nat} {A : Around} (r : Room k A) (h : j ≤ k) : Room j A := ⟨r.hd, by have := r.dp; omega, by have := r.un; omega, r.gd⟩
theorem Room.deeper {k : Nat} {A : Around} (r : Room (k + 1) A) (env : Env) : Room k (A.deeper env) :=
  ⟨r.hd, by have := r.dp; show A.depth + 1 + 3 * k + 5 < _; omega, by have := r.un; show A.units + 3 + 16 * k + 200 < _; omega, r.gd⟩
theorem Room.in1 {k : Nat} {A : Around} (r : Room (k + 1) A) : Room k A.in1 :=
  ⟨r.hd, by have := r.dp; show A.depth + 3 * k + 5 < _; omega, by have := r.un; show A.units + 1 + 16 * k + 200 < _; omega, r.gd⟩
theorem Room.depth {k : Nat} {A : Around} (r : Room k A) : A.depth < recursionLimit := by have := r.dp; omega
theorem Room.units {k : Nat} {A : Around} (r : Room k A) : A.units + 64 < cLine := by have := r.un; omega
theorem Room.units0 {k : Nat} {A : Around} (r : Room k A) : A.units < cLine := by have := r.un; omega

/-! ### argument lists and displays -/
def tNil : TA := fun _ H Q => Q [] H
def tCons (ta : TE) (tr : TA) : TA := fun σ H Q => ta σ H fun x H1 => tr σ H1 fun xs H2 => Q (x :: xs) H2
section
variable {X : Cx} {e : Expr} {es : List Expr} {te : TE} {t : TA} {pos : Pos}
theorem pa_nil : PA X [] tNil := fun _ _ _ _ H Q I h => Calls.spliced_nil ⟨[], H, I, .nil, h⟩
theorem pa_cons (ha : PE X e te) (hr : PA X es t) (hs : starEach (e :: es) X.env = (false, eval e X.env) :: starEach es X.env := by rfl) : PA X (e :: es) (tCons te t) := by
  intro pos pins s σ H Q I h
  rw [hs]
  show wpAny _ _ (spliced ((false, eval e X.env) :: backTo pos (starEach es X.env))) _ _ s
  refine Calls.spliced_cons (thn (ha pins s σ H _ I h) fun u s1 ⟨x, H1, I1, r1, q1⟩ => ?_)
  exact thn (hr pos pins s1 σ H1 _ I1 q1) fun us s2 ⟨xs, H2, I2, r2, q2⟩ => ⟨x :: xs, H2, I2, .cons r1 r2, q2⟩

/-- a tuple, a list of written items -/
def tTup (t : TA) : TE := fun σ H Q => t σ H fun xs H1 => xs.length ≤ sizeLine ∧ ∀ p, H1 p = none → Q (.ref p) (upd H1 p (.tup xs))
def tLst (t : TA) : TE := fun σ H Q => t σ H fun xs H1 => xs.length ≤ sizeLine ∧ ∀ p, H1 p = none → Q (.ref p) (upd H1 p (.lst xs))
theorem pe_tup {x1} (h : PA X es t) : PE X (.Tuple es x1 pos) (tTup t) := by
  intro pins s σ H Q I hq
  refine wpAny_Tuple_spliced (thn (h pos pins s σ H _ I hq) fun us s1 ⟨xs, H1, I1, r, z, q⟩ => ⟨by rw [← r.length]; exact z, ?_⟩)
  have hf : H1 s1.heap.objs.size = none := I1.hok.fresh (Nat.le_refl _)
  refine ⟨.ref s1.heap.objs.size, upd H1 s1.heap.objs.size (.tup xs), I1.laid (t' := s1.toks) (fun b u e => Heap.get?_push_of_some _ e) (Nat.le_refl _) ?_, rfl, q _ hf⟩
  exact ⟨z, us, r, ⟨_, Heap.get?_push_size _ rfl, rfl, _, rfl⟩⟩
theorem pe_lst (h : PA X es t) : PE X (.List es pos) (tLst t) := by
  intro pins s σ H Q I hq
  refine wpAny_List_spliced (thn (h pos pins s σ H _ I hq) fun us s1 ⟨xs, H1, I1, r, z, q⟩ => ⟨by rw [← r.length]; exact z, ?_⟩)
  have hf : H1 s1.heap.objs.size = none := I1.hok.fresh (Nat.le_refl _)
  refine ⟨.ref s1.heap.objs.size, upd H1 s1.heap.objs.size (.lst xs), I1.laid (t' := s1.toks) (fun b u e => Heap.get?_push_of_some _ e) (Nat.le_refl _) ?_, rfl, q _ hf⟩
  exact ⟨z, us, 0, r, Heap.get?_push_size _ rfl⟩
end

/-! ### what a def promises -/
/-- a def's promise: the bound arguments in the parameters' order, the heap, the wanted end, the wanted exception -/
abbrev Sp := List V → Hp → VK → XK → Prop
/-- how an exception lies behind a call (file 08 gives it): the callers' frames, abstract heap and state ahead of the call, the wish, the exception, the state -/
abbrev CXT := List Env → Hp → Shared → XK → Value → Shared → Prop

/-- the state at a call -/
structure Env0 (P : Program) (w : World) (K : PySem.W.Frag) (mg : Str → Option Value) (base : Heap) (A : Around) (outer : List Env) (s : Shared) (H : Hp) : Prop where
  frames : A.frames = some outer
  mod : Mod K mg base
  bs : ∀ b o, base.get? b = some o → s.heap.get? b = some o ∧ H b = none
  bsz : base.objs.size ≤ s.heap.objs.size
  funs : s.heap.FunFrames base outer
  frf : ∀ b ∈ frs outer, H b = none
  hok : HOk P w H s.heap
  bare : AllBare s.gens
  tk : 0 < s.toks
/-- a call's end -/
def CE (outer : List Env) (P : Program) (w : World) (H : Hp) (s : Shared) (Q : VK) (u : Value) (s' : Shared) : Prop :=
  ∃ v H', 0 < s'.toks ∧ s'.os = s.os ∧ AllBare s'.gens ∧ Un (frs outer) [] H H' s.heap s'.heap ∧ HOk P w H' s'.heap ∧ RelV v u ∧ Q v H'
def CR (CX : CXT) (outer : List Env) (P : Program) (w : World) (H : Hp) (s : Shared) (Q : VK) (E : XK) (r : Result) (s' : Shared) : Prop :=
  match r with
  | .ok (.ret u) => CE outer P w H s Q u s'
  | .ok _ => False
  | .error e => CX outer H s E e s'
structure FnOk (P : Program) (w : World) (K : PySem.W.Frag) (mg : Str → Option Value) (base : Heap) (CX : CXT) (k : Nat) (f : Addr) (fd : FuncData) (ps : List Str) (sp : Sp) : Prop where
  len : ∀ vs H Q E, sp vs H Q E → vs.length = ps.length
  run : ∀ (A : Around) (outer : List Env) (s : Shared) (H : Hp) (args : Args) (us : List Value) (vs : List V) (Q : VK) (E : XK), Room k A → Env0 P w K mg base A outer s H → BindsTo s fd args (ps.zip us) → Vals vs us → sp vs H Q E →
    codeAny (model P w) A (.call (.ref f) args) (CR CX outer P w H s Q E) s
theorem FnOk.mono {P : Program} {w : World} {K : PySem.W.Frag} {mg : Str → Option Value} {base : Heap} {CX : CXT} {j k : Nat} {f : Addr} {fd : FuncData} {ps : List Str} {sp : Sp} (F : FnOk P w K mg base CX j f fd ps sp) (h : j ≤ k) :
    FnOk P w K mg base CX k f fd ps sp := ⟨F.len, fun A outer s H args us vs Q E hr => F.run A outer s H args us vs Q E (hr.mono h)⟩
/-- a weaker promise -/
theorem FnOk.imp {P : Program} {w : World} {K : PySem.W.Frag} {mg : Str → Option Value} {base : Heap} {CX : CXT} {k : Nat} {f : Addr} {fd : FuncData} {ps : List Str} {sp sp' : Sp} (F : FnOk P w K mg base CX k f fd ps sp)
    (h : ∀ vs H Q E, sp' vs H Q E → sp vs H Q E) : FnOk P w K mg base CX k f fd ps sp' :=
  ⟨fun vs H Q E q => F.len vs H Q E (h _ _ _ _ q), fun A outer s H args us vs Q E hr he hb hv hs => F.run A outer s H args us vs Q E hr he hb hv (h _ _ _ _ hs)⟩

theorem Env0.in1 {P : Program} {w : World} {K : PySem.W.Frag} {mg : Str → Option Value} {base : Heap} {A : Around} {outer : List Env} {s : Shared} {H : Hp} (e : Env0 P w K mg base A outer s H) :
    Env0 P w K mg base A.in1 outer s H := ⟨e.frames, e.mod, e.bs, e.bsz, e.funs, e.frf, e.hok, e.bare, e.tk⟩

section
variable {X : Cx} {pins : List (Addr × Obj)} {σ : St} {H : Hp} {s s' : Shared}
/-- from a body: what a callee wants -/
theorem Inv.env0 (I : Inv X pins σ H s) : Env0 X.prog X.w X.K X.mg X.base X.A X.stack s H :=
  ⟨I.ok.frames, I.ok.mod, I.bs, Nat.le_trans I.ok.bsz I.sz, I.stack, I.stkFree, I.hok, I.bare, I.tk⟩
/-- behind a call -/
theorem Inv.after {Q : VK} {u : Value} (I : Inv X pins σ H s) (h : CE X.stack X.prog X.w H s Q u s') : EP X pins σ Q u s' := by
  obtain ⟨v, H', ht, os, bare, un, hok, r, q⟩ := h
  obtain ⟨hh, g, d, t, os'⟩ := s'
  obtain rfl : os' = s.os := os
  exact ⟨v, H', I.call (h' := hh) (g' := g) (d' := d) (t' := t) (ch := []) un hok bare (fun b z => absurd z (by simp)) ht, r, q⟩
end

/-! ### calls -/
/-- f(..): the written arguments, then the defaults dvs; E: what is wanted of an exception -/
def tCall (sp : Sp) (dvs : List V) (E : XK) (t : TA) : TE := fun σ H Q => t σ H fun vs H1 => sp (vs ++ dvs) H1 Q E
/-- o.m(..) of an instance of the class at C -/
def tMeth (C : Addr) (m : Str) (sp : Sp) (dvs : List V) (E : XK) (ta : TE) (t : TA) : TE := fun σ H Q => ta σ H fun x H1 => ∃ a dx fs, x = .ref a ∧ H1 a = some (.ins C dx fs) ∧ fs.lookup m = none ∧
  t σ H1 fun vs H2 => sp (x :: (vs ++ dvs)) H2 Q E
/-- C(..): a new instance and its dict, then __init__ -/
def tMake (C : Addr) (sp : Sp) (dvs : List V) (E : XK) (t : TA) : TE := fun σ H Q => t σ H fun vs H1 => ∀ x dx, H1 x = none → H1 dx = none → dx ≠ x →
  sp (.ref x :: (vs ++ dvs)) (upd (upd H1 dx (.own x)) x (.ins C dx [])) (fun v H2 => v = .non ∧ Q (.ref x) H2) E

/-- how the parameters are bound: us the positional arguments, kw the keywords' values by name, ds the defaults that fill up -/
def Binds (K : PySem.W.Frag) (fd : FuncData) (ps : List Str) (ds : List Value) : Prop :=
  ∀ (s : Shared) (us : List Value), K.In s.heap → (us ++ ds).length = ps.length → BindsTo s fd ⟨us, []⟩ (ps.zip (us ++ ds))
/-- every parameter is given -/
theorem Binds.all {K : PySem.W.Frag} {fd : FuncData} {ps : List Str} (h : ∀ us : List Value, us.length = ps.length → bindArgs fd ⟨us, []⟩ = pure (ps.zip us)) : Binds K fd ps [] := fun s us _ hl => by
  rw [List.append_nil] at hl ⊢
  exact .of_eq (h us hl)

/-- an exception of a callee reaches what this body wants of exceptions -/
def Passes (CX : CXT) (X : Cx) (E : XK) : Prop := ∀ (pins : List (Addr × Obj)) (σ : St) (H : Hp) (s : Shared) (e : Value) (s' : Shared), Inv X pins σ H s → CX X.stack H s E e s' → X.xe e s'

section
variable {X : Cx} {CX : CXT} {k : Nat} {f C : Addr} {fd : FuncData} {ps : List Str} {sp : Sp} {dvs : List V} {ds : List Value} {E : XK} {x m : Str} {p pos apos : Pos} {e o : Expr} {es : List Expr} {ta : TE} {t : TA}

/-- the callee runs -/
theorem run_fn {pins : List (Addr × Obj)} {σ : St} {H : Hp} {s : Shared} {Q : VK} {us : List Value} {vs : List V} (F : FnOk X.prog X.w X.K X.mg X.base CX k f fd ps sp) (hr : Room k X.A) (hb : Binds X.K fd ps ds) (hd : Vals dvs ds) (hx : Passes CX X E)
    (I : Inv X pins σ H s) (r : Vals vs us) (h : sp (vs ++ dvs) H Q E) : wpAny (model X.prog X.w) X.A (call (.ref f) us) (EP X pins σ Q) X.xe s := by
  have r2 : Vals (vs ++ dvs) (us ++ ds) := r.append hd
  have hl : (us ++ ds).length = ps.length := by rw [← r2.length]; exact F.len _ _ _ _ h
  refine wpAny_call (codeAny_mono (F.run X.A X.stack s H ⟨us, []⟩ (us ++ ds) (vs ++ dvs) Q E hr I.env0 (hb s us I.kIn hl) r2 h) fun r s' hq => ?_)
  cases r with
  | error e => exact hx pins σ H s e s' I hq
  | ok fl =>
    cases fl with
    | ret u => exact I.after hq
    | next => exact False.elim hq
    | brk => exact False.elim hq
    | cont => exact False.elim hq

theorem pe_call (F : FnOk X.prog X.w X.K X.mg X.base CX k f fd ps sp) (hr : Room k X.A) (hg : Gl X x) (hm : X.mg x = some (.ref f)) (hk : PySem.W.keepIn X.K (.ref f) = true) (hb : Binds X.K fd ps ds) (hd : Vals dvs ds) (hx : Passes CX X E)
    (ha : PA X (e :: es) t) (hdb : (x == ("__debug__" : Str)) = false := by decide) (he : starEach (e :: es) X.env = (false, eval e X.env) :: starEach es X.env := by rfl) (hpl : (backTo pos (starEach es X.env)).any (·.1) = false := by rfl) :
    PE X (.Call (.Name x p) (e :: es) [] pos) (tCall sp dvs E t) := by
  intro pins s σ H Q I h
  refine wpAny_Call_Name_kw (ld_glob I hg hm ?_ hdb)
  refine PySem.W.callWith_K (h₀ := X.base) I.ok.mod.kin hk (thn (ha pos pins s σ H _ I h) fun us s1 ⟨vs, H1, I1, r, q⟩ => ⟨I1.kIn, ?_⟩) he hpl
  exact run_fn F hr hb hd hx I1 r q
/-- what a class must have to be made -/
structure Mk (K : PySem.W.Frag) (C f : Addr) : Prop where
  makes : PySem.W.makesIn K C = true
  init : PySem.W.findIn K (.ref C) "__init__" = some (some (.ref f))
  fn : PySem.W.isFn K (.ref f) = true
  kp : PySem.W.keepIn K (.ref C) = true

end

/-! ### keywords -/
section
variable {X : Cx} {CX : CXT} {k : Nat} {f C : Addr} {fd : FuncData} {ps ks : List Str} {sp : Sp} {E : XK} {x m : Str} {p pos apos kpos : Pos} {e o : Expr} {es : List Expr} {kws : List Keyword} {te ta : TE} {t tk : TA} {nm : Option Str}
/-- how a call with keywords binds: g puts the positional values us and the keywords' values ws (names ks) in the parameters' order, defaults among them -/
structure KBinds (K : PySem.W.Frag) (fd : FuncData) (ps ks : List Str) (g : List Value → List Value → List Value) (gV : List V → List V → List V) : Prop where
  to : ∀ (s : Shared) (us ws : List Value), K.In s.heap → (g us ws).length = ps.length → BindsTo s fd ⟨us, ks.zip ws⟩ (ps.zip (g us ws))
  rel : ∀ {vs : List V} {us : List Value} {zs : List V} {ws : List Value}, Vals vs us → Vals zs ws → Vals (gV vs zs) (g us ws)
variable {g : List Value → List Value → List Value} {gV : List V → List V → List V}
end

/-! ### a def's body keeps its promise -/
/-- names: the parameters first -/
structure FnScope (N P : List Str) (sc : Scope) : Prop where
  kind : sc.kind = .function
  co : sc.isCoroutine = false
  gen : sc.isGenerator = false
  nd : N.Nodup
  pre : N.take P.length = P
  par : ∀ x ∈ P, sc.names.lookup x = some .local ∨ sc.names.lookup x = some .cell
  nofree : ∀ y ∈ sc.names, y.2 ≠ .free

theorem bindL_out {kindOf : Str → Option NameKind} {x : Str} : ∀ {binds : List (Str × Value)} {m : Str → Option Value}, (∀ v, (x, v) ∉ binds) → bindL kindOf binds m x = m x
  | [], _, _ => rfl
  | (n, v) :: r, m, h => by
    unfold bindL
    rw [bindL_out fun w hw => h w (List.mem_cons_of_mem _ hw)]
    split
    · have : x ≠ n := by rintro rfl; exact h v List.mem_cons_self
      simp [this]
    · rfl
theorem bindC_out {kindOf : Str → Option NameKind} {x : Str} : ∀ {binds : List (Str × Value)} {m : Str → Option Value}, (∀ v, (x, v) ∉ binds) → bindC kindOf binds m x = m x
  | [], _, _ => rfl
  | (n, v) :: r, m, h => by
    unfold bindC
    rw [bindC_out fun w hw => h w (List.mem_cons_of_mem _ hw)]
    split
    · rfl
    · have : x ≠ n := by rintro rfl; exact h v List.mem_cons_self
      simp [this]
theorem bindL_get {kindOf : Str → Option NameKind} {x : Str} {v : Value} : ∀ {P : List Str} {vs : List Value} {i : Nat} {m : Str → Option Value}, P.Nodup → P[i]? = some x → vs[i]? = some v → kindOf x = some .local →
    bindL kindOf (P.zip vs) m x = some v
  | [], _, _, _, _, h, _, _ => by simp at h
  | _ :: _, [], _, _, _, _, h, _ => by simp at h
  | p :: P, w :: vs, 0, m, nd, h1, h2, hk => by
    simp at h1 h2; subst h1; subst h2
    show bindL kindOf ((p, w) :: P.zip vs) m p = _
    unfold bindL
    rw [bindL_out fun v hv => (List.nodup_cons.mp nd).1 (List.of_mem_zip hv).1, if_pos hk]
    simp
  | p :: P, w :: vs, i + 1, m, nd, h1, h2, hk => by
    show bindL kindOf ((p, w) :: P.zip vs) m x = _
    unfold bindL
    exact bindL_get (i := i) (List.nodup_cons.mp nd).2 (by simpa using h1) (by simpa using h2) hk
theorem bindC_get {kindOf : Str → Option NameKind} {x : Str} {v : Value} : ∀ {P : List Str} {vs : List Value} {i : Nat} {m : Str → Option Value}, P.Nodup → P[i]? = some x → vs[i]? = some v → kindOf x ≠ some .local →
    bindC kindOf (P.zip vs) m x = some v
  | [], _, _, _, _, h, _, _ => by simp at h
  | _ :: _, [], _, _, _, _, h, _ => by simp at h
  | p :: P, w :: vs, 0, m, nd, h1, h2, hk => by
    simp at h1 h2; subst h1; subst h2
    show bindC kindOf ((p, w) :: P.zip vs) m p = _
    unfold bindC
    rw [bindC_out fun v hv => (List.nodup_cons.mp nd).1 (List.of_mem_zip hv).1, if_neg hk]
    simp
  | p :: P, w :: vs, i + 1, m, nd, h1, h2, hk => by
    show bindC kindOf ((p, w) :: P.zip vs) m x = _
    unfold bindC
    exact bindC_get (i := i) (List.nodup_cons.mp nd).2 (by simpa using h1) (by simpa using h2) hk

/-- the names' values at the entry -/
def start (N : List Str) (vs : List V) : St := vs.map some ++ List.replicate (N.length - vs.length) none

/-- the context of a def's body, at its entry; an exception leaves the frame, then lies as CX says -/
def cxOf (CX : CXT) (P : Program) (w : World) (K : PySem.W.Frag) (mg : Str → Option Value) (base : Heap) (N : List Str) (qual : Str) (scope : Scope) (f : Addr) (cd : Value) (A : Around) (outer : List Env) (s : Shared) (H : Hp) (E : XK) : Cx where
  prog := P
  w := w
  K := K
  mg := mg
  base := base
  A := A.deeper (envOfC qual scope s.heap.objs.size f cd)
  N := N
  s₀ := s
  H₀ := H
  env := envOfC qual scope s.heap.objs.size f cd
  outer := outer
  stack := envOfC qual scope s.heap.objs.size f cd :: outer
  ex := []
  calm := true
  fn := fun _ => true
  pn := []
  xe := fun e s' => wpAny (model P w) (A.deeper (envOfC qual scope s.heap.objs.size f cd)) (leaving (envOfC qual scope s.heap.objs.size f cd) e) (fun _ s'' => CX outer H s E e s'') (fun e' s'' => CX outer H s E e' s'') s'

theorem cell_has {sc : Scope} {n : Nat} {x : Str} (h : sc.names.lookup x = some .cell) : ∃ c, (cellsFrom n sc.names []).lookup x = some c := by
  have q := PySem.W.cellsFrom_some sc.names n [] (.inl h)
  exact Option.isSome_iff_exists.mp q

theorem inv_start {CX : CXT} {P : Program} {w : World} {K : PySem.W.Frag} {mg : Str → Option Value} {base : Heap} {N ps : List Str} {qual : Str} {scope : Scope} {f : Addr} {cd : Value} {A : Around} {outer : List Env} {s s1 : Shared} {H : Hp} {E : XK} {us : List Value} {vs : List V}
    (S : FnScope N ps scope) (hd : A.handled = none) (e0 : Env0 P w K mg base A outer s H) (hl : vs.length = ps.length) (r : Vals vs us)
    (x : InCallC s s.heap.objs.size (bindL (envOfC qual scope s.heap.objs.size f cd).kindOf (ps.zip us) fun _ => none) (cellsFrom (s.heap.objs.size + 1) scope.names []) (bindC (envOfC qual scope s.heap.objs.size f cd).kindOf (ps.zip us) fun _ => none) s1) (htk : 0 < s1.toks) :
    Inv (cxOf CX P w K mg base N qual scope f cd A outer s H E) [] (start N vs) H s1 := by
  have hpl : ps.length ≤ N.length := by have := congrArg List.length S.pre; rw [List.length_take] at this; omega
  obtain ⟨h1, tk, rfl, hk⟩ := x.done
  have noA : ∀ b : Addr, b ∉ (cxOf CX P w K mg base N qual scope f cd A outer s H E).ex := fun b z => absurd (show b ∈ ([] : List Addr) from z) (by simp)
  refine ⟨⟨e0.mod, S.kind, rfl, rfl, Nat.le_refl _, fun y z c h1 h2 => ?_, fun y hy => ?_, fun y c _ h => ?_, fun _ => hd, Around.frames_deeper e0.frames, .inr ⟨rfl, rfl⟩, fun b z => absurd z (noA b), e0.bs, e0.bsz, fun b _ _ => noA b, fun b z => absurd z (noA b), e0.funs, e0.frf⟩,
    rfl, e0.bare, Un.kept hk, ⟨_, x.toInCall.ns, fun i y v h1 h2 h3 => ?_⟩, fun y c h => ⟨_, x.cell y c h⟩, e0.hok.fresh (Nat.le_refl _), fun y c h => ?_, fun p hp => absurd (show p ∈ ([] : List (Addr × Obj)) from hp) (by simp), e0.hok.kept hk, ?_, htk⟩
  · exact name_of_addr x.apart (PySem.mem_of_lookup h1) (PySem.mem_of_lookup h2)
  · have hy : scope.names.lookup y = some .cell ∨ scope.names.lookup y = some .free := hy
    rcases hy with hy | hy
    · exact cell_has hy
    · exact absurd rfl (S.nofree _ (PySem.mem_of_lookup hy))
  · exact Nat.le_of_lt (x.above y c (PySem.mem_of_lookup h))
  · have hi : i < vs.length := by
      unfold start at h2
      by_cases hi : i < vs.length
      · exact hi
      · rw [List.getElem?_append_right (by simpa using hi)] at h2
        rw [List.getElem?_replicate] at h2
        split at h2 <;> cases h2
    have ha : vs[i]? = some v := by
      unfold start at h2
      rw [List.getElem?_append_left (by simpa using hi), List.getElem?_map] at h2
      cases e : vs[i]? with
      | none => rw [e] at h2; cases h2
      | some a => rw [e] at h2; cases h2; rfl
    obtain ⟨u, hu, rv⟩ := r.get ha
    have hp : ps[i]? = some y := by
      rw [← S.pre, List.getElem?_take_of_lt (by omega)]; exact h1
    have ndP : ps.Nodup := by rw [← S.pre]; exact S.nd.sublist (List.take_sublist _ _)
    refine ⟨u, rv, ?_⟩
    rcases S.par y (List.mem_of_getElem? hp) with k | k
    · exact .inl ⟨k, bindL_get ndP hp hu k⟩
    · obtain ⟨c, e⟩ := cell_has (n := s.heap.objs.size + 1) k
      refine .inr ⟨.inl k, c, e, ?_⟩
      have q := x.cell y c e
      rw [bindC_get ndP hp hu (by show scope.names.lookup y ≠ _; rw [k]; decide)] at q
      exact q
  · exact e0.hok.fresh (Nat.le_of_lt (x.above y c (PySem.mem_of_lookup h)))
  · unfold start
    show _ = N.length
    rw [List.length_append, List.length_map, List.length_replicate]
    omega

/-- THE RULE: a def (or a method) of the text, by its body. The body's reading t is chosen for each entry; it is run at the parameters' values -/
theorem fn_of {CX : CXT} {P : Program} {w : World} {K : PySem.W.Frag} {mg : Str → Option Value} {base : Heap} {k : Nat} {f : Addr} {name qual : Str} {params : Arguments} {body : List Stmt} {scope : Scope} {dV kV doc pm cdv ct oc : Value} {an od : Option Addr}
    {osl : Array (Option Value)} {N ps : List Str} {sp : Sp} (lk : K.lookup f = some ⟨oc, od, .func (PySem.W.fnOf name qual params body scope dV kV doc pm an cdv ct), osl⟩) (hcd : PySem.W.codeIn K cdv qual = true) (S : FnScope N ps scope)
    (len : ∀ vs H Q E, sp vs H Q E → vs.length = ps.length)
    (hbody : ∀ (A : Around) (outer : List Env) (s : Shared) (H : Hp) (vs : List V) (Q : VK) (E : XK), Room k (A.deeper (envOfC qual scope s.heap.objs.size f cdv)) → sp vs H Q E →
      ∃ t, PSs (cxOf CX P w K mg base N qual scope f cdv A outer s H E) body t ∧ t { nx := fun _ H' => Q .non H', rt := Q } (start N vs) H) :
    FnOk P w K mg base CX (k + 1) f (PySem.W.fnOf name qual params body scope dV kV doc pm an cdv ct) ps sp := by
  refine ⟨len, fun A outer s H args us vs Q E hr e0 hb r hsp => ?_⟩
  have hl := len _ _ _ _ hsp
  have KX : K.In s.heap := e0.mod.kin.keeps fun b o e => (e0.bs b o e).1
  have lim : s.heap.NoLimit := e0.mod.nolimit.keeps fun b o e => (e0.bs b o e).1
  have hkind : ∀ y ∈ ps.zip us, scope.names.lookup y.1 = some .local ∨ (scope.names.lookup y.1 = some .cell ∧ ((cellsFrom (s.heap.objs.size + 1) scope.names []).lookup y.1).isSome = true) := fun ⟨n, v⟩ hy => by
    rcases S.par n (List.of_mem_zip hy).1 with q | q
    · exact .inl q
    · exact .inr ⟨q, PySem.W.cellsFrom_some _ _ _ (.inl q)⟩
  refine codeAny_call_function hr.depth (KX _ _ lk) rfl S.co S.gen rfl (PySem.W.codeRec_of KX hcd) (hb _ _ _ _ ?_)
  refine tokQ e0.tk (wpAny_newFunctionEnv_cells S.kind hkind fun env he s1 x htk => ?_)
  subst he
  refine ⟨lim.keeps x.toInCall.keep, codeAny_func ?_⟩
  obtain ⟨t, ht, hq⟩ := hbody A outer s H vs Q E (hr.deeper _) hsp
  have I : Inv (cxOf CX P w K mg base N qual scope f cdv A outer s H E) [] (start N vs) H s1 := inv_start S hr.hd e0 hl r x htk
  refine wpAny_mono (ht [] s1 (start N vs) H _ I hq) (fun fl s' hs => ?_) fun e s' hs => hs
  have fin : ∀ {σ' : St} {H' : Hp} {v : V} {u : Value}, Inv (cxOf CX P w K mg base N qual scope f cdv A outer s H E) [] σ' H' s' → RelV v u → Q v H' → CE outer P w H s Q u s' :=
    fun {σ' H' v u} J rv q => ⟨v, H', J.tk, J.os, J.bare, J.base, J.hok, rv, q⟩
  cases fl with
  | ret u =>
    obtain ⟨v, σ', H', J, rv, q⟩ := hs
    exact fin J rv q
  | next =>
    obtain ⟨σ', H', J, q⟩ := hs
    exact fin (v := V.non) (u := Value.none) J rfl q
  | brk =>
    obtain ⟨_, _, _, q⟩ := hs
    exact False.elim q
  | cont =>
    obtain ⟨_, _, _, q⟩ := hs
    exact False.elim q
end L2

namespace L2
open PySem PySem.Spec PyProof.Rows
section
variable {X : Cx} {x : Str} {p pos : Pos} {e : Expr} {es : List Expr} {t : TA} {id T : String} {r : List V → Hp → VK → Prop}

def tCB (r : List V → Hp → VK → Prop) (t : TA) : TE := fun σ H Q => t σ H fun vs H1 => r vs H1 Q
/-- f(e, ..), f a built-in function -/
theorem pe_callB (hc : CallR X (.builtin id) r) (hg : Gl X x) (hm : X.mg x = none) (hv : bootBuiltins x = some (.builtin id)) (ha : PA X (e :: es) t) (hn : x ≠ "__name__" := by decide) (hdb : (x == ("__debug__" : Str)) = false := by decide)
    (he : starEach (e :: es) X.env = (false, eval e X.env) :: starEach es X.env := by rfl) (hpl : (backTo pos (starEach es X.env)).any (·.1) = false := by rfl) : PE X (.Call (.Name x p) (e :: es) [] pos) (tCB r t) := by
  intro pins s σ H Q I h
  refine wpAny_Call_Name_kw (ld_blt I hg hm hv ?_ hn hdb)
  exact PyProof.Rows.callWith_builtin1 (thn (ha pos pins s σ H _ I h) fun us s1 ⟨vs, H1, I1, r1, q1⟩ => hc pins s1 σ H1 vs us Q I1 r1 q1) he hpl
/-- T(e, ..), T a built-in type -/
theorem pe_callTy (hc : CallR X (.type T) r) (hg : Gl X x) (hm : X.mg x = none) (hv : bootBuiltins x = some (.type T)) (ha : PA X (e :: es) t) (hn : x ≠ "__name__" := by decide) (hdb : (x == ("__debug__" : Str)) = false := by decide)
    (he : starEach (e :: es) X.env = (false, eval e X.env) :: starEach es X.env := by rfl) (hpl : (backTo pos (starEach es X.env)).any (·.1) = false := by rfl) : PE X (.Call (.Name x p) (e :: es) [] pos) (tCB r t) := by
  intro pins s σ H Q I h
  refine wpAny_Call_Name_kw (ld_blt I hg hm hv ?_ hn hdb)
  exact PyProof.Rows.callWith_type1 (thn (ha pos pins s σ H _ I h) fun us s1 ⟨vs, H1, I1, r1, q1⟩ => hc pins s1 σ H1 vs us Q I1 r1 q1) he hpl
end
end L2

namespace HT
open PySem PyProof.Rows

section
open PySem.SeqAt
open PySem.AutoSeq1 (wpAny_loadPart')
open PySem.MeetsSeq PySem.MeetsSeq2 PySem.MeetsSeq3

end

section
variable {prog : Program} {w : World} {A : Around} {E : Value → Shared → Prop} {s : Shared}

/-! ### t[a:b], not the whole -/
/-- a slice's bound as a place among n (d where it is left out) -/
def sIx (n d : Nat) : Option Int → Nat
  | none => d
  | some v => if v < 0 then (v + (n : Int)).toNat else min v.toNat n
theorem sIx_nat (n d k : Nat) : sIx n d (some (k : Int)) = min k n := by
  show (if (k : Int) < 0 then ((k : Int) + (n : Int)).toNat else min (k : Int).toNat n) = min k n
  rw [if_neg (by omega), Int.toNat_natCast]
end
end HT

namespace L2
open PySem PySem.Spec PyProof.Rows

/-! ### the parts of a slice -/
abbrev TO := St → Hp → (Option Int → Hp → Prop) → Prop
/-- a slice's part (left out, or an int) -/
def PO (X : Cx) (e : Option Expr) (t : TO) : Prop :=
  ∀ (pins : List (Addr × Obj)) (s : Shared) (σ : St) (H : Hp) (Q : Option Int → Hp → Prop), Inv X pins σ H s → t σ H Q →
    wpAny (model X.prog X.w) X.A (evalPart e X.env) (fun u s' => ∃ o H', Inv X pins σ H' s' ∧ IsPart u o ∧ Q o H') X.xe s
def tNoPart : TO := fun _ H Q => Q none H
def tPart (t : TE) : TO := fun σ H Q => t σ H fun x H1 => ∃ i, x = .int i ∧ Q (some i) H1

theorem intsAre_of {ns : List Int} : ∀ {us : List Value}, Vals (ns.map V.int) us → IntsAre us ns := by
  induction ns with
  | nil => intro us r; rw [List.map_nil] at r; cases r; exact .nil
  | cons n ns ih =>
    intro us r
    rw [List.map_cons] at r
    cases r with
    | cons r1 r2 =>
      obtain ⟨t, e⟩ := r1
      subst e
      exact .cons n t (ih r2)

section
variable {X : Cx} {e : Expr} {te : TE} {lo hi : Option Expr} {tl th : TO} {pos p2 : Pos}

theorem po_none : PO X none tNoPart := by
  intro pins s σ H Q I h
  rw [evalPart_none]
  exact wpAny_pure ⟨none, H, I, .none, h⟩
theorem po_some (h : PE X e te) : PO X (some e) (tPart te) := by
  intro pins s σ H Q I hw
  rw [evalPart_some]
  refine thn (h pins s σ H _ I hw) fun u s1 ⟨x, H1, I1, r1, q1⟩ => ?_
  obtain ⟨i, rfl, q⟩ := q1
  obtain ⟨t, rfl⟩ := r1
  exact ⟨some i, H1, I1, .int i t, q⟩

/-- what a slice of a value is, by values: the slice object stands at sl -/
def SlR (X : Cx) (r : V → Option Int → Option Int → Hp → VK → Prop) : Prop :=
  ∀ (pins : List (Addr × Obj)) (s : Shared) (σ : St) (H : Hp) (x : V) (v vl vu : Value) (lo hi : Option Int) (sl : Addr) (Q : VK), Inv X pins σ H s → RelV x v → s.heap.IsSliceOf sl vl vu .none → IsPart vl lo → IsPart vu hi → r x lo hi H Q →
    ∃ T id, typeLookup (.type T) "__getitem__" = pure (some (.builtin id)) ∧ s.TypeIs v T ∧ wpAny (model X.prog X.w) X.A (getItem v (.ref sl)) (EP X pins σ Q) X.xe s
theorem SlR.or {r r' : V → Option Int → Option Int → Hp → VK → Prop} (h : SlR X r) (h' : SlR X r') : SlR X (fun x lo hi H Q => r x lo hi H Q ∨ r' x lo hi H Q) := by
  intro pins s σ H x v vl vu lo hi sl Q I rx hs pl pu q
  rcases q with q | q
  · exact h pins s σ H x v vl vu lo hi sl Q I rx hs pl pu q
  · exact h' pins s σ H x v vl vu lo hi sl Q I rx hs pl pu q
def tSl (r : V → Option Int → Option Int → Hp → VK → Prop) (te : TE) (tl th : TO) : TE := fun σ H Q => te σ H fun x H1 => tl σ H1 fun l H2 => th σ H2 fun u H3 => r x l u H3 Q
/-- a[lo:hi], any a -/
theorem pe_slice {r : V → Option Int → Option Int → Hp → VK → Prop} (hr : SlR X r) (he : PE X e te) (hl : PO X lo tl) (hu : PO X hi th) : PE X (.Subscript e (.Slice lo hi none p2) pos) (tSl r te tl th) := by
  intro pins s σ H Q I h
  refine Subscript_ (thn (he pins s σ H _ I h) fun v s1 ⟨x, H1, I1, r1, q1⟩ => ?_)
  refine wpAny_Slice (thn (hl pins s1 σ H1 _ I1 q1) fun vl s2 ⟨l, H2, I2, pl, q2⟩ => thn (hu pins s2 σ H2 _ I2 q2) fun vu s3 ⟨u, H3, I3, pu, q3⟩ => ?_)
  rw [evalPart_none]
  refine wpAny_pure ?_
  have I4 : Inv X pins σ H3 { s3 with heap := s3.heap.push { cls := .type "slice", data := .fields #[vl, vu, .none] } } := I3.kept (t' := s3.toks) fun b ob q => Heap.get?_push_of_some _ q
  obtain ⟨T, id, hT, ht, hg⟩ := hr pins { s3 with heap := s3.heap.push { cls := .type "slice", data := .fields #[vl, vu, .none] } } σ H3 x v vl vu l u s3.heap.objs.size Q I4 r1 (Heap.IsSliceOf.new ..) pl pu q3
  show wpAny (model X.prog X.w) X.A (subscriptTail e (.Slice lo hi none p2) v (.ref s3.heap.objs.size)) (EP X pins σ Q) X.xe { s3 with heap := s3.heap.push { cls := .type "slice", data := .fields #[vl, vu, .none] } }
  exact tail_any (ops := [.ref s3.heap.objs.size, v]) ht hT hg (by with_unfolding_all rfl)

/-- the items of xs[lo:hi] -/
def cutV (xs : List V) (lo hi : Option Int) : List V := (xs.drop (HT.sIx xs.length 0 lo)).take (HT.sIx xs.length xs.length hi - HT.sIx xs.length 0 lo)
theorem cutV_length (xs : List V) (lo hi : Option Int) : (cutV xs lo hi).length ≤ xs.length := by
  unfold cutV
  rw [List.length_take, List.length_drop]
  omega
/-! ### t < u, t + u -/
end
end L2

namespace L2
open PySem PySem.Spec PyProof.Rows

/-! ### places -/
/-- the place that an index of any sign means -/
def ixN (n : Nat) (i : Int) : Option Nat := if 0 ≤ i then (if i < n then some i.toNat else none) else if -(n : Int) ≤ i then some (i + n).toNat else none
def atI {α : Type} (xs : List α) (i : Int) : Option α := (ixN xs.length i).bind fun j => xs[j]?
theorem ixN_seq {n : Nat} {i : Int} {j : Nat} (h : ixN n i = some j) : seqIndex? i n = some j ∧ j < n ∧ -(n : Int) ≤ i ∧ i < n := by
  unfold ixN at h
  by_cases h0 : 0 ≤ i
  · rw [if_pos h0] at h
    by_cases h1 : i < n
    · rw [if_pos h1] at h
      have e : i.toNat = j := Option.some.inj h
      exact ⟨by rw [seqIndex_of h0 h1, e], by omega, by omega, h1⟩
    · rw [if_neg h1] at h; cases h
  · rw [if_neg h0] at h
    by_cases h1 : -(n : Int) ≤ i
    · rw [if_pos h1] at h
      have e : (i + n).toNat = j := Option.some.inj h
      exact ⟨by rw [seqIndex_neg (by omega) h1, e], by omega, h1, by omega⟩
    · rw [if_neg h1] at h; cases h
theorem atI_get {α : Type} {xs : List α} {i : Int} {v : α} (h : atI xs i = some v) : ∃ j, seqIndex? i xs.length = some j ∧ xs[j]? = some v ∧ j < xs.length ∧ -(xs.length : Int) ≤ i ∧ i < xs.length := by
  unfold atI at h
  cases e : ixN xs.length i with
  | none => rw [e] at h; cases h
  | some j =>
    rw [e] at h
    obtain ⟨h1, h2, h3, h4⟩ := ixN_seq e
    exact ⟨j, h1, h, h2, h3, h4⟩
theorem atI_nat {α : Type} {xs : List α} {j : Nat} {v : α} (h : xs[j]? = some v) : atI xs (j : Int) = some v := by
  have hj : j < xs.length := (List.getElem?_eq_some_iff.mp h).1
  have e : ixN xs.length (j : Int) = some j := by
    unfold ixN
    rw [if_pos (by omega), if_pos (by omega)]; simp
  unfold atI; rw [e]; exact h
/-! ### what may be subscripted -/
/-- what stands as an index of a plain subscript -/
def PlainIx (b : Expr) : Prop := ∀ o i, subscripted b false o i = operate [o, i] (getItem o i)
/-- a subscript by values -/
def IxR (X : Cx) (r : R2) : Prop :=
  ∀ (value slice : Expr) (pins : List (Addr × Obj)) (s : Shared) (σ : St) (H : Hp) (x y : V) (v u : Value) (Q : VK), Inv X pins σ H s → RelV x v → RelV y u → r x y H Q →
    subscripted slice false v u = operate [v, u] (getItem v u) → wpAny (model X.prog X.w) X.A (subscriptTail value slice v u) (EP X pins σ Q) X.xe s
/-- a call of a builtin's method by values: the receiver, the arguments -/
def MtR (X : Cx) (id : String) (r : V → List V → Hp → VK → Prop) : Prop :=
  ∀ (pins : List (Addr × Obj)) (s : Shared) (σ : St) (H : Hp) (x : V) (xs : List V) (v : Value) (us : List Value) (Q : VK), Inv X pins σ H s → RelV x v → Vals xs us → r x xs H Q →
    wpAny (model X.prog X.w) X.A (call (.builtin id) (v :: us)) (EP X pins σ Q) X.xe s
section
variable {X : Cx} {a b : Expr} {ta tb : TE} {pos : Pos}
theorem IxR.or {r r' : R2} (h : IxR X r) (h' : IxR X r') : IxR X (fun x y H Q => r x y H Q ∨ r' x y H Q) := by
  intro value slice pins s σ H x y v u Q I rx ry q hs
  rcases q with q | q
  · exact h value slice pins s σ H x y v u Q I rx ry q hs
  · exact h' value slice pins s σ H x y v u Q I rx ry q hs
theorem MtR.or {id : String} {r r' : V → List V → Hp → VK → Prop} (h : MtR X id r) (h' : MtR X id r') : MtR X id (fun x xs H Q => r x xs H Q ∨ r' x xs H Q) := by
  intro pins s σ H x xs v us Q I rx rs q
  rcases q with q | q
  · exact h pins s σ H x xs v us Q I rx rs q
  · exact h' pins s σ H x xs v us Q I rx rs q
/-- a[b] -/
theorem pe_ix {r : R2} (hr : IxR X r) (ha : PE X a ta) (hb : PE X b tb) (hs : PlainIx b) : PE X (.Subscript a b pos) (tOp r ta tb) := by
  intro pins s σ H Q I h
  exact Subscript_ (binT ha hb I h fun v u s2 x y H2 I2 rx ry q => hr a b pins s2 σ H2 x y v u Q I2 rx ry q (hs _ _))

def rIxL (K : PySem.W.Frag) : R2 := fun x y H Q => ∃ p xs i v, x = .ref p ∧ y = .int i ∧ SqL K H p xs ∧ atI xs i = some v ∧ Q v H
def rIxT (K : PySem.W.Frag) : R2 := fun x y H Q => ∃ p xs i v, x = .ref p ∧ y = .int i ∧ SqT K H p xs ∧ atI xs i = some v ∧ Q v H
def rIxS : R2 := fun x y H Q => ∃ z i c, x = .str z ∧ y = .int i ∧ z.length ≤ sizeLine ∧ atI z.cps.toList i = some c ∧ Q (.str ⟨#[c]⟩) H
theorem ix_list : IxR X (rIxL X.K) := by
  intro value slice pins s σ H x y v u Q I rx ry h hs
  obtain ⟨p, xs, i, z, rfl, rfl, hq, he, q⟩ := h
  cases rx
  obtain ⟨t, rfl⟩ := ry
  obtain ⟨its, r, pl, hz⟩ := I.list hq
  obtain ⟨j, h1, h2, h3, h4, h5⟩ := atI_get he
  obtain ⟨w, ew, rw'⟩ := r.get h2
  have hl := r.length
  have hn := line63
  have fin : EP X pins σ Q w s := ⟨z, H, I, rw', q⟩
  by_cases h0 : 0 ≤ i
  · have hj : i.toNat = j := by
      rw [seqIndex_of h0 h5] at h1
      exact Option.some.inj h1
    exact item_listR pl.isList h0 (by omega) (by rw [hj]; simpa using ew) fin hs
  · have hj : (i + (its.toArray.size : Int)).toNat = j := by
      rw [seqIndex_neg (by omega) h4] at h1
      rw [List.size_toArray, ← hl]
      exact Option.some.inj h1
    exact subscriptTail_builtinR (x := w) pl.isList.typeIs slot_list_getitem.lookup
      (wpAny_getItem_list_neg (Q := fun r s' => r = w ∧ EP X pins σ Q r s') pl.isList (by omega) (by rw [List.size_toArray] <;> omega) (by omega) (by rw [hj]; simpa using ew) ⟨rfl, fin⟩) hs
theorem ix_tup : IxR X (rIxT X.K) := by
  intro value slice pins s σ H x y v u Q I rx ry h hs
  obtain ⟨p, xs, i, z, rfl, rfl, hq, he, q⟩ := h
  cases rx
  obtain ⟨t, rfl⟩ := ry
  obtain ⟨its, r, pl, hz⟩ := I.tuple hq
  obtain ⟨j, h1, h2, h3, h4, h5⟩ := atI_get he
  obtain ⟨w, ew, rw'⟩ := r.get h2
  have hl := r.length
  have hn := line63
  have fin : EP X pins σ Q w s := ⟨z, H, I, rw', q⟩
  exact subscriptTail_builtinR (x := w) pl.typeIs slot_tuple_getitem.lookup
    (getItem_tuple (j := j) (Q := fun r s' => r = w ∧ EP X pins σ Q r s') pl (by omega) (by omega) (by rw [List.size_toArray, ← hl]; exact h1) (by simpa using ew) ⟨rfl, fin⟩) hs
theorem ix_str : IxR X rIxS := by
  intro value slice pins s σ H x y v u Q I rx ry h hs
  obtain ⟨z, i, c, rfl, rfl, hz, he, q⟩ := h
  obtain ⟨t, rfl⟩ := rx
  obtain ⟨t', rfl⟩ := ry
  obtain ⟨j, h1, h2, h3, h4, h5⟩ := atI_get he
  have hl : z.cps.toList.length = z.length := by simp [Str.length]
  rw [hl] at h1 h4 h5
  have hn := line63
  exact tail_any (typeIs_str s z t) slot_str_getitem.lookup (getItem_str (c := c) (by
    have e1 : decide (i < -(2 ^ 63 : Int)) = false := decide_eq_false (by omega)
    have e2 : decide (i ≥ 2 ^ 63) = false := decide_eq_false (by omega)
    rw [e1, e2, Bool.or_false]) (by rw [h1]; simpa using h2) ⟨.str ⟨#[c]⟩, H, I.tok _, ⟨_, rfl⟩, q⟩) hs
/-- list, tuple or str -/
def rIx (K : PySem.W.Frag) : R2 := fun x y H Q => rIxL K x y H Q ∨ rIxT K x y H Q ∨ rIxS x y H Q
theorem ix_seq : IxR X (rIx X.K) := ix_list.or (ix_tup.or ix_str)

/-! ### xs[i] = v, any sign -/
theorem Inv.lst {pins : List (Addr × Obj)} {σ : St} {H : Hp} {s : Shared} {p : Addr} {xs : List V} (I : Inv X pins σ H s) (h : H p = some (.lst xs)) :
    ∃ (its : List Value) (n : Nat), Vals xs its ∧ s.heap.get? p = some { cls := .type "list", data := .seq its.toArray n } ∧ xs.length ≤ sizeLine := by
  obtain ⟨z, its, n, r, e⟩ := I.hok p _ h
  exact ⟨its, n, r, e, z⟩
def rSetL : V → V → V → Hp → (Hp → Prop) → Prop := fun o i v H Q => ∃ p xs k j, o = .ref p ∧ i = .int k ∧ H p = some (.lst xs) ∧ ixN xs.length k = some j ∧ Q (upd H p (.lst (xs.set j v)))
/-! ### slices -/
theorem slice_bounds (lo hi : Option Int) (n : Nat) : (sliceBounds lo hi none n).1 = ((HT.sIx n 0 lo : Nat) : Int) ∧ (sliceBounds lo hi none n).2.1 = ((HT.sIx n n hi : Nat) : Int) ∧ (sliceBounds lo hi none n).2.2 = 1 := by
  refine ⟨?_, ?_, rfl⟩
  · cases lo with
    | none => simp [sliceBounds, HT.sIx]
    | some i =>
      simp only [sliceBounds, HT.sIx, Option.getD_none, show (1 : Int) > 0 by decide, if_true]
      by_cases h : i < 0
      · simp only [h, if_true] <;> omega
      · simp only [h, if_false] <;> omega
  · cases hi with
    | none => simp [sliceBounds, HT.sIx]
    | some i =>
      simp only [sliceBounds, HT.sIx, Option.getD_none, show (1 : Int) > 0 by decide, if_true]
      by_cases h : i < 0
      · simp only [h, if_true] <;> omega
      · simp only [h, if_false] <;> omega
theorem slicePick_cut (its : List Value) (lo hi : Option Int) : slicePick its.toArray lo hi none = ((its.drop (HT.sIx its.length 0 lo)).take (HT.sIx its.length its.length hi - HT.sIx its.length 0 lo)).toArray := by
  obtain ⟨h1, h2, h3⟩ := slice_bounds lo hi its.toArray.size
  unfold slicePick
  rw [h1, h2, h3]
  simp only [sliceRange_one, pick_run, List.size_toArray] <;> rfl
/-- xs[lo:hi] of a list: a new list -/
def rSlL (K : PySem.W.Frag) : V → Option Int → Option Int → Hp → VK → Prop := fun x lo hi H Q => ∃ a xs, x = .ref a ∧ SqL K H a xs ∧ ∀ p, H p = none → Q (.ref p) (upd H p (.lst (cutV xs lo hi)))
theorem sl_list : SlR X (rSlL X.K) := by
  intro pins s σ H x v vl vu lo hi sl Q I rx hs pl pu h
  obtain ⟨a, xs, rfl, hx, q⟩ := h
  cases rx
  obtain ⟨its, r, ht, hz⟩ := I.list hx
  have hlen := r.length
  refine ⟨"list", _, slot_list_getitem.lookup, ht.isList.typeIs, ?_⟩
  refine wpAny_getItem_list_slice ht.isList hs pl pu .none (by simp) ?_ (by rw [List.size_toArray] <;> omega)
  rw [slicePick_cut, ← hlen]
  refine ⟨.ref s.heap.objs.size, _, I.laid (t' := s.toks) (o := .lst (cutV xs lo hi)) (fun b ob q => Heap.get?_push_of_some _ q) (Nat.le_refl _) ?_, rfl, q _ (I.hok.fresh (Nat.le_refl _))⟩
  exact ⟨Nat.le_trans (cutV_length xs lo hi) hz, _, 0, (r.drop (HT.sIx xs.length 0 lo)).take (HT.sIx xs.length xs.length hi - HT.sIx xs.length 0 lo), Heap.get?_push_size _ rfl⟩

/-! ### in, not in: flat items -/
def flatV : V → Bool
  | .non => true
  | .bl _ => true
  | .int _ => true
  | .str _ => true
  | _ => false
/-- == of flat values -/
def eqV : V → V → Bool
  | .non, .non => true
  | .bl a, .bl b => a == b
  | .bl a, .int b => (if a then 1 else 0) == b
  | .int a, .bl b => a == (if b then 1 else 0)
  | .int a, .int b => a == b
  | .str a, .str b => a == b
  | _, _ => false
theorem eqAt_V {A : Around} {s : Shared} {y x : V} {u v : Value} (ry : RelV y u) (rx : RelV x v) (fy : flatV y = true) (fx : flatV x = true) : SeqAt.EqAt A s u v (eqV y x) := by
  cases y with
  | non =>
    cases ry
    cases x with
    | non => cases rx; exact SeqAt.EqAt.same _
    | bl b => cases rx; exact SeqAt.EqAt.none_bool b
    | int b => obtain ⟨t, rfl⟩ := rx; exact SeqAt.EqAt.none_int b t
    | str b => obtain ⟨t, rfl⟩ := rx; exact SeqAt.EqAt.none_str b t
    | _ => exact absurd (show false = true from fx) Bool.false_ne_true
  | bl a =>
    cases ry
    cases x with
    | non => cases rx; exact SeqAt.EqAt.bool_none a
    | bl b => cases rx; exact SeqAt.EqAt.bool_bool a b
    | int b => obtain ⟨t, rfl⟩ := rx; exact SeqAt.EqAt.bool_int a b t
    | str b => obtain ⟨t, rfl⟩ := rx; exact SeqAt.EqAt.bool_str a b t
    | _ => exact absurd (show false = true from fx) Bool.false_ne_true
  | int a =>
    obtain ⟨t', rfl⟩ := ry
    cases x with
    | non => cases rx; exact SeqAt.EqAt.int_none a t'
    | bl b => cases rx; exact SeqAt.EqAt.int_bool a t' b
    | int b => obtain ⟨t, rfl⟩ := rx; exact SeqAt.EqAt.int_int a t' b t
    | str b => obtain ⟨t, rfl⟩ := rx; exact SeqAt.EqAt.int_str a t' b t
    | _ => exact absurd (show false = true from fx) Bool.false_ne_true
  | str a =>
    obtain ⟨t', rfl⟩ := ry
    cases x with
    | non => cases rx; exact SeqAt.EqAt.str_none a t'
    | bl b => cases rx; exact SeqAt.EqAt.str_bool a t' b
    | int b => obtain ⟨t, rfl⟩ := rx; exact SeqAt.EqAt.str_int a t' b t
    | str b => obtain ⟨t, rfl⟩ := rx; exact SeqAt.EqAt.str_str a t' b t
    | _ => exact absurd (show false = true from fx) Bool.false_ne_true
  | _ => exact absurd (show false = true from fy) Bool.false_ne_true
/-- the items' answers, read off the values (a value's own answer does not lean on its token) -/
def eqU (x : V) (u : Value) : Bool := match u with
  | .none => eqV .non x
  | .bool b => eqV (.bl b) x
  | .int i _ => eqV (.int i) x
  | .str z _ => eqV (.str z) x
  | _ => false
theorem eqU_of {x y : V} {u : Value} (r : RelV y u) (f : flatV y = true) : eqU x u = eqV y x := by
  cases y with
  | non => cases r; rfl
  | bl b => cases r; rfl
  | int i => obtain ⟨t, rfl⟩ := r; rfl
  | str z => obtain ⟨t, rfl⟩ := r; rfl
  | _ => exact absurd (show false = true from f) Bool.false_ne_true
theorem any_eqU {x : V} : ∀ {xs : List V} {us : List Value}, Vals xs us → xs.all flatV = true → us.any (eqU x) = xs.any fun y => eqV y x
  | _, _, .nil, _ => rfl
  | y :: xs, u :: us, .cons r t, f => by
    rw [List.all_cons, Bool.and_eq_true] at f
    rw [List.any_cons, List.any_cons, eqU_of r f.1, any_eqU t f.2]
theorem mem_eqAt {A : Around} {s : Shared} {x : V} {v : Value} (rx : RelV x v) (fx : flatV x = true) : ∀ {xs : List V} {us : List Value}, Vals xs us → xs.all flatV = true → ∀ u ∈ us, SeqAt.EqAt A s u v (eqU x u)
  | _, _, .nil, _ => fun u hu => by cases hu
  | y :: xs, u :: us, .cons r t, f => fun u' hu => by
    rw [List.all_cons, Bool.and_eq_true] at f
    rcases List.mem_cons.mp hu with rfl | hu
    · rw [eqU_of r f.1]; exact eqAt_V r rx f.1 fx
    · exact mem_eqAt rx fx t f.2 u' hu
def inV (x : V) (xs : List V) : Bool := xs.any fun y => eqV y x
/-- x in a list or tuple of flat items -/
def rIn (K : PySem.W.Frag) (neg : Bool) : R2 := fun x y H Q => ∃ p xs, y = .ref p ∧ (SqL K H p xs ∨ SqT K H p xs) ∧ flatV x = true ∧ xs.all flatV = true ∧ Q (.bl (if neg then !inV x xs else inV x xs)) H
theorem op_in_seq : OpR X (compareOp .In) (rIn X.K false) := by
  intro pins s σ H x y v u Q I rx ry h
  obtain ⟨p, xs, rfl, hq, fx, fs, q⟩ := h
  cases ry
  rcases hq with hq | hq
  · obtain ⟨its, r, pl, hz⟩ := I.list hq
    refine SeqAt.in_listAt (eqU x) pl.isList (fun w hw => mem_eqAt rx fx r fs w (by simpa using hw)) ⟨.bl _, H, I, rfl, ?_⟩
    rw [show its.toArray.any (eqU x) = its.any (eqU x) by simp, any_eqU r fs]
    exact q
  · obtain ⟨its, r, pl, hz⟩ := I.tuple hq
    refine SeqAt.in_tupleAt (eqU x) pl (fun w hw => mem_eqAt rx fx r fs w (by simpa using hw)) ⟨.bl _, H, I, rfl, ?_⟩
    rw [show its.toArray.any (eqU x) = its.any (eqU x) by simp, any_eqU r fs]
    exact q
theorem op_notIn_seq : OpR X (compareOp .NotIn) (rIn X.K true) := by
  intro pins s σ H x y v u Q I rx ry h
  obtain ⟨p, xs, rfl, hq, fx, fs, q⟩ := h
  cases ry
  rcases hq with hq | hq
  · obtain ⟨its, r, pl, hz⟩ := I.list hq
    refine SeqAt.notIn_listAt (eqU x) pl.isList (fun w hw => mem_eqAt rx fx r fs w (by simpa using hw)) ⟨.bl _, H, I, rfl, ?_⟩
    rw [show its.toArray.any (eqU x) = its.any (eqU x) by simp, any_eqU r fs]
    exact q
  · obtain ⟨its, r, pl, hz⟩ := I.tuple hq
    refine SeqAt.notIn_tupleAt (eqU x) pl (fun w hw => mem_eqAt rx fx r fs w (by simpa using hw)) ⟨.bl _, H, I, rfl, ?_⟩
    rw [show its.toArray.any (eqU x) = its.any (eqU x) by simp, any_eqU r fs]
    exact q
/-! ### len, list(x), tuple(x) of any list or tuple that is read -/
theorem call_len_seq : CallR X (.builtin "len") (fun xs H Q => ∃ p ys, xs = [.ref p] ∧ (SqL X.K H p ys ∨ SqT X.K H p ys) ∧ Q (.int ys.length) H) := by
  intro pins s σ H xs us Q I r h
  obtain ⟨p, ys, rfl, hq, q⟩ := h
  obtain ⟨u, rfl, rx⟩ := vals1 r
  cases rx
  have hn := line63
  rcases hq with hq | hq
  · obtain ⟨its, r', pl, hz⟩ := I.list hq
    have hlen := r'.length
    exact Calls.call_len_list pl.isList (by simp only [List.size_toArray] <;> omega) ⟨.int ys.length, H, I.tok _, ⟨s.toks + 1, by rw [List.size_toArray, hlen]⟩, q⟩
  · obtain ⟨its, r', pl, hz⟩ := I.tuple hq
    have hlen := r'.length
    exact len_tuple pl (by simp only [List.size_toArray] <;> omega) ⟨.int ys.length, H, I.tok _, ⟨s.toks + 1, by rw [List.size_toArray, hlen]⟩, q⟩
theorem call_len_str : CallR X (.builtin "len") (fun xs H Q => ∃ z, xs = [.str z] ∧ z.length ≤ sizeLine ∧ Q (.int z.length) H) := by
  intro pins s σ H xs us Q I r h
  obtain ⟨z, rfl, hz, q⟩ := h
  obtain ⟨u, rfl, t, rfl⟩ := vals1 r
  have hn := line63
  exact len_str (by omega) ⟨.int z.length, H, I.tok _, ⟨_, rfl⟩, q⟩
theorem CallR.or {f : Value} {r r' : List V → Hp → VK → Prop} (h : CallR X f r) (h' : CallR X f r') : CallR X f (fun xs H Q => r xs H Q ∨ r' xs H Q) := by
  intro pins s σ H xs us Q I rs q
  rcases q with q | q
  · exact h pins s σ H xs us Q I rs q
  · exact h' pins s σ H xs us Q I rs q
theorem call_list_of : CallR X (.type "list") (fun xs H Q => ∃ p ys, xs = [.ref p] ∧ (SqL X.K H p ys ∨ SqT X.K H p ys) ∧ ∀ l, H l = none → Q (.ref l) (upd H l (.lst ys))) := by
  intro pins s σ H xs us Q I r h
  obtain ⟨p, ys, rfl, hq, q⟩ := h
  obtain ⟨u, rfl, rx⟩ := vals1 r
  cases rx
  have fin : ∀ (its : List Value), Vals ys its → ys.length ≤ sizeLine → ∀ (h' : Heap) (c' : Nat), (∀ b o', s.heap.get? b = some o' → h'.get? b = some o') →
      h'.get? s.heap.objs.size = some { cls := .type "list", dict := none, data := .seq its.toArray c', slots := #[] } → EP X pins σ Q (.ref s.heap.objs.size) { s with heap := h' } := fun its r' hz h' c' kp e =>
    ⟨.ref s.heap.objs.size, _, I.laid (t' := s.toks) kp (Nat.le_refl _) (show ObjOk X.prog X.w _ h' _ (.lst ys) from ⟨hz, its, c', r', e⟩), rfl, q _ (I.hok.fresh (Nat.le_refl _))⟩
  rcases hq with hq | hq
  · obtain ⟨its, r', pl, hz⟩ := I.list hq
    have hlen := r'.length
    obtain ⟨o, ho, hc, n, hd⟩ := pl.isList
    exact call_list_seq p (.inl rfl) ho hc hd (fun h' c' kp e => fin its r' hz h' c' kp e) (by simp only [List.size_toArray] <;> omega)
  · obtain ⟨its, r', pl, hz⟩ := I.tuple hq
    have hlen := r'.length
    obtain ⟨o, ho, hc, n, hd⟩ := pl
    exact call_list_seq p (.inr rfl) ho hc hd (fun h' c' kp e => fin its r' hz h' c' kp e) (by simp only [List.size_toArray] <;> omega)
/-! ### the call of a builtin's method: o.m(..) -/
/-- the value is of that builtin type -/
def tyV (K : PySem.W.Frag) (T : String) (x : V) (H : Hp) : Prop := match x with
  | .str _ => T = "str"
  | .int _ => T = "int"
  | .ref p => (T = "list" ∧ ∃ xs, SqL K H p xs) ∨ (T = "tuple" ∧ ∃ o, K.lookup p = some o ∧ o.cls = .type "tuple" ∧ o.dict = none) ∨
      (T = "dict" ∧ ((∃ kvs, H p = some (.dK kvs)) ∨ ∃ kvs, H p = some (.dT kvs))) ∨ (T = "set" ∧ ∃ S n, H p = some (.set S n))
  | _ => False
theorem tyV_is {pins : List (Addr × Obj)} {σ : St} {H : Hp} {s : Shared} {T : String} {x : V} {v : Value} (I : Inv X pins σ H s) (r : RelV x v) (ty : tyV X.K T x H) :
    s.TypeIs v T ∧ ∀ a, v = .ref a → ∃ ob, s.heap.get? a = some ob ∧ ob.dict = none := by
  cases x with
  | str z =>
    obtain ⟨t, rfl⟩ := r
    cases (show T = "str" from ty)
    exact ⟨typeIs_str s z t, fun _ e => nomatch e⟩
  | int i =>
    obtain ⟨t, rfl⟩ := r
    cases (show T = "int" from ty)
    exact ⟨typeIs_int s i t, fun _ e => nomatch e⟩
  | ref p =>
    cases r
    rcases ty with ⟨rfl, xs, hq⟩ | ⟨rfl, o, hk, hc, hd⟩ | ⟨rfl, hk⟩ | ⟨rfl, S, n, hk⟩
    · obtain ⟨its, _, pl, _⟩ := I.list hq
      refine ⟨pl.isList.typeIs, fun a e => ?_⟩
      cases e
      obtain ⟨o, n, e, c, hd, _⟩ := pl
      exact ⟨o, e, hd⟩
    · refine ⟨⟨o, I.kIn p o hk, hc⟩, fun a e => ?_⟩
      cases e
      exact ⟨o, I.kIn _ o hk, hd⟩
    · have z : ∃ o, s.heap.get? p = some o ∧ o.ExactDict := by
        rcases hk with ⟨kvs, hk⟩ | ⟨kvs, hk⟩
        · obtain ⟨_, _, _, _, o, _, _, e, ex, _⟩ := I.hok p _ hk
          exact ⟨o, e, ex⟩
        · obtain ⟨_, _, _, _, o, _, _, e, ex, _⟩ := I.hok p _ hk
          exact ⟨o, e, ex⟩
      obtain ⟨o, e, ex⟩ := z
      refine ⟨⟨o, e, ex.1⟩, fun a e2 => ?_⟩
      cases e2
      exact ⟨o, e, ex.2.1⟩
    · obtain ⟨o, _, _, _, e, ex, _⟩ := I.hok p _ hk
      refine ⟨⟨o, e, ex.1⟩, fun a e2 => ?_⟩
      cases e2
      exact ⟨o, e, ex.2.1⟩
  | _ => exact False.elim ty
def tBM (K : PySem.W.Frag) (T : String) (r : V → List V → Hp → VK → Prop) (to : TE) (t : TA) : TE := fun σ H Q => to σ H fun x H1 => tyV K T x H1 ∧ t σ H1 fun xs H2 => r x xs H2 Q
variable {o e : Expr} {es : List Expr} {to : TE} {t : TA} {name : Str} {apos cpos : Pos} {T id : String} {r : V → List V → Hp → VK → Prop}
theorem pe_bm (pa : PlainAttrs T) (slot : Slot T name id) (hty : typeOf (.builtin id) = pure (.type "method_descriptor")) (hm : MtR X id r) (ho : PE X o to) (ha : PA X (e :: es) t)
    (hbase : attributeBase o name X.env (eval o X.env) = eval o X.env := by rfl)
    (hfew : ((backTo cpos (starEach (e :: es) X.env)).all (fun x => !x.1) && (backToKw cpos (keywordEach [] X.env)).all (fun x => x.1.isSome)
      && decide ((e :: es).length + ([] : List Keyword).length + (if ([] : List Keyword).isEmpty then 0 else 1) < 30)) = true := by rfl)
    (hline : (apos.endLine == cpos.line) = true := by rfl) (hs : starEach (e :: es) X.env = (false, eval e X.env) :: starEach es X.env := by rfl) (hplain : (backTo cpos (starEach es X.env)).any (·.1) = false := by rfl) :
    PE X (.Call (.Attribute o name apos) (e :: es) [] cpos) (tBM X.K T r to t) := by
  intro pins s σ H Q I h
  refine wpAny_Call_method_late hbase hfew hline rfl (thn (ho pins s σ H _ I h) fun v s1 ⟨x, H1, I1, r1, ty, q1⟩ => ?_)
  obtain ⟨h1, h2⟩ := tyV_is I1 r1 ty
  refine ⟨T, id, pa, slot, hty, h1, h2, ?_⟩
  have hA := ha cpos pins s1 σ H1 _ I1 q1
  rw [hs] at hA ⊢
  refine Calls.callWith_builtin (by show (false || (backTo cpos (starEach es X.env)).any (·.1)) = false; rw [hplain] <;> rfl) (Calls.evalArgs_plain ?_)
  exact thn hA fun us s2 ⟨vs, H2, I2, r2, q2⟩ => hm pins s2 σ H2 x vs v us Q I2 r1 r2 q2
/- xs.append(e), list.index on a module's tuple .. are MtR facts of 06m -/
end
end L2

namespace L2
open PySem PySem.Spec PyProof.Rows

def MtM (X : Cx) (id : String) (r : V → List V → Hp → VK → Prop) : Prop :=
  ∀ (pins : List (Addr × Obj)) (s : Shared) (σ : St) (H : Hp) (x : V) (xs : List V) (v : Value) (us : List Value) (Q : VK), Inv X pins σ H s → RelV x v → Vals xs us → r x xs H Q →
    wpAny (model X.prog X.w) X.A (call (.builtin id) (v :: us)) (EP X pins σ Q) X.xe s

/-! ### lists of values -/
theorem Vals.one : ∀ {x : V} {us : List Value}, Vals [x] us → ∃ u, us = [u] ∧ RelV x u
  | _, _, .cons r .nil => ⟨_, rfl, r⟩
theorem Vals.two : ∀ {x y : V} {us : List Value}, Vals [x, y] us → ∃ u v, us = [u, v] ∧ RelV x u ∧ RelV y v
  | _, _, _, .cons r (.cons q .nil) => ⟨_, _, rfl, r, q⟩
theorem Vals.zero : ∀ {us : List Value}, Vals [] us → us = []
  | _, .nil => rfl
theorem Vals.dropLast {xs : List V} {us : List Value} (h : Vals xs us) : Vals xs.dropLast us.dropLast := by
  induction h with
  | nil => exact .nil
  | cons r t ih =>
    cases t with
    | nil => exact .nil
    | cons q t' => exact .cons r ih
theorem Vals.eraseIdx : ∀ {xs : List V} {us : List Value} (i : Nat), Vals xs us → Vals (xs.eraseIdx i) (us.eraseIdx i)
  | _, _, _, .nil => .nil
  | _, _, 0, .cons _ t => t
  | _, _, i + 1, .cons r t => .cons r (Vals.eraseIdx i t)
theorem Vals.reverse {xs : List V} {us : List Value} (h : Vals xs us) : Vals xs.reverse us.reverse := by
  induction h with
  | nil => exact .nil
  | cons r t ih => rw [List.reverse_cons, List.reverse_cons]; exact Vals.append ih (.cons r .nil)
theorem Vals.rep {xs : List V} {us : List Value} (h : Vals xs us) : ∀ k : Nat, Vals (List.replicate k xs).flatten (List.replicate k us).flatten
  | 0 => .nil
  | k + 1 => by
    rw [List.replicate_succ, List.replicate_succ, List.flatten_cons, List.flatten_cons]
    exact Vals.append h (Vals.rep h k)
theorem len_erase {α : Type} : ∀ (l : List α) (i : Nat), (l.eraseIdx i).length ≤ l.length
  | [], _ => Nat.le_refl _
  | _ :: _, 0 => Nat.le_succ _
  | _ :: r, i + 1 => Nat.succ_le_succ (len_erase r i)
theorem foldl_rep (its : List Value) : ∀ (k : Nat) (acc : List Value),
    List.foldl (fun x1 x2 => x1 ++ x2) acc.toArray (List.replicate k its.toArray) = (acc ++ (List.replicate k its).flatten).toArray
  | 0, acc => by simp
  | k + 1, acc => by
    have e : acc.toArray ++ its.toArray = (acc ++ its).toArray := by simp
    have e2 : (acc ++ its) ++ (List.replicate k its).flatten = acc ++ (List.replicate (k + 1) its).flatten := by
      rw [List.replicate_succ, List.flatten_cons, List.append_assoc]
    rw [← e2, ← foldl_rep its k (acc ++ its), ← e, List.replicate_succ, List.foldl_cons]

section
variable {X : Cx} {pins : List (Addr × Obj)} {σ : St} {H : Hp} {s : Shared} {l b : Addr} {xs ys zs : List V}

/-! ### the two steps: a tracked list is rewritten, a new list is laid -/
theorem Inv.lset {its its' : List Value} {n : Nat} {f : Array Value → Array Value} {t' : Nat} (I : Inv X pins σ H s) (hH : H l = some (.lst xs))
    (e : s.heap.get? l = some { cls := .type "list", data := .seq its.toArray n }) (hf : f its.toArray = its'.toArray) (hv : Vals ys its') (hz : ys.length ≤ sizeLine) (ht : 0 < t' := by first | assumption | exact Nat.succ_pos _ | (apply Inv.tk; assumption) | omega) :
    Inv X pins σ (upd H l (.lst ys)) { s with heap := s.heap.update l (Obj.mapSeq f), toks := t' } := by
  have q := PySem.IsL.update e f
  rw [hf] at q
  refine I.write (x := l) (e := l) (by rw [hH]; exact trivial) (.inl rfl) (fun b' u hb hu => (Heap.get?_update_other s.heap (Obj.mapSeq f) (Ne.symm hb)).trans hu) ⟨_, q⟩ ?_
  exact ⟨hz, its', _, hv, q⟩
theorem Inv.lnew {its : List Value} {t' : Nat} (I : Inv X pins σ H s) (hv : Vals ys its) (hz : ys.length ≤ sizeLine) (ht : 0 < t' := by first | assumption | exact Nat.succ_pos _ | (apply Inv.tk; assumption) | omega) :
    Inv X pins σ (upd H s.heap.objs.size (.lst ys)) { s with heap := s.heap.push { cls := .type "list", data := .seq its.toArray }, toks := t' } :=
  I.laid (fun _ _ q => Heap.get?_push_of_some _ q) (Nat.le_refl _) ⟨hz, its, 0, hv, Heap.get?_push_size _ rfl⟩
theorem Inv.fresh (I : Inv X pins σ H s) : H s.heap.objs.size = none := I.hok.fresh (Nat.le_refl _)
theorem Inv.lstM (I : Inv X pins σ H s) (hH : H l = some (.lst xs)) : xs.length ≤ sizeLine ∧ ∃ (its : List Value) (n : Nat), Vals xs its ∧ xs.length = its.length ∧ s.heap.get? l = some { cls := .type "list", data := .seq its.toArray n } := by
  obtain ⟨z, its, n, r, e⟩ := I.hok l _ hH
  exact ⟨z, its, n, r, r.length, e⟩

theorem notLongL {n : Nat} (h : n ≤ sizeLine) : Builtin.List.listTooLong n = false := by
  unfold Builtin.List.listTooLong
  exact decide_eq_false (by omega)
end

section
variable {X : Cx}

/-! ### methods -/
def rAppend : V → List V → Hp → VK → Prop := fun x vs H Q => ∃ l xs y, x = .ref l ∧ vs = [y] ∧ H l = some (.lst xs) ∧ xs.length < sizeLine ∧ Q .non (upd H l (.lst (xs ++ [y])))
theorem mt_append : MtM X "list.append" rAppend := by
  intro pins s σ H x vs v us Q I rx rv h
  obtain ⟨l, xs, y, rfl, rfl, hH, hz, q⟩ := h
  cases rx
  obtain ⟨u, rfl, ru⟩ := rv.one
  obtain ⟨z, its, n, r, hl, e⟩ := I.lstM hH
  refine call_meets F.slot_list_append ⟨_, e, rfl⟩ F.entry_list_append (F.args_list_append_2 _ _) (PySem.list_append l its.toArray n u (by rw [List.size_toArray]; omega)) ⟨e, ?_⟩
  refine ⟨.non, _, I.lset (its' := its ++ [u]) hH e (by simp) (r.append (.cons ru .nil)) ?_, rfl, q⟩
  rw [List.length_append, List.length_singleton]
  omega

def rPopAt : V → List V → Hp → VK → Prop := fun x vs H Q => ∃ l xs i k y, x = .ref l ∧ vs = [.int i] ∧ H l = some (.lst xs) ∧ -(2 ^ 63) ≤ i ∧ i < 2 ^ 63 ∧ seqIndex? i xs.length = some k ∧ xs[k]? = some y ∧ Q y (upd H l (.lst (xs.eraseIdx k)))
theorem mt_popAt : MtM X "list.pop" rPopAt := by
  intro pins s σ H x vs v us Q I rx rv h
  obtain ⟨l, xs, i, k, y, rfl, rfl, hH, h1, h2, hk, hy, q⟩ := h
  cases rx
  obtain ⟨u, rfl, ru⟩ := rv.one
  obtain ⟨t, rfl⟩ := ru
  obtain ⟨z, its, n, r, hl, e⟩ := I.lstM hH
  obtain ⟨w, hw, rw'⟩ := r.get hy
  refine call_meets F.slot_list_pop ⟨_, e, rfl⟩ F.entry_list_pop (F.args_list_pop_2 _ _)
    (MeetsSeq.list_pop_at l its.toArray n i t k w (fitsIndex_both h1 h2) (by rw [List.size_toArray, ← hl]; exact hk) (by rw [← Array.getElem?_toList]; exact hw) (by rw [List.size_toArray]; omega)) ⟨e, ?_⟩
  refine ⟨y, _, I.lset (its' := its.eraseIdx k) hH e ?_ (r.eraseIdx k) ?_, rw', q⟩
  · show its.toArray.eraseIdxIfInBounds k = (its.eraseIdx k).toArray
    rw [List.eraseIdxIfInBounds_toArray]
  · have := len_erase xs k
    omega

/-! ### list + list, list += list, list * int -/
def rCat : R2 := fun x y H Q => ∃ l b xs zs, x = .ref l ∧ y = .ref b ∧ H l = some (.lst xs) ∧ H b = some (.lst zs) ∧ xs.length + zs.length ≤ sizeLine ∧ ∀ p, H p = none → Q (.ref p) (upd H p (.lst (xs ++ zs)))
theorem op_cat : OpR X (binaryOp .Add) rCat := by
  intro pins s σ H x y v u Q I rx ry h
  obtain ⟨l, b, xs, zs, rfl, rfl, hH, hB, hz, q⟩ := h
  cases rx
  cases ry
  obtain ⟨z, its, n, r, hl, e⟩ := I.lstM hH
  obtain ⟨z2, its2, n2, r2, hl2, e2⟩ := I.lstM hB
  refine PySem.P.add_list e e2 ?_ (by rw [List.size_toArray, List.size_toArray]; omega)
  have ea : its.toArray ++ its2.toArray = (its ++ its2).toArray := by simp
  rw [ea]
  exact ⟨.ref _, _, I.lnew (t' := s.toks) (r.append r2) (by rw [List.length_append]; omega), rfl, q _ I.fresh⟩
/-- a list times an int (a negative one is nothing) -/
def rRep : R2 := fun x y H Q => ∃ l k xs, x = .ref l ∧ y = .int k ∧ H l = some (.lst xs) ∧ -(2 ^ 63) ≤ k ∧ k < 2 ^ 63 ∧ xs.length * k.toNat ≤ sizeLine ∧
  ∀ p, H p = none → Q (.ref p) (upd H p (.lst (List.replicate k.toNat xs).flatten))
theorem len_rep {α : Type} (xs : List α) (k : Nat) : (List.replicate k xs).flatten.length = k * xs.length := by
  induction k with
  | zero => simp
  | succ k ih => rw [List.replicate_succ, List.flatten_cons, List.length_append, ih, Nat.succ_mul, Nat.add_comm]
theorem op_rep : OpR X (binaryOp .Mult) rRep := by
  intro pins s σ H x y v u Q I rx ry h
  obtain ⟨l, k, xs, rfl, rfl, hH, h1, h2, hz, q⟩ := h
  cases rx
  obtain ⟨t, rfl⟩ := ry
  obtain ⟨z, its, n, r, hl, e⟩ := I.lstM hH
  have hlen : its.toArray.size * k.toNat ≤ sizeLine := by rw [List.size_toArray, ← hl]; exact hz
  have hcap : ¬ its.toArray.size * k.toNat > (2 ^ 63 - 1) / 8 := by
    have : (sizeLine : Nat) ≤ (2 ^ 63 - 1) / 8 := by decide
    omega
  have hfit : ¬ (!Builtin.List.listFitsIndex k) = true := by
    rw [fitsIndex_both h1 h2]
    exact Bool.false_ne_true
  have hlong : ¬ Builtin.List.listTooLong (its.toArray.size * k.toNat) = true := by
    rw [notLongL hlen]
    exact Bool.false_ne_true
  have hnew : List.foldl (fun x1 x2 => x1 ++ x2) #[] (List.replicate (if its.toArray.isEmpty = true then 0 else k.toNat) its.toArray) = (List.replicate k.toNat its).flatten.toArray := by
    have f0 : ∀ m : Nat, List.foldl (fun x1 x2 => x1 ++ x2) #[] (List.replicate m its.toArray) = (List.replicate m its).flatten.toArray := fun m => by
      have := foldl_rep its m []
      rw [List.nil_append] at this
      exact this
    rw [f0]
    cases its with
    | nil => simp
    | cons a r' => rw [if_neg (by simp)]
  refine wpAny_binaryOp_repeat_ref (T := "list") (U := "int") (by decide) ⟨_, e, rfl⟩ (fun s' => typeIs_int s' k t) noFill_list_mul F.fills_int_mul F.slot_int_rmul repeat_list F.slot_int_index.lookup
    (call_meets F.slot_int_rmul (typeIs_int s k t) F.entry_int_rmul (F.args_int_rmul_2 _ _) (int___rmul___int_list k t l its.toArray n)
      ⟨e, rfl, ⟨_, e, rfl⟩, call_meets F.slot_list_mul ⟨_, e, rfl⟩ F.entry_list_mul (F.args_list_mul_2 _ _) (AutoListH.list___mul___list_int_3 l its.toArray n k t hfit hcap hlong) ⟨e, ?_⟩⟩)
  rw [hnew]
  exact ⟨.ref _, _, I.lnew (t' := s.toks) (r.rep k.toNat) (by rw [len_rep, Nat.mul_comm]; exact hz), rfl, q _ I.fresh⟩

/-! ### del xs[i] -/
end

/-! ### xs[a:b] = ys -/
section
variable {prog : Program} {w : World} {A : Around} {E : Value → Shared → Prop} {s : Shared}
end

section
variable {X : Cx}
end
end L2

namespace Att
open PySem PySem.W PySem.Calls PyProof.Rows

/-! ### the script -/
theorem ints_of_wellAll {P : Params} {h : Heap} : ∀ (ns : List Int) (vs : List Value), WellAll P h vs (ns.map WData.int) → IntsAre vs ns := by
  intro ns
  induction ns with
  | nil =>
    intro vs w
    rw [List.map_nil] at w
    cases w
    exact .nil
  | cons n ns ih =>
    intro vs w
    rw [List.map_cons] at w
    cases w with
    | cons a b =>
      cases a
      exact .cons _ _ (ih _ b)

theorem script_of {l : OpenLaw} {n : Nat} (hn : l.most = some n) {P : Params} {h : Heap} {args : List WData} {vals : List Value}
    (hpre : l.row.toRowW.claim.pre args = true) (hwl : WellAll P h vals args) :
    ∃ a vs ns, vals = [Value.ref a] ∧ args = [WData.list (ns.map WData.int)] ∧ h.get? a = some { cls := .type "list", data := .seq vs.toArray } ∧ IntsAre vs ns ∧ ns.length ≤ n := by
  have hsh : WShape.hasAll [] args [.list .int] = true := (pre_splitW hpre).1
  have hc : l.pre.holds [] { args := args } = true := (pre_splitW hpre).2
  obtain ⟨d, r, rfl, h1, h2⟩ := hasAllW_cons hsh
  obtain rfl := hasAllW_nil h2
  obtain ⟨xs, rfl, h3⟩ := hasW_list h1
  obtain ⟨ns, rfl⟩ := items_int h3
  have hlen : ns.length ≤ n := by
    unfold OpenLaw.pre at hc
    have h4 : (WTm.not (.lt (.lit (.int (n : Int))) (.len (.arg 0)))).holds [] { args := [.list (ns.map .int)] } = true := by
      have h4 := (holds_andW hc).1
      rw [hn] at h4
      exact h4
    have h5 := condW_of h4 (w_not (w_lt w_lit (w_len_list (w_arg rfl))))
    rw [List.length_map] at h5
    refine Nat.le_of_not_lt fun q => ?_
    have q' : (n : Int) < ((ns.length : Nat) : Int) := by omega
    first
      | (rw [decide_eq_true q'] at h5; exact absurd h5 (by decide))
      | (simp at h5; omega)
  cases hwl with
  | cons w1 w2 =>
    cases w2
    cases w1 with
    | list ho hall => exact ⟨_, _, ns, rfl, rfl, ho, ints_of_wellAll ns _ hall, hlen⟩

theorem post_true (l : OpenLaw) (args : List WData) : l.row.toRowW.claim.post args (.bool true) args = true :=
  postW_of (r := l.row.toRowW) (X := (true == true))
    (show WShape.has [] (.bool true) .bool = true by first | rfl | decide | simp [WShape.has, WShape.arms, WShape.armsAll])
    (show (WTm.eq .res (.lit (.bool true))).value [] { args := args, res := some (.bool true), after := args } = some (.bool (true == true)) from w_eq_bool (w_res rfl) w_lit) rfl

/-! ### the attachment: holds_open's last premise (the goal 'hc' behind k_head) from a wpAny of the law's body -/
/-! ### rules over ANY heap (no ledger) from facts about the written part K: the library's own take a ledger (News) for what they write -/
section
variable {prog : Program} {w : World} {A : Around} {E : Value → Shared → Prop} {s : Shared} {K : Frag}

/-! the whole heap as the ledger: makes every rule that writes through a ledger a rule over any heap -/
def ledger (h : Heap) (L d : Addr) : List (Addr × Obj) := (List.range h.objs.size).filterMap fun a => if a = L ∨ a = d then none else (h.get? a).map fun o => (a, o)
end
end Att

namespace L2
open PySem PySem.Spec PyProof.Rows

theorem vals_ints : ∀ {vs : List Value} {ns : List Int}, IntsAre vs ns → Vals (ns.map V.int) vs
  | _, _, .nil => .nil
  | _, _, .cons n t h => .cons ⟨t, rfl⟩ (vals_ints h)

end L2

namespace L2
open PySem PySem.Spec PyProof.Rows

abbrev KOf {K : PySem.W.Frag} {h : Heap} (_ : K.In h) : PySem.W.Frag := K

theorem attach_callX {l : PySem.W.OpenLaw} {n : Nat} {q : Program} {loose : List Str} {XP : (Str → Option Value) → Heap → Prop} {α : Type} {Yf : Shared → α} {Ya : World → α} {d : DefRec}
    (hn : l.most = some n) (hdf : d.params.defaults = [])
    (call : ∀ (w : World) (s₀ s₁ : Shared) (mg mb : Str → Option Value) (fa a : Addr) (vs : List Value) (ns : List Int),
      PySem.W.Ground q loose [] XP w s₀ mg mb s₁.heap → Yf s₀ = Ya w → (∀ b o, s₀.heap.get? b = some o → s₁.heap.get? b = some o) → s₀.toks ≤ s₁.toks → mg d.name = some (.ref fa) →
      s₁.heap.get? a = some { cls := .type "list", data := .seq vs.toArray } → IntsAre vs ns → ns.length ≤ n → s₁.gens = #[] →
      codeAny (model l.prog w) callerA (.call (.ref fa) ⟨[.ref a], []⟩) (fun r s' => r = .ok (.ret (.bool true)) ∧ OldK s₁.heap s'.heap ∧ s'.os = s₁.os ∧ AllBare s'.gens) s₁) :
    PySem.W.WalkX q loose XP Yf Ya l.row.toRowW d [] (fun f vs => PySem.call f vs) := by
  intro w s₀ s₁ mg mb G Y fa o pm cd doc dV kV ho hd hcd hD hmg hg args vals as L hpre hlay hrd hwl hlo
  obtain ⟨a, vs, ns, rfl, rfl, hobj, hints, hlen⟩ := Att.script_of hn hpre hwl
  have ht : s₀.toks ≤ s₁.toks := by
    obtain ⟨ord, _, e⟩ := L.laid
    exact (PySem.W.layAllW_grows _ _ _ e).toks
  refine PySem.W.enter_call (codeAny_mono (call w s₀ s₁ mg mb fa a vs ns G Y L.keeps ht hmg hobj hints hlen hg) fun r s' hq => ?_)
  obtain ⟨rfl, h2, h3, h4⟩ := hq
  exact ⟨.inl ⟨.bool true, .bool true, [], rfl, fun _ => rfl, .bool true, Att.post_true l _, fun _ => ⟨List.Pairwise.nil, fun _ hm => (nomatch hm)⟩⟩, h2, h3, h4⟩
end L2

/- THE LAST THEOREM (shape; LID, My.* are yours):
   My.Adr: a structure of the addresses that your layer names (classes, functions); My.Txt K t: a structure (Prop) of the equations over K;
   My.txt_mk : {K} {implicit addresses ..} (e1 : nsIn K mainGlobals "law" = some (some (.ref f))) (e2 : K.lookup f = some ⟨oc, od, .func (fnOf "law" "law" params body scope dV kV doc pm an cdv ct), sl⟩) (e3 : codeIn K cdv "law" = true) .. : ∃ t, My.Txt K t

set_option maxRecDepth 100000 in
set_option maxHeartbeats 0 in
theorem PySem.Challenge.cw_LID_holds : PySem.Challenge.rw_LID.Holds := by
  w_on; o_law; k_head; (case hw => w_witness2)
  k_fill
  refine L2.walk_of (l := PySem.Challenge.rw_LID) (n := 63) (k := 40) (x := "script") (CX := fun w => ..) (sp := fun _ => My.sp_law) rfl (by decide) rfl ⟨rfl, by decide, by decide⟩ (fun w h Y => PySem.W.kIn_of Y) ?F ?S ?C
  case F =>
    intro w mg fa h KX G hmg
    have T : ∃ t, My.Txt (L2.KOf KX) t := by
      dsimp only [L2.KOf]                          -- K must stand as «<heap const> w.params» for k_is
      refine' My.txt_mk ?e1 ?e2 ?e3 ..
      (case e1 => PySem.W.k_is)                    -- in the order: a name -> its address -> its object -> its parts
      (case e2 => PySem.W.k_is)
      ..
    obtain ⟨t, T⟩ := T
    have e0 := hmg.symm.trans (PySem.W.mg_of KX G T.law)
    cases e0                                       -- fa is the law's own address
    exact ⟨_, fun s u => .of_eq rfl, fun base kb nb => My.law_fn T kb nb⟩     -- if «.of_eq rfl» comes too early: refine' ⟨_, ?b, fun base kb nb => My.law_fn T kb nb⟩; exact fun s u => .of_eq rfl
  case S => exact fun w H a ns hl hO hS => ..
  case C => exact ..
(the tactic k_is has no namespace: write k_is) -/

/-! SHORT WORDS over the layer: a def of the text, its body, what a loop and a test want. -/
namespace L2
open PySem PySem.Spec PyProof.Rows

/-! ### the text by places -/
def defArgs (s : Stmt) : Arguments := match s with
  | .FunctionDef _ a _ _ _ _ _ _ _ _ => a
  | _ => { posonlyargs := [], args := [], vararg := none, kwonlyargs := [], kw_defaults := [], kwarg := none, defaults := [] }
def defBody (s : Stmt) : List Stmt := match s with
  | .FunctionDef _ _ b _ _ _ _ _ _ _ => b
  | _ => []
def defScope (s : Stmt) : Scope := match s with
  | .FunctionDef _ _ _ _ _ _ sc _ _ _ => sc
  | _ => { kind := .function, names := [], isGenerator := false, isCoroutine := false }

/-! ### no exception leaves a def -/
abbrev CX0 : CXT := fun _ _ _ _ _ _ => False
abbrev E0 : XK := fun _ _ _ => False
theorem pass0 {X : Cx} : Passes CX0 X E0 := fun _ _ _ _ _ _ _ h => h.elim

/-! ### a def (or method) of the text as it stands behind the top -/
structure Fun (K : PySem.W.Frag) (x qual : Str) (st : Stmt) (f : Addr) (fd : FuncData) : Prop where
  ex : ∃ (oc : Value) (od : Option Addr) (kV doc pm : Value) (an : Option Addr) (cdv ct : Value) (osl : Array (Option Value)),
    fd = PySem.W.fnOf x qual (defArgs st) (defBody st) (defScope st) .none kV doc pm an cdv ct ∧ K.lookup f = some ⟨oc, od, .func fd, osl⟩ ∧ PySem.W.codeIn K cdv qual = true
  kp : PySem.W.keepIn K (.ref f) = true
section
variable {P : Program} {w : World} {K : PySem.W.Frag} {mg : Str → Option Value} {base : Heap}
/-- THE RULE for a def: its body as a term of rules, and the reading of that term -/
theorem Fun.ok {x qual : Str} {st : Stmt} {f : Addr} {fd : FuncData} {N ps : List Str} {k : Nat} {sp : Sp} (F : Fun K x qual st f fd) (S : FnScope N ps (defScope st)) (len : ∀ vs H Q E, sp vs H Q E → vs.length = ps.length)
    (hbody : ∀ (cdv : Value) (A : Around) (outer : List Env) (s : Shared) (H : Hp) (vs : List V) (Q : VK) (E : XK), Room k (A.deeper (envOfC qual (defScope st) s.heap.objs.size f cdv)) → sp vs H Q E →
      ∃ t, PSs (cxOf CX0 P w K mg base N qual (defScope st) f cdv A outer s H E).nox (defBody st) t ∧ t { nx := fun _ H' => Q .non H', rt := Q } (start N vs) H) : FnOk P w K mg base CX0 (k + 1) f fd ps sp := by
  obtain ⟨oc, od, kV, doc, pm, an, cdv, ct, osl, rfl, lk, hcd⟩ := F.ex
  refine fn_of lk hcd S len fun A outer s H vs Q E hr hsp => ?_
  obtain ⟨t, h, q⟩ := hbody cdv A outer s H vs Q E hr hsp
  exact ⟨t, h.nox, q⟩
/-- how its arguments bind (no defaults): h is «fun _ _ _ _ _ _ us hl => match us, hl with | [_, _], _ => rfl», one _ a parameter -/
theorem Fun.binds {x qual : Str} {st : Stmt} {f : Addr} {fd : FuncData} {ps : List Str} (F : Fun K x qual st f fd)
    (h : ∀ (kV doc pm : Value) (an : Option Addr) (cdv ct : Value) (us : List Value), us.length = ps.length → bindArgs (PySem.W.fnOf x qual (defArgs st) (defBody st) (defScope st) .none kV doc pm an cdv ct) ⟨us, []⟩ = pure (ps.zip us)) : Binds K fd ps [] := by
  obtain ⟨oc, od, kV, doc, pm, an, cdv, ct, osl, rfl, lk, hcd⟩ := F.ex
  exact .all (h kV doc pm an cdv ct)
theorem fun_mk {x qual : Str} {st : Stmt} {f : Addr} {oc : Value} {od an : Option Addr} {osl : Array (Option Value)} {kV doc pm cdv ct : Value} (l : K.lookup f = some ⟨oc, od, .func (PySem.W.fnOf x qual (defArgs st) (defBody st) (defScope st) .none kV doc pm an cdv ct), osl⟩)
    (c : PySem.W.codeIn K cdv qual = true) (k : PySem.W.keepIn K (.ref f) = true) : Fun K x qual st f (PySem.W.fnOf x qual (defArgs st) (defBody st) (defScope st) .none kV doc pm an cdv ct) := ⟨⟨oc, od, kV, doc, pm, an, cdv, ct, osl, rfl, l, c⟩, k⟩
end
theorem hu_of {A : Around} {k : Nat} (hr : Room k A) : A.units + 1 < cLine := Nat.lt_of_le_of_lt (Nat.add_le_add_left (by decide : 1 ≤ 64) _) hr.units
theorem small1000 {n : Nat} (h : n ≤ 1000) : n < sizeLine := Nat.lt_of_le_of_lt h (by decide)

/-! ### expressions in short: the name that stands in the i-th slot -/
section
variable {X : Cx}
end

/-! ### tests -/
theorem ite2 {c A B : Prop} [Decidable c] (h1 : c → A) (h2 : ¬ c → B) : if c then A else B := by
  by_cases h : c
  · rw [if_pos h]
    exact h1 h
  · rw [if_neg h]
    exact h2 h
/-! ### heaps -/
/-- all that was tracked is as it was -/
def Same (H H' : Hp) : Prop := ∀ b o, H b = some o → H' b = some o
theorem Same.refl (H : Hp) : Same H H := fun _ _ h => h
theorem Same.trans {H H1 H2 : Hp} (a : Same H H1) (b : Same H1 H2) : Same H H2 := fun c o h => b c o (a c o h)
theorem Same.free {H H' : Hp} (e : Same H H') {l : Addr} (h : H' l = Option.none) : H l = Option.none := by
  cases q : H l with
  | none => rfl
  | some o =>
    rw [e l o q] at h
    cases h
theorem Same.seq {K : PySem.W.Frag} {H H' : Hp} {a : Addr} {xs : List V} (e : Same H H') (h : SqL K H a xs) : SqL K H' a xs := by
  rcases h with (h | ⟨o, h⟩) | h
  · exact .inl (.inl (e _ _ h))
  · exact .inl (.inr ⟨o, e _ _ h⟩)
  · exact .inr h

end L2


/-! Further rules over the layer: texts walked, zip, enumerate, list comprehensions, methods of texts. -/
namespace L2
open PySem PySem.Spec PyProof.Rows
section
variable {X : Cx} {pins : List (Addr × Obj)} {σ : St} {H H' : Hp} {s : Shared} {h' : Heap}
/-- several untracked records of ours have turned -/
theorem Inv.turnedL {t' : Nat} {its : List Addr} (I : Inv X pins σ H s) (k : ∀ b o, b ∉ its → s.heap.get? b = some o → h'.get? b = some o) (hf : ∀ b ∈ its, FpOk X pins H b) (ht : 0 < t' := by first | assumption | exact Nat.succ_pos _ | (apply Inv.tk; assumption) | omega) : Inv X pins σ H { s with heap := h', toks := t' } := by
  have nit : ∀ b u, H b = some u → b ∉ its := fun b u e z => by
    have q := (hf b z).1
    rw [q] at e
    cases e
  refine I.step (g' := s.gens) (d' := s.drawn) (ch := its) (fun b hb => ?_) (fun b o _ _ hc e _ => k b o hc e) (fun b o _ _ hc e _ => ⟨o.slots, k b o hc e⟩) (fun _ _ _ _ n => n)
    (fun b o hc e => ⟨o, k b o hc e⟩) (fun _ _ e => e) (fun _ _ _ e => e) (fun b ps e => ⟨#[], by rw [e]; simp⟩) (fun m hm => ?_) (fun b u e => ?_) I.bare
  · obtain ⟨f0, f1, f2, f3, f4, f5⟩ := hf b hb
    exact ⟨f3, f1, f4, f5⟩
  · obtain ⟨o, es, ep, ho, r⟩ := hm
    exact ⟨o, es, ep, k _ o (fun z => (hf _ z).2.1 rfl) ho, r⟩
  · refine (I.hok b u e).stay (fun c v hc q => k c v ?_ q) (fun _ q => q) fun _ _ q => q
    rcases hc with z | z
    · rw [z]; exact nit b u e
    · exact nit c _ z
end

/-! ### a text's signs -/
theorem strIter_no (x : Str) : ["enumerate", "zip", "dict_itemiterator", "dict_reverseitemiterator", "odict_iterator", "itertools.zip_longest", "itertools.pairwise"].contains (strIterType x) = false := by
  unfold strIterType
  split <;> decide
section
variable {prog : Program} {w : World} {A : Around} {E : Value → Shared → Prop} {s : Shared}
theorem strIterType_cases (x : Str) : strIterType x = "str_ascii_iterator" ∨ strIterType x = "str_iterator" := by
  unfold strIterType
  split
  · exact .inl rfl
  · exact .inr rfl
theorem next_str_item {it : Addr} {x : Str} {t : Tok} {i c : Nat} {Q : Option Value → Shared → Prop} (hit : s.heap.IsStrIter it (strIterType x) x t i) (hx : x.cps[i]? = some c)
    (hQ : ∀ h', h'.IsStrIter it (strIterType x) x t (i + 1) → Heap.SameBut it s.heap h' → Q (some (.str ⟨#[c]⟩ s.toks)) { s with heap := h', toks := s.toks + 1 }) :
    wpAny (model prog w) A (pyNext (.ref it)) Q E s := by
  rcases strIterType_cases x with e | e
  · rw [e] at hit
    simp only [e] at hQ
    exact wpAny_pyNext_ascii_item hit hx hQ
  · rw [e] at hit
    simp only [e] at hQ
    exact wpAny_pyNext_wide_item hit hx hQ
theorem next_str_end {it : Addr} {x : Str} {t : Tok} {i : Nat} {Q : Option Value → Shared → Prop} (hh : A.handled = none) (hit : s.heap.IsStrIter it (strIterType x) x t i) (hx : x.cps[i]? = none)
    (hQ : ∀ h', Heap.ExtBut it s.heap h' → Q none { s with heap := h' }) : wpAny (model prog w) A (pyNext (.ref it)) Q E s := by
  rcases strIterType_cases x with e | e
  · rw [e] at hit
    exact wpAny_pyNext_ascii_end hh hit hx hQ
  · rw [e] at hit
    exact wpAny_pyNext_wide_end hh hit hx hQ
theorem iter_str_self {it : Addr} {x : Str} {t : Tok} {i : Nat} {Q : Value → Shared → Prop} (hit : s.heap.IsStrIter it (strIterType x) x t i) (h : Q (.ref it) s) : wpAny (model prog w) A (pyIter (.ref it)) Q E s := by
  rcases strIterType_cases x with e | e
  · rw [e] at hit
    exact wpAny_pyIter_striter_ascii hit h
  · rw [e] at hit
    exact wpAny_pyIter_striter_wide hit h
theorem nextOf_str_item {it : Addr} {x : Str} {t : Tok} {i c : Nat} {Q : Value → Shared → Prop} (hit : s.heap.IsStrIter it (strIterType x) x t i) (hx : x.cps[i]? = some c)
    (hQ : ∀ h', h'.IsStrIter it (strIterType x) x t (i + 1) → Heap.SameBut it s.heap h' → Q (.str ⟨#[c]⟩ s.toks) { s with heap := h', toks := s.toks + 1 }) :
    wpAny (model prog w) A (Builtin.SmallTypes.nextOf (.ref it)) Q E s := by
  rcases strIterType_cases x with e | e
  · rw [e] at hit
    simp only [e] at hQ
    exact wpAny_nextOf_ascii_item hit hx hQ
  · rw [e] at hit
    simp only [e] at hQ
    exact wpAny_nextOf_wide_item hit hx hQ
theorem nextOf_str_end {it : Addr} {x : Str} {t : Tok} {i : Nat} {Q : Value → Shared → Prop} (hh : A.handled = none) (hit : s.heap.IsStrIter it (strIterType x) x t i) (hx : x.cps[i]? = none)
    (hE : ∀ h' e, Heap.ExtBut it s.heap h' → (∃ o, h'.get? e = some o ∧ o.cls = .type "StopIteration") → E (.ref e) { s with heap := h' }) : wpAny (model prog w) A (Builtin.SmallTypes.nextOf (.ref it)) Q E s := by
  rcases strIterType_cases x with e | e
  · rw [e] at hit
    exact wpAny_nextOf_ascii_end hh hit hx hE
  · rw [e] at hit
    exact wpAny_nextOf_wide_end hh hit hx hE
end
def Its (x : Str) : It := ⟨fun i _ => i < x.cps.size, fun i H v H' => H' = H ∧ ∃ c, x.cps[i]? = some c ∧ v = .str ⟨#[c]⟩, fun i _ => x.cps.size ≤ i⟩
theorem strIter_obj {h : Heap} {it : Addr} {ty : String} {x : Str} {t : Tok} {i : Nat} (st : h.IsStrIter it ty x t i) : ∃ o, h.get? it = some o ∧ ∀ v, o.data ≠ .cell v := by
  obtain ⟨o, e, c, d⟩ := st
  exact ⟨o, e, fun v z => by rw [d] at z; cases z⟩
theorem turn_str {P : Program} {w : World} {K : PySem.W.Frag} {tg : Expr} (x : Str) (t : Tok) (it : Addr) : Turn P w K tg (Its x) [it] it (fun i h => h.IsStrIter it (strIterType x) x t i) where
  mem := by simp
  obj := fun i h st b hb => by
    have e : b = it := by simpa using hb
    subst e
    exact strIter_obj st
  keep := fun i h h' st k => by
    obtain ⟨o, e, r⟩ := st
    exact ⟨o, k it (by simp) o e, r⟩
  item := by
    intro X hP hw hK hc i pins s σ H E I hf st hg
    subst hP hw hK
    have hi : i < x.cps.size := hg
    refine next_str_item st (c := x.cps[i]) (by simp [hi]) fun h' st' sb => ?_
    have I1 : Inv X pins σ H { s with heap := h', toks := s.toks + 1 } := I.turnedL (its := [it]) (fun b o hb e => (sb.2 b (by simpa using hb)).trans e) hf
    obtain ⟨o, e, c, d⟩ := id st'
    exact ⟨_, rfl, go_of (s := { s with heap := h', toks := s.toks + 1 }) e c d (strIter_no x) ⟨.str ⟨#[x.cps[i]]⟩, H, I1, ⟨_, rfl⟩, ⟨rfl, _, by simp [hi], rfl⟩, st', fun b hb => (hf b hb).1⟩⟩
  done := by
    intro X hP hw hK hc i pins s σ H E I hf st hg
    subst hP hw hK
    have hi : x.cps.size ≤ i := hg
    exact next_str_end (I.ok.hd hc) st (by simp [hi]) fun h' eb => ⟨rfl, I.turnedL (t' := s.toks) (its := [it]) (fun b o hb e => eb b o (by simpa using hb) e) hf⟩
  self := fun _ _ _ _ _ st h => iter_str_self st h
section
variable {X : Cx} {tg e : Expr} {te : TE}
end
/-- a loop by its number of turns -/
theorem for_it {J : It} {n : Nat} {g : TG} {tb : TS} {D : Ends} {σ : St} {H : Hp} (Pv : Nat → St → Hp → Prop) (h0 : Pv 0 σ H) (hgo : ∀ i σ H, i < n → Pv i σ H → J.go i H) (hst : ∀ σ H, Pv n σ H → J.stop n H)
    (hs : ∀ i σ H x H', i < n → Pv i σ H → J.yld i H x H' → g x σ H' fun σ2 H2 => tb { D with nx := Pv (i + 1), ct := Pv (i + 1), bk := D.nx } σ2 H2) (hd : ∀ σ H, Pv n σ H → D.nx σ H) :
    ∃ W : Nat → Nat → St → Hp → Prop, (∃ m, W 0 m σ H) ∧ ∀ i m σ H, W i m σ H →
      (J.stop i H ∧ D.nx σ H) ∨ (J.go i H ∧ ∃ N : St → Hp → Prop, (∀ σ' H', N σ' H' → ∃ m', m' < m ∧ W (i + 1) m' σ' H') ∧ ∀ x H', J.yld i H x H' → g x σ H' fun σ2 H2 => tb { D with nx := N, ct := N, bk := D.nx } σ2 H2) := by
  refine ⟨fun i m σ H => m = n - i ∧ i ≤ n ∧ Pv i σ H, ⟨n, by simp, Nat.zero_le _, h0⟩, ?_⟩
  rintro i m σ H ⟨rfl, hi, p⟩
  by_cases hlt : i < n
  · exact .inr ⟨hgo i σ H hlt p, Pv (i + 1), fun σ' H' p' => ⟨n - (i + 1), by omega, rfl, hlt, p'⟩, fun x H' y => hs i σ H x H' hlt p y⟩
  · have e : i = n := by omega
    subst e
    exact .inl ⟨hst σ H p, hd σ H p⟩

/-! ### zip -/
structure Nx (prog : Program) (w : World) (A : Around) (it : Addr) (f : List Addr) (Sa Sb : Heap → Prop) (P : Value → Prop) : Prop where
  fra : ∀ h h', Sa h → (∀ b ∈ f, ∀ o, h.get? b = some o → h'.get? b = some o) → Sa h'
  frb : ∀ h h', Sb h → (∀ b ∈ f, ∀ o, h.get? b = some o → h'.get? b = some o) → Sb h'
  step : ∀ (s : Shared) (Q : Value → Shared → Prop) (E : Value → Shared → Prop), Sa s.heap → (∀ x h' tk, P x → Sb h' → Heap.SameBut it s.heap h' → Q x { s with heap := h', toks := tk }) → wpAny (model prog w) A (Builtin.SmallTypes.nextOf (.ref it)) Q E s
structure Nd (prog : Program) (w : World) (A : Around) (it : Addr) (f : List Addr) (Sa : Heap → Prop) : Prop where
  fra : ∀ h h', Sa h → (∀ b ∈ f, ∀ o, h.get? b = some o → h'.get? b = some o) → Sa h'
  step : ∀ (s : Shared) (Q : Value → Shared → Prop) (E : Value → Shared → Prop), Sa s.heap → (∀ h' e, Heap.ExtBut it s.heap h' → (∃ o, h'.get? e = some o ∧ o.cls = .type "StopIteration") → E (.ref e) { s with heap := h' }) → wpAny (model prog w) A (Builtin.SmallTypes.nextOf (.ref it)) Q E s
structure ZAp (z TI TO i1 i2 : Addr) : Prop where
  TIz : TI ≠ z
  TOz : TO ≠ z
  i1z : i1 ≠ z
  i2z : i2 ≠ z
  TITO : TI ≠ TO
  TIi1 : TI ≠ i1
  TIi2 : TI ≠ i2
  TOi1 : TO ≠ i1
  TOi2 : TO ≠ i2
  i12 : i1 ≠ i2
section
variable {prog : Program} {w : World} {A : Around} {E : Value → Shared → Prop} {s : Shared}
-- the way to the first draw: the fields are read, the kept pair is marked as in use
set_option hygiene false
local macro_rules | `(tactic| walk_at "zip_in") => `(tactic| (
  refine wpAny_bind (m := slotArgs "__next__" 0 _) (wpAny_of_eq (a := (Value.ref _, [])) rfl ?_);
  refine wpAny_bind (m := field _ 2) (wpAny_field hz rfl (x := Value.bool false) rfl (wpAny_bind (m := field _ 3) (wpAny_field hz rfl (x := Value.ref TI) rfl (wpAny_bind (m := seqItems? _) (wpAny_seqItems hTI rfl ?_)))));
  refine wpAny_bind (m := Builtin.SmallTypes.ownedTupleIsFree _) (wpAny_bind (wpAny_field hz rfl (x := Value.none) rfl (wpAny_pure ?_)));
  refine wpAny_bind (wpAny_rule (wpAny_bind (wpAny_field hz rfl (x := Value.ref TO) rfl (wpAny_bind (wpAny_setField_rec hz (by simp) fun g1 zg sg => wpAny_bind ?_)))));
  simp only [List.zipIdx_cons, List.zipIdx_nil, List.forIn_cons, List.forIn_nil]))
set_option hygiene true
theorem zip_next_itemN {z TI TO i1 i2 : Addr} {f1 f2 : List Addr} {Sa Sb Sc Sd : Heap → Prop} {P1 P2 : Value → Prop} {a b : Value} {Q : Value → Shared → Prop} (D : ZAp z TI TO i1 i2)
    (n1 : Nx prog w A i1 f1 Sa Sb P1) (n2 : Nx prog w A i2 f2 Sc Sd P2) (hf1 : ∀ c ∈ f1, c ≠ z ∧ c ≠ TO ∧ c ≠ i2) (hf2 : ∀ c ∈ f2, c ≠ z ∧ c ≠ TO ∧ c ≠ i1)
    (hz : IsZip s.heap z TI TO .none) (hTI : IsPair s.heap TI (.ref i1) (.ref i2)) (hTO : IsPair s.heap TO a b) (h1 : Sa s.heap) (h2 : Sc s.heap)
    (hQ : ∀ x y h' tk, P1 x → P2 y → IsZip h' z TI TO (rawInt s.heap.objs.size) → IsPair h' TO x y → Sb h' → Sd h' → IsPair h' s.heap.objs.size x y → h'.objs.size = s.heap.objs.size + 1 →
      (∀ c o, c ≠ z → c ≠ TO → c ≠ i1 → c ≠ i2 → s.heap.get? c = some o → h'.get? c = some o) → Q (.ref s.heap.objs.size) { s with heap := h', toks := tk }) :
    wpAny (model prog w) A (Builtin.«zip.__next__» ⟨[.ref z], []⟩) (fun fin s' => ∃ v, fin = .done (.ret v) ∧ Q v s') E s := by
  obtain ⟨hp, gs, dr, k0, os⟩ := s
  walk_at "zip_in"
  have zg : IsZip g1 z TI TO .ellipsis := zg
  have sg : Heap.SameBut z hp g1 := sg
  refine wpAny_bind (wpAny_bind (wpAny_onRaise (wpAny_bind (m := Builtin.SmallTypes.nextOf (.ref i1)) (n1.step _ _ _ (n1.fra hp g1 h1 fun c hc o => sg.extBut _ _ (hf1 c hc).1) fun x g2 k1 p1 b2 t2 => wpAny_pure ?_))))
  have t2 : Heap.SameBut i1 g1 g2 := t2
  have o2 : IsPair g2 TO a b := t2.extBut _ _ D.TOi1 (sg.extBut _ _ D.TOz hTO)
  refine wpAny_bind (wpAny_seqItems o2 rfl (wpAny_bind (wpAny_updateSeq_pair o2 fun g3 o3 t3 => wpAny_bind (wpAny_letGo (wpAny_pure ?_)))))
  have o3 : IsPair g3 TO x b := o3
  have t3 : Heap.SameBut TO g2 g3 := t3
  have to3 : ∀ c o, c ≠ z → c ≠ TO → c ≠ i1 → hp.get? c = some o → g3.get? c = some o := fun c o e1 e2 e3 q => t3.extBut _ _ e2 (t2.extBut _ _ e3 (sg.extBut _ _ e1 q))
  refine wpAny_bind (wpAny_bind (wpAny_onRaise (wpAny_bind (m := Builtin.SmallTypes.nextOf (.ref i2)) (n2.step _ _ _ (n2.fra hp g3 h2 fun c hc o => to3 c o (hf2 c hc).1 (hf2 c hc).2.1 (hf2 c hc).2.2) fun y g4 k2 p2 b4 t4 => wpAny_pure ?_))))
  have t4 : Heap.SameBut i2 g3 g4 := t4
  have o4 : IsPair g4 TO x b := t4.extBut _ _ D.TOi2 o3
  refine wpAny_bind (wpAny_seqItems o4 rfl (wpAny_bind (wpAny_updateSeq_pair o4 fun g5 o5 t5 => wpAny_bind (wpAny_letGo (wpAny_pure (wpAny_pure ?_))))))
  have o5 : IsPair g5 TO x y := o5
  have t5 : Heap.SameBut TO g4 g5 := t5
  have size5 : g5.objs.size = hp.objs.size := t5.1.trans (t4.1.trans (t3.1.trans (t2.1.trans sg.1)))
  have z5 : IsZip g5 z TI TO .ellipsis := t5.extBut _ _ D.TOz.symm (t4.extBut _ _ D.i2z.symm (t3.extBut _ _ D.TOz.symm (t2.extBut _ _ D.i1z.symm zg)))
  have zlt : z < g5.objs.size := Heap.lt_size z5
  refine wpAny_bind (wpAny_seqItems o5 rfl (wpAny_bind (wpAny_newTuple (wpAny_bind (m := Builtin.SmallTypes.ownedTupleHandOut _ _) ?_))))
  refine wpAny_bind (wpAny_setField_rec (Heap.get?_push_of_some _ z5) (by simp) fun g6 z6 t6 => wpAny_setField_rec z6 (by simp) fun g7 z7 t7 => wpAny_pure ⟨_, rfl, ?_⟩)
  have t6 : Heap.SameBut z (g5.push { cls := .type "tuple", data := .seq #[x, y] }) g6 := t6
  have t7 : Heap.SameBut z g6 g7 := t7
  have z7 : IsZip g7 z TI TO (rawInt g5.objs.size) := z7
  have over : ∀ c o, c ≠ z → g5.get? c = some o → g7.get? c = some o := fun c o e q => t7.extBut _ _ e (t6.extBut _ _ e (Heap.get?_push_of_some _ q))
  have pair7 : IsPair g7 g5.objs.size x y := t7.extBut _ _ (Nat.ne_of_gt zlt) (t6.extBut _ _ (Nat.ne_of_gt zlt) (Heap.get?_push_size _ rfl))
  have size7 : g7.objs.size = g5.objs.size + 1 := t7.1.trans (t6.1.trans (Heap.size_push ..))
  show Q (.ref g5.objs.size) _
  rw [size5] at z7 pair7 size7 ⊢
  refine hQ x y g7 k2 p1 p2 z7 (over _ _ D.TOz o5) (n1.frb g2 g7 b2 fun c hc o q => ?_) (n2.frb g4 g7 b4 fun c hc o q => ?_) pair7 size7 fun c o e1 e2 e3 e4 q => over c o e1 (t5.extBut _ _ e2 (t4.extBut _ _ e4 (to3 c o e1 e2 e3 q)))
  · obtain ⟨e1, e2, e3⟩ := hf1 c hc
    exact over c o e1 (t5.extBut _ _ e2 (t4.extBut _ _ e3 (t3.extBut _ _ e2 q)))
  · obtain ⟨e1, e2, _⟩ := hf2 c hc
    exact over c o e1 (t5.extBut _ _ e2 q)

/-- the first has no more -/
theorem zip_next_end1 {z TI TO i1 i2 : Addr} {f1 : List Addr} {Sa : Heap → Prop} {Q : Fin → Shared → Prop} (D : ZAp z TI TO i1 i2)
    (n1 : Nd prog w A i1 f1 Sa) (hf1 : ∀ c ∈ f1, c ≠ z ∧ c ≠ TO ∧ c ≠ i2)
    (hz : IsZip s.heap z TI TO .none) (hTI : IsPair s.heap TI (.ref i1) (.ref i2)) (h1 : Sa s.heap)
    (hE : ∀ h' e tk, (∀ c o, c ≠ z → c ≠ TO → c ≠ i1 → c ≠ i2 → s.heap.get? c = some o → h'.get? c = some o) → (∃ o, h'.get? e = some o ∧ o.cls = .type "StopIteration") → E (.ref e) { s with heap := h', toks := tk }) :
    wpAny (model prog w) A (Builtin.«zip.__next__» ⟨[.ref z], []⟩) Q E s := by
  obtain ⟨hp, gs, dr, k0, os⟩ := s
  walk_at "zip_in"
  have zg : IsZip g1 z TI TO .ellipsis := zg
  have sg : Heap.SameBut z hp g1 := sg
  refine wpAny_bind (wpAny_bind (wpAny_onRaise (wpAny_bind (m := Builtin.SmallTypes.nextOf (.ref i1)) (n1.step _ _ _ (n1.fra hp g1 h1 fun c hc o => sg.extBut _ _ (hf1 c hc).1) fun g2 e t2 ⟨oe, qe, ce⟩ => ?_))))
  have t2 : Heap.ExtBut i1 g1 g2 := t2
  have z2 : IsZip g2 z TI TO .ellipsis := t2 _ _ D.i1z.symm zg
  have ne : e ≠ z := fun q => by subst q; rw [z2] at qe; cases qe; simp at ce
  refine wpAny_setField_rec z2 (by simp) fun g3 _ t3 => ?_
  have t3 : Heap.SameBut z g2 g3 := t3
  exact hE g3 e k0 (fun c o e1 _ e3 _ q => t3.extBut _ _ e1 (t2 _ _ e3 (sg.extBut _ _ e1 q))) ⟨oe, t3.extBut _ _ ne qe, ce⟩
/-- the first has one more, the second none -/
theorem zip_next_end2 {z TI TO i1 i2 : Addr} {f1 f2 : List Addr} {Sa Sb Sc : Heap → Prop} {P1 : Value → Prop} {a b : Value} {Q : Fin → Shared → Prop} (D : ZAp z TI TO i1 i2)
    (n1 : Nx prog w A i1 f1 Sa Sb P1) (n2 : Nd prog w A i2 f2 Sc) (hf1 : ∀ c ∈ f1, c ≠ z ∧ c ≠ TO ∧ c ≠ i2) (hf2 : ∀ c ∈ f2, c ≠ z ∧ c ≠ TO ∧ c ≠ i1)
    (hz : IsZip s.heap z TI TO .none) (hTI : IsPair s.heap TI (.ref i1) (.ref i2)) (hTO : IsPair s.heap TO a b) (h1 : Sa s.heap) (h2 : Sc s.heap)
    (hE : ∀ h' e tk, (∀ c o, c ≠ z → c ≠ TO → c ≠ i1 → c ≠ i2 → s.heap.get? c = some o → h'.get? c = some o) → (∃ o, h'.get? e = some o ∧ o.cls = .type "StopIteration") → E (.ref e) { s with heap := h', toks := tk }) :
    wpAny (model prog w) A (Builtin.«zip.__next__» ⟨[.ref z], []⟩) Q E s := by
  obtain ⟨hp, gs, dr, k0, os⟩ := s
  walk_at "zip_in"
  have zg : IsZip g1 z TI TO .ellipsis := zg
  have sg : Heap.SameBut z hp g1 := sg
  refine wpAny_bind (wpAny_bind (wpAny_onRaise (wpAny_bind (m := Builtin.SmallTypes.nextOf (.ref i1)) (n1.step _ _ _ (n1.fra hp g1 h1 fun c hc o => sg.extBut _ _ (hf1 c hc).1) fun x g2 k1 p1 b2 t2 => wpAny_pure ?_))))
  have t2 : Heap.SameBut i1 g1 g2 := t2
  have o2 : IsPair g2 TO a b := t2.extBut _ _ D.TOi1 (sg.extBut _ _ D.TOz hTO)
  refine wpAny_bind (wpAny_seqItems o2 rfl (wpAny_bind (wpAny_updateSeq_pair o2 fun g3 _ t3 => wpAny_bind (wpAny_letGo (wpAny_pure ?_)))))
  have t3 : Heap.SameBut TO g2 g3 := t3
  have to3 : ∀ c o, c ≠ z → c ≠ TO → c ≠ i1 → hp.get? c = some o → g3.get? c = some o := fun c o e1 e2 e3 q => t3.extBut _ _ e2 (t2.extBut _ _ e3 (sg.extBut _ _ e1 q))
  refine wpAny_bind (wpAny_bind (wpAny_onRaise (wpAny_bind (m := Builtin.SmallTypes.nextOf (.ref i2)) (n2.step _ _ _ (n2.fra hp g3 h2 fun c hc o => to3 c o (hf2 c hc).1 (hf2 c hc).2.1 (hf2 c hc).2.2) fun g4 e t4 ⟨oe, qe, ce⟩ => ?_))))
  have t4 : Heap.ExtBut i2 g3 g4 := t4
  have z4 : IsZip g4 z TI TO .ellipsis := t4 _ _ D.i2z.symm (t3.extBut _ _ D.TOz.symm (t2.extBut _ _ D.i1z.symm zg))
  have ne : e ≠ z := fun q => by subst q; rw [z4] at qe; cases qe; simp at ce
  refine wpAny_setField_rec z4 (by simp) fun g5 _ t5 => ?_
  have t5 : Heap.SameBut z g4 g5 := t5
  exact hE g5 e k1 (fun c o e1 e2 e3 e4 q => t5.extBut _ _ e1 (t4 _ _ e4 (to3 c o e1 e2 e3 q))) ⟨oe, t5.extBut _ _ ne qe, ce⟩

theorem pyNext_zip_item {z : Addr} {o : Obj} {Q : Option Value → Shared → Prop} (hz : s.heap.get? z = some o) (hc : o.cls = .type "zip")
    (h : wpAny (model prog w) A.in1 (Builtin.«zip.__next__» ⟨[.ref z], []⟩) (fun fin s' => ∃ v, fin = .done (.ret v) ∧ Q (some v) s') (fun _ _ => False) s) : wpAny (model prog w) A (pyNext (.ref z)) Q E s := by
  have hT : s.TypeIs (.ref z) "zip" := ⟨_, hz, hc⟩
  unfold pyNext
  exact wpAny_bind (wpAny_attempt (wpAny_callSpecial?_slot (name := Str.ofString "__next__") hT F.slot_zip_next
    (wpAny_call_entry F.slot_zip_next hT F.entry_zip_next (wpAny_mono h (fun fin s' ⟨v, e, q⟩ => ⟨v, e, wpAny_pure q⟩) fun _ _ f => f.elim) (F.args_zip_next_1 _))))
theorem pyNext_zip_end {z : Addr} {o : Obj} {Q : Option Value → Shared → Prop} (hz : s.heap.get? z = some o) (hc : o.cls = .type "zip")
    (h : wpAny (model prog w) A.in1 (Builtin.«zip.__next__» ⟨[.ref z], []⟩) (fun _ _ => False) (fun e s' => ∃ a, e = .ref a ∧ (∃ o, s'.heap.get? a = some o ∧ o.cls = .type "StopIteration") ∧ Q none s') s) : wpAny (model prog w) A (pyNext (.ref z)) Q E s := by
  have hT : s.TypeIs (.ref z) "zip" := ⟨_, hz, hc⟩
  unfold pyNext
  refine wpAny_bind (wpAny_attempt (wpAny_callSpecial?_slot (name := Str.ofString "__next__") hT F.slot_zip_next
    (wpAny_call_entry F.slot_zip_next hT F.entry_zip_next (wpAny_mono h (fun _ _ f => f.elim) fun e s' he => ?_) (F.args_zip_next_1 _))))
  obtain ⟨a, rfl, ⟨o, ho, hc⟩, q⟩ := he
  refine wpAny_bind (wpAny_isInstance (T := "StopIteration") (b := true) ⟨o, ho, hc⟩ isSubtype_stop ?_)
  exact wpAny_pure q
end
end L2


namespace L2
open PySem PySem.Spec PyProof.Rows
/-! ### what zip walks -/
inductive Src where
  | str (x : Str) | lst (a : Addr)
def SrcGo (K : PySem.W.Frag) (H : Hp) : Src → Nat → Prop
  | .str x, i => i < x.cps.size
  | .lst a, i => ∃ xs v, SqL K H a xs ∧ xs[i]? = some v
def SrcAt (K : PySem.W.Frag) (H : Hp) : Src → Nat → V → Prop
  | .str x, i, v => ∃ c, x.cps[i]? = some c ∧ v = .str ⟨#[c]⟩
  | .lst a, i, v => ∀ xs, SqL K H a xs → xs[i]? = some v
def SrcEnd (K : PySem.W.Frag) (H : Hp) : Src → Nat → Prop
  | .str x, i => x.cps.size ≤ i
  | .lst a, i => ∃ xs, SqL K H a xs ∧ xs.length ≤ i
def SrcIt (h : Heap) : Src → Addr → Nat → Prop
  | .str x, it, i => ∃ t, h.IsStrIter it (strIterType x) x t i
  | .lst a, it, i => h.IsListIter it a i
def SrcOf (K : PySem.W.Frag) (H : Hp) : Src → V → Prop
  | .str x, v => v = .str x
  | .lst a, v => v = .ref a ∧ ∃ xs, SqL K H a xs
theorem SrcIt.obj {h : Heap} {S : Src} {it : Addr} {i : Nat} (st : SrcIt h S it i) : ∃ o, h.get? it = some o ∧ (∀ v, o.data ≠ .cell v) ∧ o.cls ≠ .type "list" ∧ o.cls ≠ .type "zip" ∧ o.cls ≠ .type "tuple" := by
  cases S with
  | str x =>
    obtain ⟨t, o, e, c, d⟩ := st
    refine ⟨o, e, (fun v z => by rw [d] at z; cases z), ?_⟩
    rw [c]
    rcases strIterType_cases x with q | q <;> rw [q] <;> decide
  | lst a =>
    obtain ⟨o, e, c, d⟩ := (show h.IsListIter it a i from st)
    refine ⟨o, e, (fun v z => by rw [d] at z; cases z), ?_⟩
    rw [c]
    decide
theorem SrcIt.keep {h h' : Heap} {S : Src} {it : Addr} {i : Nat} (st : SrcIt h S it i) (k : ∀ o, h.get? it = some o → h'.get? it = some o) : SrcIt h' S it i := by
  cases S with
  | str x =>
    obtain ⟨t, o, e, r⟩ := st
    exact ⟨t, o, k o e, r⟩
  | lst a => exact Heap.IsListIter.at (show h.IsListIter it a i from st) k
section
variable {X : Cx} {pins : List (Addr × Obj)} {σ : St} {H : Hp} {s : Shared} {A : Around}
theorem src_nx (I : Inv X pins σ H s) (S : Src) {it : Addr} {i : Nat} (st : SrcIt s.heap S it i) (go : SrcGo X.K H S i) :
    ∃ (f : List Addr) (Sa Sb : Heap → Prop) (P : Value → Prop), Nx X.prog X.w A it f Sa Sb P ∧ Sa s.heap ∧ (∀ c ∈ f, c = it ∨ ∃ o, s.heap.get? c = some o ∧ o.cls = .type "list") ∧ (∀ h, Sb h → SrcIt h S it (i + 1)) ∧ ∀ v, P v → ∃ x, RelV x v ∧ SrcAt X.K H S i x := by
  cases S with
  | str x =>
    obtain ⟨t, st⟩ := st
    have hi : i < x.cps.size := go
    refine ⟨[it], fun h => h.IsStrIter it (strIterType x) x t i, fun h => h.IsStrIter it (strIterType x) x t (i + 1), fun v => ∃ u, v = .str ⟨#[x.cps[i]]⟩ u, ⟨?_, ?_, ?_⟩, st, fun c hc => .inl (by simpa using hc), fun h q => ⟨t, q⟩, ?_⟩
    · rintro h h' ⟨o, e, r⟩ k
      exact ⟨o, k it (by simp) o e, r⟩
    · rintro h h' ⟨o, e, r⟩ k
      exact ⟨o, k it (by simp) o e, r⟩
    · intro s Q E st hQ
      exact nextOf_str_item st (c := x.cps[i]) (by simp [hi]) fun h' st' sb => hQ _ h' _ ⟨_, rfl⟩ st' sb
    · rintro v ⟨u, rfl⟩
      exact ⟨.str ⟨#[x.cps[i]]⟩, ⟨u, rfl⟩, _, by simp [hi], rfl⟩
  | lst a =>
    obtain ⟨xs, v, hq, hv⟩ := go
    obtain ⟨its, rv, pl, hz⟩ := I.list hq
    obtain ⟨u, hu, ru⟩ := rv.get hv
    have st' : s.heap.IsListIter it a i := st
    obtain ⟨o, e, c, n, hd⟩ := id pl.isList
    have hne : a ≠ it := by
      rintro rfl
      obtain ⟨o', e', c', _⟩ := st'
      rw [e] at e'
      cases e'
      rw [c] at c'
      exact absurd c' (by decide)
    refine ⟨[it, a], fun h => h.IsListIter it a i ∧ h.IsList a its.toArray, fun h => h.IsListIter it a (i + 1) ∧ h.IsList a its.toArray, fun z => z = u, ⟨?_, ?_, ?_⟩, ⟨st', pl.isList⟩, ?_, fun h q => q.1, ?_⟩
    · rintro h h' ⟨s1, s2⟩ k
      exact ⟨s1.at fun o e => k it (by simp) o e, s2.at fun o e => k a (by simp) o e⟩
    · rintro h h' ⟨s1, s2⟩ k
      exact ⟨s1.at fun o e => k it (by simp) o e, s2.at fun o e => k a (by simp) o e⟩
    · intro s Q E st hQ
      exact wpAny_nextOf_list_item st.1 st.2 (x := u) (by simpa using hu) fun h' st' sb => hQ _ h' s.toks rfl ⟨st', st.2.extBut sb.extBut hne⟩ sb
    · intro c' hc
      rcases (by simpa using hc : c' = it ∨ c' = a) with z | z
      · exact .inl z
      · subst z
        exact .inr ⟨o, e, c⟩
    · rintro z rfl
      exact ⟨v, ru, fun ys hy => by rw [I.list_inj hy hq]; exact hv⟩
theorem src_nd (I : Inv X pins σ H s) (hh : A.handled = none) (S : Src) {it : Addr} {i : Nat} (st : SrcIt s.heap S it i) (en : SrcEnd X.K H S i) :
    ∃ (f : List Addr) (Sa : Heap → Prop), Nd X.prog X.w A it f Sa ∧ Sa s.heap ∧ (∀ c ∈ f, c = it ∨ ∃ o, s.heap.get? c = some o ∧ o.cls = .type "list") := by
  cases S with
  | str x =>
    obtain ⟨t, st⟩ := st
    have hi : x.cps.size ≤ i := en
    refine ⟨[it], fun h => h.IsStrIter it (strIterType x) x t i, ⟨?_, ?_⟩, st, fun c hc => .inl (by simpa using hc)⟩
    · rintro h h' ⟨o, e, r⟩ k
      exact ⟨o, k it (by simp) o e, r⟩
    · intro s Q E st hE
      exact nextOf_str_end hh st (by simp [hi]) hE
  | lst a =>
    obtain ⟨xs, hq, hv⟩ := en
    obtain ⟨its, rv, pl, hz⟩ := I.list hq
    have st' : s.heap.IsListIter it a i := st
    obtain ⟨o, e, c, n, hd⟩ := id pl.isList
    have hl := rv.length
    refine ⟨[it, a], fun h => h.IsListIter it a i ∧ h.IsList a its.toArray, ⟨?_, ?_⟩, ⟨st', pl.isList⟩, ?_⟩
    · rintro h h' ⟨s1, s2⟩ k
      exact ⟨s1.at fun o e => k it (by simp) o e, s2.at fun o e => k a (by simp) o e⟩
    · intro s Q E st hE
      exact wpAny_nextOf_list_end hh st.1 st.2 (by simp; omega) hE
    · intro c' hc
      rcases (by simpa using hc : c' = it ∨ c' = a) with z | z
      · exact .inl z
      · subst z
        exact .inr ⟨o, e, c⟩
/-- records of ours have turned, and a new object is laid and tracked -/
theorem Inv.turnedLaid {t' : Nat} {its : List Addr} {h' : Heap} {a : Addr} {o : HO} (I : Inv X pins σ H s) (k : ∀ b ob, b ∉ its → s.heap.get? b = some ob → h'.get? b = some ob) (hf : ∀ b ∈ its, FpOk X pins H b) (hp : s.heap.objs.size ≤ a)
    (new : ObjOk X.prog X.w (upd H a o) h' a o) (ht : 0 < t' := by first | assumption | exact Nat.succ_pos _ | (apply Inv.tk; assumption) | omega) : Inv X pins σ (upd H a o) { s with heap := h', toks := t' } := by
  have hn : H a = none := I.hok.fresh hp
  have nit : ∀ b u, H b = some u → b ∉ its := fun b u e z => by
    have q := (hf b z).1
    rw [q] at e
    cases e
  have nea : ∀ b ob, s.heap.get? b = some ob → b ≠ a := fun b ob e => Nat.ne_of_lt (Nat.lt_of_lt_of_le (Heap.lt_size e) hp)
  refine I.step (g' := s.gens) (d' := s.drawn) (ch := its) (fun b hb => ?_) (fun b o _ _ hc e _ => k b o hc e) (fun b o _ _ hc e _ => ⟨o.slots, k b o hc e⟩) (fun b ob _ e n => by rw [upd_ne (nea b ob e)]; exact n)
    (fun b o hc e => ⟨o, k b o hc e⟩) (fun _ _ e => by rw [upd_ne (ne_of_none e hn)]; exact e) (fun _ _ _ e => by rw [upd_ne (ne_of_none e hn)]; exact e) (fun b ps e => ⟨#[], by rw [upd_ne (ne_of_none e hn), e]; simp⟩) (fun m hm => ?_) (fun b u e => ?_) I.bare
  · obtain ⟨f0, f1, f2, f3, f4, f5⟩ := hf b hb
    exact ⟨f3, f1, f4, f5⟩
  · obtain ⟨o, es, ep, ho, r⟩ := hm
    exact ⟨o, es, ep, k _ o (fun z => (hf _ z).2.1 rfl) ho, r⟩
  · by_cases hb : b = a
    · subst hb
      rw [upd_same] at e
      cases e
      exact new
    · rw [upd_ne hb] at e
      refine (I.hok b u e).stay (fun c v hc q => k c v ?_ q) (fun c q => by rw [upd_ne (ne_of_none q hn)]; exact q) fun c xs q => by rw [upd_ne (ne_of_none q hn)]; exact q
      rcases hc with z | z
      · rw [z]; exact nit b u e
      · exact nit c _ z
end
def Itz (K : PySem.W.Frag) (S1 S2 : Src) : It := ⟨fun i H => SrcGo K H S1 i ∧ SrcGo K H S2 i, fun i H v H' => ∃ T x y, v = .ref T ∧ H T = none ∧ H' = upd H T (.tup [x, y]) ∧ SrcAt K H S1 i x ∧ SrcAt K H S2 i y,
  fun i H => SrcEnd K H S1 i ∨ (SrcGo K H S1 i ∧ SrcEnd K H S2 i)⟩
def ZipSt (z TI TO i1 i2 : Addr) (S1 S2 : Src) (i : Nat) (h : Heap) : Prop := ∃ a b, IsZip h z TI TO .none ∧ IsPair h TI (.ref i1) (.ref i2) ∧ IsPair h TO a b ∧ SrcIt h S1 i1 i ∧ SrcIt h S2 i2 i
theorem off_of {h : Heap} {f : List Addr} {z TI TO i1 i2 : Addr} {a b : Value} {S2 : Src} {k : Nat} (hz : IsZip h z TI TO .none) (hTO : IsPair h TO a b) (h2 : SrcIt h S2 i2 k) (n1 : i1 ≠ z) (n2 : i1 ≠ TO) (n3 : i1 ≠ i2)
    (m : ∀ c ∈ f, c = i1 ∨ ∃ o, h.get? c = some o ∧ o.cls = .type "list") : ∀ c ∈ f, c ≠ z ∧ c ≠ TO ∧ c ≠ i2 := fun c hc => by
  rcases m c hc with e | ⟨o, e, c1⟩
  · subst e
    exact ⟨n1, n2, n3⟩
  · refine ⟨?_, ?_, ?_⟩
    · rintro rfl
      rw [hz] at e
      cases e
      exact absurd (show Value.type "zip" = Value.type "list" from c1) (by decide)
    · rintro rfl
      rw [hTO] at e
      cases e
      exact absurd (show Value.type "tuple" = Value.type "list" from c1) (by decide)
    · rintro rfl
      obtain ⟨o', e', _, q, _⟩ := h2.obj
      rw [e] at e'
      cases e'
      exact q c1
theorem turn_zip {P : Program} {w : World} {K : PySem.W.Frag} {elts : List Expr} {kk : Nat} {pos : Pos} {z TI TO i1 i2 : Addr} (D : ZAp z TI TO i1 i2) (S1 S2 : Src) :
    Turn P w K (.Tuple elts kk pos) (Itz K S1 S2) [z, TI, TO, i1, i2] z (ZipSt z TI TO i1 i2 S1 S2) where
  mem := by simp
  obj := fun i h st b hb => by
    obtain ⟨a, c, hz, hTI, hTO, h1, h2⟩ := st
    simp only [List.mem_cons, List.not_mem_nil, or_false] at hb
    rcases hb with rfl | rfl | rfl | rfl | rfl
    · exact ⟨_, hz, fun v q => by have q' : Data.fields _ = Data.cell v := q; cases q'⟩
    · exact ⟨_, hTI, fun v q => by have q' : Data.seq _ _ = Data.cell v := q; cases q'⟩
    · exact ⟨_, hTO, fun v q => by have q' : Data.seq _ _ = Data.cell v := q; cases q'⟩
    · obtain ⟨o, e, q, _⟩ := h1.obj
      exact ⟨o, e, q⟩
    · obtain ⟨o, e, q, _⟩ := h2.obj
      exact ⟨o, e, q⟩
  keep := fun i h h' st k => by
    obtain ⟨a, c, hz, hTI, hTO, h1, h2⟩ := st
    exact ⟨a, c, k z (by simp) _ hz, k TI (by simp) _ hTI, k TO (by simp) _ hTO, h1.keep fun o e => k i1 (by simp) o e, h2.keep fun o e => k i2 (by simp) o e⟩
  item := by
    intro X hP hw hK hc i pins s σ H E I hf st hg
    subst hP hw hK
    obtain ⟨a, b, hz, hTI, hTO, h1, h2⟩ := st
    obtain ⟨g1, g2⟩ := hg
    obtain ⟨f1, Sa, Sb, P1, n1, a1, m1, b1, r1⟩ := src_nx (A := X.A.in1) I S1 h1 g1
    obtain ⟨f2, Sc, Sd, P2, n2, a2, m2, b2, r2⟩ := src_nx (A := X.A.in1) I S2 h2 g2
    refine tokQ I.tk (pyNext_zip_item hz rfl (zip_next_itemN D n1 n2 (off_of hz hTO h2 D.i1z D.TOi1.symm D.i12 m1) (off_of hz hTO h1 D.i2z D.TOi2.symm D.i12.symm m2) hz hTI hTO a1 a2 fun x y h' tk p1 p2 z1 z2 q1 q2 z3 z4 kp (htk : 0 < tk) => ?_))
    obtain ⟨vx, rx, ax⟩ := r1 x p1
    obtain ⟨vy, ry, ay⟩ := r2 y p2
    have fresh : H s.heap.objs.size = none := I.hok.fresh (Nat.le_refl _)
    have off : ∀ {c o}, s.heap.get? c = some o → c ≠ s.heap.objs.size := fun e => Nat.ne_of_lt (Heap.lt_size e)
    refine ⟨_, rfl, wpAny_letOwnedTupleGo_zip z1 fun h'' z1' sb => ?_⟩
    replace sb : Heap.SameBut z h' h'' := sb
    have hT : IsPair h'' s.heap.objs.size x y := sb.extBut _ _ (Ne.symm (off hz)) z3
    have I1 : Inv X pins σ (upd H s.heap.objs.size (.tup [vx, vy])) { s with heap := h'', toks := tk } := by
      refine I.turnedLaid (its := [z, TO, i1, i2]) (fun c o hc' e => ?_) (fun c hc' => hf c ?_) (Nat.le_refl _) ?_
      · simp only [List.mem_cons, List.not_mem_nil, or_false, not_or] at hc'
        exact sb.extBut _ _ hc'.1 (kp c o hc'.1 hc'.2.1 hc'.2.2.1 hc'.2.2.2 e)
      · simp only [List.mem_cons, List.not_mem_nil, or_false] at hc' ⊢
        rcases hc' with q | q | q | q
        · exact .inl q
        · exact .inr (.inr (.inl q))
        · exact .inr (.inr (.inr (.inl q)))
        · exact .inr (.inr (.inr (.inr q)))
      · exact ⟨by show 2 ≤ sizeLine; decide, [x, y], .cons rx (.cons ry .nil), _, hT, rfl, _, rfl⟩
    refine ⟨.ref s.heap.objs.size, _, I1, rfl, ⟨_, vx, vy, rfl, fresh, rfl, ax, ay⟩, ⟨x, y, z1', ?_, ?_, ?_, ?_⟩, fun c hc' => ?_⟩
    · exact sb.extBut _ _ D.TIz (kp _ _ D.TIz D.TITO D.TIi1 D.TIi2 hTI)
    · exact sb.extBut _ _ D.TOz z2
    · exact (b1 h' q1).keep fun o e => sb.extBut _ _ D.i1z e
    · exact (b2 h' q2).keep fun o e => sb.extBut _ _ D.i2z e
    · have ne : c ≠ s.heap.objs.size := by
        simp only [List.mem_cons, List.not_mem_nil, or_false] at hc'
        rcases hc' with rfl | rfl | rfl | rfl | rfl
        · exact off hz
        · exact off hTI
        · exact off hTO
        · obtain ⟨o, e, _⟩ := h1.obj
          exact off e
        · obtain ⟨o, e, _⟩ := h2.obj
          exact off e
      rw [upd_ne ne]
      exact (hf c hc').1
  done := by
    intro X hP hw hK hc i pins s σ H E I hf st hg
    subst hP hw hK
    obtain ⟨a, b, hz, hTI, hTO, h1, h2⟩ := st
    have hh : X.A.in1.handled = none := I.ok.hd hc
    have fin : ∀ (h' : Heap) (tk : Nat), 0 < tk → (∀ c o, c ≠ z → c ≠ TO → c ≠ i1 → c ≠ i2 → s.heap.get? c = some o → h'.get? c = some o) → Inv X pins σ H { s with heap := h', toks := tk } := fun h' tk htk kp =>
      I.turnedL (its := [z, TO, i1, i2]) (fun c o hc' e => by
        simp only [List.mem_cons, List.not_mem_nil, or_false, not_or] at hc'
        exact kp c o hc'.1 hc'.2.1 hc'.2.2.1 hc'.2.2.2 e) (fun c hc' => hf c (by
        simp only [List.mem_cons, List.not_mem_nil, or_false] at hc' ⊢
        rcases hc' with q | q | q | q
        · exact .inl q
        · exact .inr (.inr (.inl q))
        · exact .inr (.inr (.inr (.inl q)))
        · exact .inr (.inr (.inr (.inr q)))))
    rcases hg with e1 | ⟨g1, e2⟩
    · obtain ⟨f1, Sa, n1, a1, m1⟩ := src_nd I hh S1 h1 e1
      exact tokQ I.tk (pyNext_zip_end hz rfl (zip_next_end1 D n1 (off_of hz hTO h2 D.i1z D.TOi1.symm D.i12 m1) hz hTI a1 fun h' e tk kp he => ⟨e, rfl, he, fun htk => ⟨rfl, fin h' tk htk kp⟩⟩))
    · obtain ⟨f1, Sa, Sb, P1, n1, a1, m1, b1, r1⟩ := src_nx (A := X.A.in1) I S1 h1 g1
      obtain ⟨f2, Sc, n2, a2, m2⟩ := src_nd I hh S2 h2 e2
      exact tokQ I.tk (pyNext_zip_end hz rfl (zip_next_end2 D n1 n2 (off_of hz hTO h2 D.i1z D.TOi1.symm D.i12 m1) (off_of hz hTO h1 D.i2z D.TOi2.symm D.i12.symm m2) hz hTI hTO a1 a2 fun h' e tk kp he => ⟨e, rfl, he, fun htk => ⟨rfl, fin h' tk htk kp⟩⟩))
  self := fun _ _ _ _ _ st h => by
    obtain ⟨a, b, hz, _⟩ := st
    exact wpAny_pyIter_zip hz h
/-! ### zip is made -/
def srcVal : Src → Tok → Value
  | .str x, t => .str x t
  | .lst a, _ => .ref a
def srcObj : Src → Tok → Obj
  | .str x, t => { cls := .type (strIterType x), data := .fields #[.str x t, .int 0 0] }
  | .lst a, _ => { cls := .type "list_iterator", data := .fields #[.ref a, .int 0 0] }
def srcOk (h : Heap) : Src → Prop
  | .str _ => True
  | .lst a => ∃ its, h.IsList a its
theorem srcOk.push {h : Heap} {S : Src} (ok : srcOk h S) (o : Obj) : srcOk (h.push o) S := by
  cases S with
  | str x => trivial
  | lst a =>
    obtain ⟨its, q⟩ := ok
    exact ⟨its, Heap.IsList.push q _⟩
theorem srcObj_freed (S : Src) (t : Tok) : (srcObj S t).isFreed = false := by cases S <;> rfl
theorem srcObj_it {h : Heap} {S : Src} {t : Tok} {it : Addr} (e : h.get? it = some (srcObj S t)) : SrcIt h S it 0 := by
  cases S with
  | str x => exact ⟨t, _, e, rfl, rfl⟩
  | lst a => exact ⟨_, e, rfl, rfl⟩
section
variable {prog : Program} {w : World} {A : Around} {E : Value → Shared → Prop} {s : Shared}
theorem pyIter_src {S : Src} {t : Tok} {Q : Value → Shared → Prop} (ok : srcOk s.heap S) (hQ : Q (.ref s.heap.objs.size) { s with heap := s.heap.push (srcObj S t) }) : wpAny (model prog w) A (pyIter (srcVal S t)) Q E s := by
  cases S with
  | str x => exact wpAny_pyIter_strU hQ
  | lst a =>
    obtain ⟨its, q⟩ := ok
    exact wpAny_pyIter_list q hQ
end
abbrev zH1 (h : Heap) (S1 : Src) (t1 : Tok) : Heap := h.push (srcObj S1 t1)
abbrev zH2 (h : Heap) (S1 S2 : Src) (t1 t2 : Tok) : Heap := (zH1 h S1 t1).push (srcObj S2 t2)
abbrev zH3 (h : Heap) (S1 S2 : Src) (t1 t2 : Tok) : Heap := (zH2 h S1 S2 t1 t2).push { cls := .type "tuple", data := .seq #[.ref h.objs.size, .ref (zH1 h S1 t1).objs.size] }
abbrev zH4 (h : Heap) (S1 S2 : Src) (t1 t2 : Tok) : Heap := (zH3 h S1 S2 t1 t2).push { cls := .type "tuple", data := .seq #[.none, .none] }
abbrev zH5 (h : Heap) (S1 S2 : Src) (t1 t2 : Tok) : Heap := (zH4 h S1 S2 t1 t2).push { cls := .type "zip", data := .fields #[.none, .bool false, .bool false, .ref (zH2 h S1 S2 t1 t2).objs.size, .ref (zH3 h S1 S2 t1 t2).objs.size] }
theorem meets_zip_newS (S1 S2 : Src) (t1 t2 : Tok) :
    Meets (Builtin.«zip.__new__» ⟨[.type "zip", srcVal S1 t1, srcVal S2 t2], []⟩) (fun _ R s => srcOk s.heap S1 ∧ srcOk s.heap S2 ∧
      R (.ok (.ret (.ref (zH4 s.heap S1 S2 t1 t2).objs.size))) { s with heap := zH5 s.heap S1 S2 t1 t2 }) :=
  .of_wp fun prog w A R s h => by
    obtain ⟨hp, g, d, tk, os⟩ := s; obtain ⟨hl1, hl2, h⟩ := h
    have hsub := sub_zip
    have hL1 : srcOk (Shared.heap ⟨hp, g, d, tk, os⟩) S1 := hl1
    have hL2 : srcOk (Shared.heap ⟨hp.push (srcObj S1 t1), g, d, tk, os⟩) S2 := hl2.push _
    wp_walk using pyIter_src hL1, pyIter_src hL2
    exact ⟨_, rfl, h⟩
section
variable {prog : Program} {w : World} {A : Around} {E : Value → Shared → Prop} {s : Shared}
theorem call_zipS {S1 S2 : Src} {t1 t2 : Tok} {Q : Value → Shared → Prop} (hl1 : srcOk s.heap S1) (hl2 : srcOk s.heap S2)
    (h : ∀ h', ZipSt (s.heap.objs.size + 4) (s.heap.objs.size + 2) (s.heap.objs.size + 3) s.heap.objs.size (s.heap.objs.size + 1) S1 S2 0 h' → (∀ c o, s.heap.get? c = some o → h'.get? c = some o) → Q (.ref (s.heap.objs.size + 4)) { s with heap := h' }) :
    wpAny (model prog w) A (call (.type "zip") [srcVal S1 t1, srcVal S2 t2]) Q E s := by
  refine callType_new F.called_zip (by decide) (F.typeCall_zip_2 _ _) (F.newCall_zip_2 _ _) (fun obj => F.args_object_init_3 obj _ _) F.entry_zip_new
    (meets_zip_newS S1 S2 t1 t2) ⟨hl1, hl2, ?_⟩
  have z1 : (zH1 s.heap S1 t1).objs.size = s.heap.objs.size + 1 := Heap.size_push ..
  have z2 : (zH2 s.heap S1 S2 t1 t2).objs.size = s.heap.objs.size + 2 := by rw [Heap.size_push, z1]
  have z3 : (zH3 s.heap S1 S2 t1 t2).objs.size = s.heap.objs.size + 3 := by rw [Heap.size_push, z2]
  have z4 : (zH4 s.heap S1 S2 t1 t2).objs.size = s.heap.objs.size + 4 := by rw [Heap.size_push, z3]
  have g5 : (zH5 s.heap S1 S2 t1 t2).get? (zH4 s.heap S1 S2 t1 t2).objs.size = some _ := Heap.get?_push_size _ rfl
  have g4 : (zH5 s.heap S1 S2 t1 t2).get? (zH3 s.heap S1 S2 t1 t2).objs.size = some _ := Heap.get?_push_of_some _ (Heap.get?_push_size _ rfl)
  have g3 : (zH5 s.heap S1 S2 t1 t2).get? (zH2 s.heap S1 S2 t1 t2).objs.size = some _ := Heap.get?_push_of_some _ (Heap.get?_push_of_some _ (Heap.get?_push_size _ rfl))
  have g2 : (zH5 s.heap S1 S2 t1 t2).get? (zH1 s.heap S1 t1).objs.size = some (srcObj S2 t2) := Heap.get?_push_of_some _ (Heap.get?_push_of_some _ (Heap.get?_push_of_some _ (Heap.get?_push_size _ (srcObj_freed _ _))))
  have g1 : (zH5 s.heap S1 S2 t1 t2).get? s.heap.objs.size = some (srcObj S1 t1) := Heap.get?_push_of_some _ (Heap.get?_push_of_some _ (Heap.get?_push_of_some _ (Heap.get?_push_of_some _ (Heap.get?_push_size _ (srcObj_freed _ _)))))
  show _ ∧ _
  rw [z2, z3, z4] at g5
  rw [z1, z2] at g3
  rw [z3] at g4
  rw [z1] at g2
  rw [z4]
  exact ⟨⟨_, g5, rfl⟩, h _ ⟨_, _, g5, g3, g4, srcObj_it g1, srcObj_it g2⟩ fun c o x =>
    Heap.get?_push_of_some _ (Heap.get?_push_of_some _ (Heap.get?_push_of_some _ (Heap.get?_push_of_some _ (Heap.get?_push_of_some _ x))))⟩
theorem zap_new (n : Nat) : ZAp (n + 4) (n + 2) (n + 3) n (n + 1) := by
  constructor <;> exact fun h => absurd (show (_ : Nat) = _ from h) (by omega)
end
def iZip (K : PySem.W.Frag) (ta : TA) : TI := fun σ H R => ta σ H fun vs H1 => ∃ S1 S2 v1 v2, vs = [v1, v2] ∧ SrcOf K H1 S1 v1 ∧ SrcOf K H1 S2 v2 ∧ R (Itz K S1 S2) H1
section
variable {X : Cx}
theorem srcOf_val {pins : List (Addr × Obj)} {σ : St} {H : Hp} {s : Shared} {S : Src} {v : V} {u : Value} (I : Inv X pins σ H s) (h : SrcOf X.K H S v) (r : RelV v u) : ∃ t, u = srcVal S t ∧ srcOk s.heap S := by
  cases S with
  | str x =>
    have e : v = .str x := h
    subst e
    obtain ⟨t, rfl⟩ := r
    exact ⟨t, rfl, trivial⟩
  | lst a =>
    obtain ⟨e, xs, hq⟩ := h
    subst e
    cases r
    obtain ⟨its, rv, pl, hz⟩ := I.list hq
    exact ⟨0, rfl, _, pl.isList⟩
theorem boot_zip : bootBuiltins "zip" = some (.type "zip") := by decide +kernel
theorem pi_zip {a b : Expr} {ta : TA} {elts : List Expr} {kk : Nat} {tpos p pos : Pos} (hg : Gl X "zip") (hm : X.mg "zip" = none) (ha : PA X [a, b] ta) (hs : starEach [a, b] X.env = [(false, eval a X.env), (false, eval b X.env)] := by rfl) (hs2 : starEach [b] X.env = [(false, eval b X.env)] := by rfl) :
    PI X (.Tuple elts kk tpos) (.Call (.Name "zip" p) [a, b] [] pos) (iZip X.K ta) := by
  intro pins s σ H R I h
  refine Call_ (ld_blt I hg hm boot_zip (PyProof.Rows.callWith_type1 (thn (ha pos pins s σ H _ I h) fun us s1 ⟨vs, H1, I1, r1, q1⟩ => ?_) (by rw [hs, hs2]) (by rw [hs2]; rfl)))
  obtain ⟨S1, S2, v1, v2, e, o1, o2, q⟩ := q1
  subst e
  cases r1 with
  | cons r rr =>
    cases rr with
    | cons r' rr =>
      cases rr
      obtain ⟨t1, rfl, k1⟩ := srcOf_val I1 o1 r
      obtain ⟨t2, rfl, k2⟩ := srcOf_val I1 o2 r'
      refine call_zipS k1 k2 fun h' st kp => ?_
      have I2 : Inv X pins σ H1 { s1 with heap := h' } := I1.kept (t' := s1.toks) kp
      have st' := st
      obtain ⟨_, _, hz, _⟩ := st'
      refine wpAny_pyIter_zip hz ?_
      refine ⟨_, _, _, Itz X.K S1 S2, H1, rfl, I2, turn_zip (zap_new _) S1 S2, st, fun c hc => ?_, q⟩
      have hc' : s1.heap.objs.size ≤ c := by
        simp only [List.mem_cons, List.not_mem_nil, or_false] at hc
        rcases hc with rfl | rfl | rfl | rfl | rfl <;> omega
      exact I1.fpOk hc' (I1.hok.fresh hc')
end
end L2


namespace L2
open PySem PySem.Spec PyProof.Rows
/-! ### list comprehensions -/
def clOf (cells : List (Str × Addr)) : List (Str × NameKind) → List (Str × Addr) → List (Str × Addr)
  | [], cs => cs
  | (n, k) :: r, cs => clOf cells r (if (k == NameKind.free) = true then (n, (cells.lookup n).getD 0) :: cs else cs)
theorem closureFor_some {scope : Scope} {env : Env} (h : ∀ y ∈ scope.names, y.2 = .free → ∃ c, env.cells.lookup y.1 = some c) : closureFor scope env = pure (clOf env.cells scope.names []) := by
  unfold closureFor
  have key : ∀ (names : List (Str × NameKind)) (cs : List (Str × Addr)), (∀ y ∈ names, y.2 = .free → ∃ c, env.cells.lookup y.1 = some c) →
      (forIn names cs (fun x r => match x with
        | (name, kind) => if (kind == NameKind.free) = true then (do let __do_lift ← cellOf env name; pure (ForInStep.yield ((name, __do_lift) :: r))) else pure (ForInStep.yield r)) : Sem (List (Str × Addr))) = pure (clOf env.cells names cs) := by
    intro names
    induction names with
    | nil => intro cs _; rfl
    | cons y r ih =>
      intro cs hy
      obtain ⟨n, k⟩ := y
      rw [List.forIn_cons]
      have hr : ∀ y ∈ r, y.2 = .free → ∃ c, env.cells.lookup y.1 = some c := fun y hm => hy y (List.mem_cons_of_mem _ hm)
      cases hk : (k == NameKind.free) with
      | true =>
        have hk' : k = .free := by simpa using hk
        obtain ⟨c, hc⟩ := hy (n, k) List.mem_cons_self hk'
        have ec : cellOf env n = pure c := by unfold cellOf; rw [hc]
        have e1 : (clOf env.cells ((n, k) :: r) cs) = clOf env.cells r ((n, c) :: cs) := by
          show clOf env.cells r (if (k == NameKind.free) = true then (n, (env.cells.lookup n).getD 0) :: cs else cs) = _
          rw [hk, if_pos rfl, show env.cells.lookup n = some c from hc]
          rfl
        rw [e1, ← ih _ hr]
        simp only [ec, hk, if_true, pure_bind]
      | false =>
        have e1 : (clOf env.cells ((n, k) :: r) cs) = clOf env.cells r cs := by
          show clOf env.cells r (if (k == NameKind.free) = true then (n, (env.cells.lookup n).getD 0) :: cs else cs) = _
          rw [hk, if_neg Bool.false_ne_true]
        rw [e1, ← ih _ hr]
        simp only [hk, Bool.false_eq_true, if_false, pure_bind]
  have q := key scope.names [] h
  first
    | exact q
    | (simp only [bind_pure]; exact q)
    | (rw [q]; rfl)
theorem clOf_sound {cells : List (Str × Addr)} {x : Str} {c : Addr} : ∀ (names : List (Str × NameKind)) (cs : List (Str × Addr)), (∀ y ∈ names, y.2 = .free → ∃ c, cells.lookup y.1 = some c) → (∀ x c, cs.lookup x = some c → cells.lookup x = some c) →
    (clOf cells names cs).lookup x = some c → cells.lookup x = some c
  | [], cs, _, h, e => h x c e
  | (n, k) :: r, cs, hn, h, e => by
    unfold clOf at e
    refine clOf_sound r _ (fun y hm => hn y (List.mem_cons_of_mem _ hm)) (fun x c q => ?_) e
    split at q
    · rename_i hk
      have hk' : k = .free := by simpa using hk
      obtain ⟨c', hc⟩ := hn (n, k) List.mem_cons_self hk'
      rw [List.lookup_cons] at q
      cases hx : (x == n) with
      | true =>
        rw [hx] at q
        have hx' : x = n := by simpa using hx
        subst hx'
        rw [hc] at q
        simp at q
        rw [hc, q]
      | false =>
        rw [hx] at q
        exact h x c q
    · exact h x c q
theorem clOf_keeps {cells : List (Str × Addr)} {x : Str} : ∀ (names : List (Str × NameKind)) (cs : List (Str × Addr)), (cs.lookup x).isSome = true → ((clOf cells names cs).lookup x).isSome = true
  | [], cs, h => h
  | (n, k) :: r, cs, h => by
    unfold clOf
    refine clOf_keeps r _ ?_
    split
    · rw [List.lookup_cons]
      split
      · rfl
      · exact h
    · exact h
theorem clOf_has {cells : List (Str × Addr)} {x : Str} : ∀ (names : List (Str × NameKind)) (cs : List (Str × Addr)), (x, NameKind.free) ∈ names → ((clOf cells names cs).lookup x).isSome = true
  | [], _, h => by cases h
  | (n, k) :: r, cs, h => by
    unfold clOf
    rcases List.mem_cons.mp h with e | e
    · cases e
      refine clOf_keeps r _ ?_
      simp
    · exact clOf_has r _ e
theorem lookup_relabel (env : Env) (x : Str) : ∀ names : List (Str × NameKind),
    (names.map fun (n, k) => if (k == NameKind.free && env.scope.kind == .function && env.kindOf n == some .cell) then (n, NameKind.cell) else (n, k)).lookup x =
      (names.lookup x).map fun k => if (k == NameKind.free && env.scope.kind == .function && env.kindOf x == some .cell) = true then .cell else k
  | [] => rfl
  | (n, k) :: r => by
    have ih := lookup_relabel env x r
    simp only [List.map_cons]
    cases hx : (x == n) with
    | true =>
      have hx' : x = n := by simpa using hx
      subst hx'
      by_cases hc : (k == NameKind.free && env.scope.kind == .function && env.kindOf x == some .cell) = true
      · rw [if_pos hc, List.lookup_cons, List.lookup_cons, hx]
        show some NameKind.cell = some (if (k == NameKind.free && env.scope.kind == .function && env.kindOf x == some .cell) = true then NameKind.cell else k)
        rw [if_pos hc]
      · rw [if_neg hc, List.lookup_cons, List.lookup_cons, hx]
        show some k = some (if (k == NameKind.free && env.scope.kind == .function && env.kindOf x == some .cell) = true then NameKind.cell else k)
        rw [if_neg hc]
    | false =>
      by_cases hc : (k == NameKind.free && env.scope.kind == .function && env.kindOf n == some .cell) = true
      · rw [if_pos hc]
        simp only [List.lookup_cons, hx]
        exact ih
      · rw [if_neg hc]
        simp only [List.lookup_cons, hx]
        exact ih
/-- the scope of a comprehension -/
structure CScope (scope : Scope) : Prop where
  kind : scope.kind = .function
  nocell : ∀ y ∈ scope.names, y.2 ≠ .cell
  loc : ∀ y ∈ scope.names, y.2 = .local → scope.names.lookup y.1 = some .local
/-- the context of a comprehension's block -/
def cxC (X : Cx) (scope : Scope) (cl : List (Str × Addr)) (N' : List Str) (C : Addr) (s : Shared) (H : Hp) (ex : List Addr) : Cx :=
  { X with N := N', s₀ := s, H₀ := H, env := compEnvC scope cl C X.env, outer := X.stack, ex := ex, fn := fun _ => false, pn := [], xe := fun _ _ => False }
def compσ (nt : Nat) (fi : List Nat) (σ : St) : St := List.replicate nt none ++ fi.map fun j => (σ[j]?).getD none
/-- the names of the block: the targets, then the captured ones; those stand in the enclosing frame at fi -/
structure CNames (X : Cx) (scope : Scope) (nt : Nat) (fi : List Nat) (N' : List Str) : Prop where
  len : N'.length = nt + fi.length
  cap : ∀ k j : Nat, fi[k]? = some j → ∃ x, N'[nt + k]? = some x ∧ X.N[j]? = some x ∧ scope.names.lookup x = some .free
  fre : ∀ y ∈ scope.names, y.2 = .free → X.env.scope.names.lookup y.1 = some .cell ∨ X.env.scope.names.lookup y.1 = some .free
/-- a target that touches no captured slot -/
def GK (nt : Nat) (g : TG) : Prop := ∀ x σ H Q, g x σ H Q → g x σ H fun σ' H' => Q σ' H' ∧ σ'.length = σ.length ∧ σ'.drop nt = σ.drop nt
def PIf (X : Cx) (ifs : List Expr) (t : TT) : Prop :=
  ∀ (pins : List (Addr × Obj)) (s : Shared) (σ : St) (H : Hp) (Q : Bool → Hp → Prop), Inv X pins σ H s → t σ H Q →
    wpAny (model X.prog X.w) X.A (forIn ifs true fun c r => if r = true then do let ok ← isTrue c X.env (eval c X.env); pure (ForInStep.yield ok) else pure (ForInStep.yield r)) (TP X pins σ Q) X.xe s
def tYes : TT := fun _ H Q => Q true H
theorem pif_nil {X : Cx} : PIf X [] tYes := fun pins s σ H Q I h => wpAny_tests_nil ⟨H, I, h⟩
theorem pif_one {X : Cx} {c : Expr} {t : TT} (h : PT X c t) : PIf X [c] t := fun pins s σ H Q I q => wpAny_tests_one (h pins s σ H Q I q)
theorem gk_name {nt i : Nat} (hi : i < nt) : GK nt (gName i) := fun x σ H Q h => by
  refine ⟨h, ?_, ?_⟩
  · rw [List.length_set]
  · rw [List.drop_set_of_lt hi]
theorem gk_tup2 {K : PySem.W.Frag} {nt i j n : Nat} (hi : i < nt) (hj : j < nt) : GK nt (gTup K n (gCons (gName i) (gCons (gName j) gNil))) := fun x σ H Q h => by
  obtain ⟨a, xs, e, hq, hl, v, r, e1, v', r', e2, e3, q⟩ := h
  refine ⟨a, xs, e, hq, hl, v, r, e1, v', r', e2, e3, q, ?_, ?_⟩
  · rw [List.length_set, List.length_set]
  · rw [List.drop_set_of_lt hj, List.drop_set_of_lt hi]
section
variable {prog : Program} {w : World} {A : Around} {R : Result → Shared → Prop} {s : Shared}
theorem thnF {α : Type} {t : Sem α} {Q Q' : α → Shared → Prop} {M : Model} {E : Value → Shared → Prop} (h : wpAny M A t Q (fun _ _ => False) s) (hQ : ∀ a s, Q a s → Q' a s) : wpAny M A t Q' E s := wpAny_mono h hQ fun _ _ f => f.elim
theorem compLoop_any {elt target iter : Expr} {ifs : List Expr} {scope : Scope} {pos : Pos} {it acc : Value} {env : Env} (I : Nat → Shared → Prop)
    (turn : ∀ n s, I n s → wpAny (model prog w) A (pyNext it) (fun r s₁ => match r with
      | none => R (.ok .next) s₁
      | some v => wpAny (model prog w) A (letOwnedTupleGo target it v) (fun _ s₂ => wpAny (model prog w) A (assign target env v) (fun _ s₃ =>
          wpAny (model prog w) A (forIn ifs true fun c r => if r = true then do let ok ← isTrue c env (eval c env); pure (ForInStep.yield ok) else pure (ForInStep.yield r)) (fun ok s₄ =>
            if ok = true then wpAny (model prog w) A (eval elt env) (fun x s₅ => wpAny (model prog w) A (call (.builtin "list.append") [acc, x]) (fun _ s₆ => ∃ m, m < n ∧ I m s₆) (fun _ _ => False) s₅) (fun _ _ => False) s₄
            else ∃ m, m < n ∧ I m s₄) (fun _ _ => False) s₃) (fun _ _ => False) s₂) (fun _ _ => False) s₁) (fun _ _ => False) s)
    (n : Nat) (h : I n s) : codeAny (model prog w) A (.compLoop (.ListComp elt [⟨target, iter, ifs, 0⟩] scope pos) 0 it acc env) R s := by
  refine codeAny_loop rfl I (fun n s hI => ?_) n h
  show wpAny _ A ((compTurn (.ListComp elt [⟨target, iter, ifs, 0⟩] scope pos) 0 it acc env).onRaise (fun x => do noteFrame x env; theTreesLotGoes x)) _ _ s
  refine wpAny_noted ?_
  rw [compTurn_list]
  refine wpAny_bind (wpAny_standAt (wpAny_bind (thnF (turn n s hI) fun r s₁ h₁ => ?_)))
  cases r with
  | none => exact wpAny_pure h₁
  | some v =>
    refine wpAny_bind (thnF h₁ fun _ s₂ h₂ => wpAny_bind (thnF h₂ fun _ s₃ h₃ => wpAny_bind (thnF h₃ fun ok s₄ h₄ => ?_)))
    cases ok with
    | false => exact wpAny_pure ⟨rfl, h₄⟩
    | true => exact wpAny_bind (wpAny_bind (thnF h₄ fun x s₅ h₅ => wpAny_bind (thnF h₅ fun _ s₆ h₆ => wpAny_pure (wpAny_pure ⟨rfl, h₆⟩))))
end
/-- the reading of [elt for target in iter (if test)]: W by the turn, a measure, what has been gathered, the heap -/
def tComp (nt : Nat) (fi : List Nat) (wi : TI) (g : TG) (tc : TT) (te : TE) : TE := fun σ H Q => wi σ H fun J H1 => ∀ D, H1 D = none →
  ∃ W : Nat → Nat → List V → Hp → Prop, (∃ m, W 0 m [] (upd H1 D (.lst []))) ∧ ∀ i m acc H2, W i m acc H2 →
    (J.stop i H2 ∧ Q (.ref D) H2) ∨ (J.go i H2 ∧ ∀ x H3, J.yld i H2 x H3 → g x (compσ nt fi σ) H3 fun σ4 H4 => tc σ4 H4 fun b H5 => if b = true then
      te σ4 H5 fun v H6 => H6 D = some (.lst acc) ∧ acc.length < sizeLine ∧ ∃ m', m' < m ∧ W (i + 1) m' (acc ++ [v]) (upd H6 D (.lst (acc ++ [v]))) else ∃ m', m' < m ∧ W (i + 1) m' acc H5)
theorem compσ_weak {nt : Nat} {fi : List Nat} {σ σ' : St} (hl : σ'.length = (compσ nt fi σ).length) (hd : σ'.drop nt = (compσ nt fi σ).drop nt) : ∀ (i : Nat) v, (compσ nt fi σ)[i]? = some (some v) → σ'[i]? = some (some v) := fun i v e => by
  by_cases hi : i < nt
  · unfold compσ at e
    rw [List.getElem?_append_left (by simpa using hi), List.getElem?_replicate] at e
    split at e <;> cases e
  · have ei : i = nt + (i - nt) := by omega
    have q := congrArg (fun l => l[i - nt]?) hd
    simp only [List.getElem?_drop] at q
    rw [← ei] at q
    rw [q]
    exact e
section
variable {X : Cx}
theorem inv_comp {pins : List (Addr × Obj)} {σ : St} {H : Hp} {s : Shared} {scope : Scope} {nt : Nat} {fi : List Nat} {N' : List Str} {fp : List Addr} {h₁ : Heap} {m : Str → Option Value} {tk : Nat}
    (I : Inv X pins σ H s) (S : CScope scope) (cn : CNames X scope nt fi N') (hf : ∀ b ∈ fp, FpOk X pins H b) (ho : ∀ b ∈ fp, ∃ o, s.heap.get? b = some o)
    (hns : h₁.Ns s.heap.objs.size m) (kp : ∀ b o, s.heap.get? b = some o → h₁.get? b = some o) (htk : 0 < tk) :
    Inv (cxC X scope (clOf X.env.cells scope.names []) N' s.heap.objs.size s H fp) (X.pn ++ pins) (compσ nt fi σ) H { s with heap := h₁, toks := tk } := by
  have hfr : ∀ y ∈ scope.names, y.2 = .free → ∃ c, X.env.cells.lookup y.1 = some c := fun y hy e => I.ok.has y.1 (cn.fre y hy e)
  have snd : ∀ x c, (clOf X.env.cells scope.names []).lookup x = some c → X.env.cells.lookup x = some c := fun x c e => clOf_sound scope.names [] hfr (fun _ _ q => by simp at q) e
  have offstk : ∀ b, b ≠ X.env.locals → b ∉ X.fs → b ∉ frs X.stack := fun b h1 h2 h3 => by
    rcases List.mem_cons.mp (I.stkSub b h3) with e | e
    · exact h1 e
    · exact h2 e
  have lt : ∀ {b o}, s.heap.get? b = some o → b ≠ s.heap.objs.size := fun e => Nat.ne_of_lt (Heap.lt_size e)
  have kinds : ∀ x k, (relabel scope X.env).names.lookup x = some k → (k = .cell ∨ k = .free) → (x, NameKind.free) ∈ scope.names := fun x k e hk => by
    have e' : (scope.names.map fun (n, k) => if (k == NameKind.free && X.env.scope.kind == .function && X.env.kindOf n == some .cell) then (n, NameKind.cell) else (n, k)).lookup x = some k := e
    rw [lookup_relabel] at e'
    cases q : scope.names.lookup x with
    | none => rw [q] at e'; cases e'
    | some k' =>
      have mem : (x, k') ∈ scope.names := PySem.mem_of_lookup q
      rw [q] at e'
      simp only [Option.map_some, Option.some.injEq] at e'
      split at e'
      · rename_i hc
        simp only [Bool.and_eq_true, beq_iff_eq] at hc
        rw [hc.1.1] at mem
        exact mem
      · subst e'
        rcases hk with z | z
        · subst z
          exact absurd rfl (S.nocell _ mem)
        · subst z
          exact mem
  refine ⟨⟨I.ok.mod, S.kind, I.ok.glob, I.ok.blt, Nat.le_refl _, fun x y c e1 e2 => I.ok.inj x y c (snd x c e1) (snd y c e2), fun x hx => ?_, fun x c e => (nomatch e), I.ok.hd, I.ok.frames, .inl rfl, fun b hb => ⟨?_, fun x c e => (hf b hb).2.2.2.2.1 x c (snd x c e)⟩, I.bs, ?_, fun b o e hb => ?_, fun b hb => offstk b (hf b hb).2.1 (hf b hb).2.2.1, I.stack, I.stkFree⟩,
    rfl, I.bare, Un.kept kp, ⟨m, hns, fun i x v e1 e2 e3 => ?_⟩, fun x c e => ?_, I.hok.fresh (Nat.le_refl _), fun x c e => I.freeC x c (snd x c e), fun p hp => ?_, I.hok.kept kp, ?_, htk⟩
  · have hx' : (relabel scope X.env).names.lookup x = some .cell ∨ (relabel scope X.env).names.lookup x = some .free := hx
    have mem : (x, NameKind.free) ∈ scope.names := by
      rcases hx' with q | q
      · exact kinds x _ q (.inl rfl)
      · exact kinds x _ q (.inr rfl)
    exact Option.isSome_iff_exists.mp (clOf_has scope.names [] mem)
  · obtain ⟨o, e⟩ := ho b hb
    exact lt e
  · exact Nat.le_trans I.ok.bsz I.sz
  · rcases (hf b hb).2.2.2.1 with q | q
    · exact I.ok.noex b o e q
    · exact absurd (Nat.lt_of_lt_of_le (Heap.lt_size e) (Nat.le_trans I.ok.bsz q)) (Nat.lt_irrefl _)
  · have hi : ¬ i < nt := fun hi => by
      unfold compσ at e2
      rw [List.getElem?_append_left (by simpa using hi), List.getElem?_replicate] at e2
      split at e2 <;> cases e2
    have ei : i = nt + (i - nt) := by omega
    have e2' : (fi.map fun j => (σ[j]?).getD none)[i - nt]? = some (some v) := by
      unfold compσ at e2
      rw [List.getElem?_append_right (by simpa using Nat.le_of_not_lt hi)] at e2
      simpa using e2
    rw [List.getElem?_map] at e2'
    cases ej : fi[i - nt]? with
    | none => rw [ej] at e2'; cases e2'
    | some j =>
      rw [ej] at e2'
      obtain ⟨x', n1, n2, n3⟩ := cn.cap (i - nt) j ej
      rw [← ei] at n1
      have e1' : N'[i]? = some x := e1
      rw [n1] at e1'
      cases e1'
      have ev : σ[j]? = some (some v) := by
        have e2' : some ((σ[j]?).getD none) = some (some v) := e2'
        cases q : σ[j]? with
        | none => rw [q] at e2'; simp at e2'
        | some w => rw [q] at e2'; simp at e2'; rw [e2']
      have mem : (x, NameKind.free) ∈ scope.names := PySem.mem_of_lookup n3
      have vis := cn.fre _ mem rfl
      obtain ⟨m0, hn0, hl0⟩ := I.loc
      obtain ⟨u, ru, lk⟩ := hl0 j x v n2 ev (.inr vis)
      refine ⟨u, ru, ?_⟩
      rcases lk with ⟨q, _⟩ | ⟨q, c, ec, o, hoc, hod⟩
      · have q' : X.env.scope.names.lookup x = some .local := q
        rcases vis with z | z
        · have z' : X.env.scope.names.lookup x = some .cell := z
          rw [q'] at z'; cases z'
        · have z' : X.env.scope.names.lookup x = some .free := z
          rw [q'] at z'; cases z'
      · obtain ⟨c', ec'⟩ := Option.isSome_iff_exists.mp (clOf_has (cells := X.env.cells) scope.names [] mem)
        have ecc := snd x c' ec'
        rw [ec] at ecc
        cases ecc
        refine .inr ⟨?_, c, ec', o, kp c o hoc, hod⟩
        show (relabel scope X.env).names.lookup x = some .cell ∨ (relabel scope X.env).names.lookup x = some .free
        have e4 : (relabel scope X.env).names.lookup x = (scope.names.lookup x).map fun k => if (k == NameKind.free && X.env.scope.kind == .function && X.env.kindOf x == some .cell) = true then .cell else k := lookup_relabel X.env x scope.names
        rw [e4, n3]
        simp only [Option.map_some]
        split
        · exact .inl rfl
        · exact .inr rfl
  · obtain ⟨v, o, hoc, hod⟩ := I.cell x c (snd x c e)
    exact ⟨v, o, kp c o hoc, hod⟩
  · have hp' : p ∈ X.pn ++ pins := by
      have hp'' : p ∈ ([] : List (Addr × Obj)) ++ (X.pn ++ pins) := hp
      simpa using hp''
    obtain ⟨e, n, ne, nf, d⟩ := I.pin p hp'
    exact ⟨kp _ _ e, n, lt e, offstk _ ne nf, d⟩
  · show (compσ nt fi σ).length = N'.length
    unfold compσ
    rw [cn.len, List.length_append, List.length_replicate, List.length_map]
/-- back from the block -/
theorem inv_back {pins : List (Addr × Obj)} {σ σ' : St} {H H' : Hp} {s s' : Shared} {scope : Scope} {cl : List (Str × Addr)} {N' : List Str} {fp : List Addr} {C : Addr} {P : List (Addr × Obj)} {h'' : Heap}
    (I : Inv X pins σ H s) (hf : ∀ b ∈ fp, FpOk X pins H b) (hC : s.heap.objs.size ≤ C) (J : Inv (cxC X scope cl N' C s H fp) P σ' H' s') (sb : Heap.SameBut C s'.heap h'') : Inv X pins σ H' { s' with heap := h'' } := by
  have ne : ∀ {b o}, s.heap.get? b = some o → b ≠ C := fun e => Nat.ne_of_lt (Nat.lt_of_lt_of_le (Heap.lt_size e) hC)
  have u : Un (frs X.stack) fp H H' s.heap s'.heap := J.base
  refine I.call' (s' := { s' with heap := h'' }) (ch := fp) J.os ⟨fun b o e n hb hx => ?_, fun b o e n hb hx => ?_, u.free, fun b o e hx => ?_, u.tups, u.frzs, u.tbls⟩ (fun b o e => ?_) J.bare (fun b hb => ?_) J.tk
  · exact (sb.2 b (ne e)).trans (u.keep b o e n hb hx)
  · obtain ⟨sl, q⟩ := u.slot b o e n hb hx
    exact ⟨sl, (sb.2 b (ne e)).trans q⟩
  · obtain ⟨o', q⟩ := u.there b o e hx
    exact ⟨o', (sb.2 b (ne e)).trans q⟩
  · have fr : H' C = none := J.free
    refine (J.hok b o e).stay (fun c v hc q => (sb.2 c ?_).trans q) (fun _ q => q) fun _ _ q => q
    rintro rfl
    rcases hc with z | z
    · subst z
      rw [fr] at e
      cases e
    · rw [fr] at z
      cases z
  · obtain ⟨f0, f1, f2, f3, f4, f5⟩ := hf b hb
    exact ⟨f3, f1, f4, f5⟩
theorem pe_comp {elt tg iter : Expr} {ifs : List Expr} {scope : Scope} {pos : Pos} {wi : TI} {g : TG} {tc : TT} {te : TE} {nt : Nat} {fi : List Nat} {N' : List Str} (hcalm : X.calm = true)
    (S : CScope scope) (cn : CNames X scope nt fi N') (gk : GK nt g) (hi : PI X tg iter wi)
    (hg : ∀ cl C s H ex, PG (cxC X scope cl N' C s H ex) tg g) (hc : ∀ cl C s H ex, PIf (cxC X scope cl N' C s H ex) ifs tc) (he : ∀ cl C s H ex, PE (cxC X scope cl N' C s H ex) elt te)
    (hs : ∀ x, foldedSetIterable iter X.env x = pure x := by intro _; rfl) : PE X (.ListComp elt [⟨tg, iter, ifs, 0⟩] scope pos) (tComp nt fi wi g tc te) := by
  intro pins s σ H Q I h
  have hfr : ∀ y ∈ scope.names, y.2 = .free → ∃ c, X.env.cells.lookup y.1 = some c := fun y hy e => I.ok.has y.1 (cn.fre y hy e)
  rw [eval_ListComp]
  refine wpAny_comprehension_free (use := none) rfl hs (closureFor_some hfr) S.kind S.loc (thn (hi pins s σ H _ I h) fun v s1 h1 => thn h1 fun itv s2 h2 => ?_)
  obtain ⟨it, fp, tn, J, H2, e, I2, T, st2, f2, hW⟩ := h2
  subst e
  have fD : H2 s2.heap.objs.size = none := I2.hok.fresh (Nat.le_refl _)
  obtain ⟨W, ⟨m0, w0⟩, turn⟩ := hW s2.heap.objs.size fD
  refine wpAny_newObj_type (wpAny_newFunctionEnv S.nocell (by intro y hy; simp at hy) (fun h₁ hns₁ hsb₁ => ?_) S.kind)
  have I3 : Inv X pins σ (upd H2 s2.heap.objs.size (.lst [])) { s2 with heap := s2.heap.push { cls := .type "list", dict := none, data := .seq ([] : List Value).toArray } } := I2.lnew (its := []) (t' := s2.toks) .nil (Nat.zero_le _)
  generalize hs3 : ({ s2 with heap := s2.heap.push { cls := .type "list", dict := none, data := .seq ([] : List Value).toArray } } : Shared) = s3 at I3 hns₁ hsb₁ ⊢
  have hsz : s3.heap.objs.size = s2.heap.objs.size + 1 := by rw [← hs3]; exact Heap.size_push ..
  have ob2 : ∀ b ∈ fp, ∃ o, s3.heap.get? b = some o := fun b hb => by
    obtain ⟨o, e, _⟩ := T.obj _ _ st2 b hb
    rw [← hs3]
    exact ⟨o, Heap.get?_push_of_some _ e⟩
  have f3 : ∀ b ∈ fp, FpOk X pins (upd H2 s2.heap.objs.size (.lst [])) b := fun b hb => by
    obtain ⟨o, e, _⟩ := T.obj _ _ st2 b hb
    refine ⟨?_, (f2 b hb).2⟩
    rw [upd_ne (Nat.ne_of_lt (Heap.lt_size e))]
    exact (f2 b hb).1
  have kp : ∀ b o, s3.heap.get? b = some o → h₁.get? b = some o := fun b o e => hsb₁.extBut b o (Nat.ne_of_lt (Heap.lt_size e)) (Heap.get?_push_of_some _ e)
  have st3 : tn 0 h₁ := T.keep _ _ _ st2 fun b _ o e => kp b o (by rw [← hs3]; exact Heap.get?_push_of_some _ e)
  have J4 : Inv (cxC X scope (clOf X.env.cells scope.names []) N' s3.heap.objs.size s3 (upd H2 s2.heap.objs.size (.lst [])) fp) (X.pn ++ pins) (compσ nt fi σ) (upd H2 s2.heap.objs.size (.lst [])) { s3 with heap := h₁, toks := s3.toks + ([] : List (Str × Value)).length } :=
    inv_comp I3 S cn f3 ob2 hns₁ kp I3.tk
  generalize hcl : clOf X.env.cells scope.names [] = cl at J4 ⊢
  generalize hH3 : upd H2 s2.heap.objs.size (.lst []) = H3 at J4 I3 f3 w0
  have stat : ∀ {H' : Hp}, (∀ b ∈ fp, H' b = none) → ∀ b ∈ fp, FpOk (cxC X scope cl N' s3.heap.objs.size s3 H3 fp) (X.pn ++ pins) H' b := fun {H'} hn b hb => by
    obtain ⟨g0, g1, g2, g3, g4, g5⟩ := f3 b hb
    have ok := J4.ok
    refine ⟨hn b hb, (ok.exf b hb).1, ok.exfs b hb, .inl hb, (ok.exf b hb).2, fun p hp => g5 p ?_⟩
    have hp' : p ∈ ([] : List (Addr × Obj)) ++ (X.pn ++ pins) := hp
    simpa using hp'
  have loop : ∀ s₃ : Shared, s₃ = { s3 with heap := h₁, toks := s3.toks + ([] : List (Str × Value)).length } →
      codeAny (model X.prog X.w) X.A (.compLoop (.ListComp elt [⟨tg, iter, ifs, 0⟩] scope pos) 0 (.ref it) (.ref s2.heap.objs.size) (compEnvC scope cl s3.heap.objs.size X.env))
        (compPost (model X.prog X.w) X.A X.xe none (EP X pins σ Q) (.ref s2.heap.objs.size) s3.heap.objs.size) s₃ := by
    rintro s₃ rfl
    refine compLoop_any (fun n s' => ∃ i acc H', Inv (cxC X scope cl N' s3.heap.objs.size s3 H3 fp) (X.pn ++ pins) (compσ nt fi σ) H' s' ∧ tn i s'.heap ∧ (∀ b ∈ fp, H' b = none) ∧ W i n acc H') ?_ m0
      ⟨0, [], H3, J4, st3, fun b hb => (f3 b hb).1, w0⟩
    rintro n s5 ⟨i, acc, H5, I5, st5, fr5, w5⟩
    rcases turn i n acc H5 w5 with ⟨stop, qn⟩ | ⟨go, step⟩
    · refine thn (T.done (cxC X scope cl N' s3.heap.objs.size s3 H3 fp) rfl rfl rfl hcalm i (X.pn ++ pins) s5 (compσ nt fi σ) H5 (fun _ _ => False) I5 (stat fr5) st5 stop) fun r s6 ⟨hr, I6⟩ => ?_
      subst hr
      obtain ⟨m6, hn6, _⟩ := I6.loc
      exact ⟨m6, hn6, fun h' sb => ⟨.ref s2.heap.objs.size, H5, inv_back I3 f3 (Nat.le_refl _) I6 sb, rfl, qn⟩⟩
    · refine thn (T.item (cxC X scope cl N' s3.heap.objs.size s3 H3 fp) rfl rfl rfl hcalm i (X.pn ++ pins) s5 (compσ nt fi σ) H5 (fun _ _ => False) I5 (stat fr5) st5 go) fun r s6 ⟨u, hr, h6⟩ => ?_
      subst hr
      refine thn h6 fun _ s7 ⟨x, H7, I7, r7, y7, st7, fr7⟩ => ?_
      have I7' := I7.pinned (stat fr7) (T.obj _ _ st7)
      refine thn (hg _ _ _ _ _ _ s7 (compσ nt fi σ) H7 x u _ I7' r7 (gk _ _ _ _ (step x H7 y7))) fun _ s8 ⟨σ8, H8, I8, q8, l8, d8⟩ => ?_
      refine thn (hc _ _ _ _ _ _ s8 σ8 H8 _ I8 q8) fun b s9 ⟨H9, I9, q9⟩ => ?_
      have again : ∀ {s' : Shared} {H' : Hp} {m' : Nat} {acc' : List V}, Inv (cxC X scope cl N' s3.heap.objs.size s3 H3 fp) ((X.pn ++ pins) ++ pinsAt fp s7.heap) σ8 H' s' → m' < n → W (i + 1) m' acc' H' →
          ∃ m, m < n ∧ ∃ i acc H', Inv (cxC X scope cl N' s3.heap.objs.size s3 H3 fp) (X.pn ++ pins) (compσ nt fi σ) H' s' ∧ tn i s'.heap ∧ (∀ b ∈ fp, H' b = none) ∧ W i m acc H' := fun {s' H' m' acc'} I' hm w' => by
        refine ⟨m', hm, i + 1, acc', H', I'.unpinned.weak l8.symm (compσ_weak l8 d8), T.keep _ _ _ st7 fun b hb o e => (I'.pin (b, o) (List.mem_append_right _ (List.mem_append_right _ (mem_pinsAt hb e)))).1, fun b hb => ?_, w'⟩
        obtain ⟨o, e, d⟩ := T.obj _ _ st7 b hb
        exact (I'.pin (b, o) (List.mem_append_right _ (List.mem_append_right _ (mem_pinsAt hb e)))).2.1
      cases b with
      | false =>
        rw [if_neg Bool.false_ne_true] at q9 ⊢
        obtain ⟨m', hm, w'⟩ := q9
        exact again I9 hm w'
      | true =>
        rw [if_pos rfl] at q9 ⊢
        refine thn (he _ _ _ _ _ _ s9 σ8 H9 _ I9 q9) fun uv s10 ⟨v10, H10, I10, r10, hD, hlt, m', hm, w'⟩ => ?_
        refine thn (mt_append (X := cxC X scope cl N' s3.heap.objs.size s3 H3 fp) _ s10 σ8 H10 (.ref s2.heap.objs.size) [v10] (.ref s2.heap.objs.size) [uv] (fun _ H' => H' = upd H10 s2.heap.objs.size (.lst (acc ++ [v10]))) I10 rfl (.cons r10 .nil) ⟨_, acc, v10, rfl, rfl, hD, hlt, rfl⟩) fun _ s11 ⟨_, H11, I11, _, e11⟩ => ?_
        subst e11
        exact again I11 hm w'
  exact codeAny_compStart_list (loop _ rfl) (T.self _ 0 _ _ _ st3 (loop _ rfl))
end
end L2


namespace L2
open PySem PySem.Spec PyProof.Rows
/-! ### texts by their codes -/
abbrev st (l : List Nat) : Str := ⟨l.toArray⟩
theorem st_cps (l : List Nat) : (st l).cps.toList = l := rfl
theorem st_app (l m : List Nat) : st l ++ st m = st (l ++ m) := by
  show Str.append (st l) (st m) = _
  simp [Str.append]
theorem st_inj {l m : List Nat} : st l = st m ↔ l = m := by simp
theorem strsAre_of {ys : List Str} : ∀ {us : List Value}, Vals (ys.map V.str) us → StrsAre us ys := by
  induction ys with
  | nil => intro us r; cases r; exact .nil
  | cons y r ih =>
    intro us h
    cases h with
    | cons r1 r2 =>
      obtain ⟨t, rfl⟩ := r1
      exact .cons y t (ih r2)
theorem txt_join_ones (l : List Nat) : Txt.join ⟨#[]⟩ (l.map fun k => (⟨#[k]⟩ : Str)) = st l := by
  have h := join_plain_closes ⟨#[]⟩ (l.map fun k => (⟨#[k]⟩ : Str))
  rw [eq_of_beq h]
  exact join_ones l
section
variable {X : Cx}
/-- sep.join(list of texts) -/
def rJoin (K : PySem.W.Frag) : V → List V → Hp → VK → Prop := fun x vs H Q => ∃ sep l ys, x = .str sep ∧ vs = [.ref l] ∧ SqL K H l (ys.map V.str) ∧ (ys.map (·.length)).sum + ys.length * sep.length ≤ 16777216 ∧ Q (.str (Txt.join sep ys)) H
theorem mt_join : MtR X "str.join" (rJoin X.K) := by
  intro pins s σ H x vs v us Q I rx rv h
  obtain ⟨sep, l, ys, rfl, rfl, hq, hz, q⟩ := h
  obtain ⟨t, rfl⟩ := rx
  obtain ⟨u, rfl, ru⟩ := rv.one
  cases ru
  obtain ⟨its, r, pl, _⟩ := I.list hq
  exact tokQ I.tk (join_list pl.isList (strsAre_of r) hz fun t' k (htk : 0 < k) => ⟨.str _, H, I.tok _, ⟨_, rfl⟩, q⟩)
theorem sum_ones (l : List Nat) : ((l.map fun k => (⟨#[k]⟩ : Str)).map (·.length)).sum = l.length := by
  induction l with
  | nil => rfl
  | cons a r ih =>
    rw [List.map_cons, List.map_cons, List.sum_cons, ih, List.length_cons]
    show 1 + r.length = r.length + 1
    omega
/-- ''.join(list of signs) -/
def rJoin1 (K : PySem.W.Frag) : V → List V → Hp → VK → Prop := fun x vs H Q => ∃ l cs, x = .str (Str.ofString "") ∧ vs = [.ref l] ∧ SqL K H l (cs.map fun k => V.str ⟨#[k]⟩) ∧ cs.length ≤ 10000 ∧ Q (.str (st cs)) H
theorem ofString_nil : Str.ofString "" = ⟨#[]⟩ := by decide +kernel
theorem mt_join1 : MtR X "str.join" (rJoin1 X.K) := by
  intro pins s σ H x vs v us Q I rx rv h
  obtain ⟨l, cs, rfl, rfl, hq, hz, q⟩ := h
  refine mt_join pins s σ H _ _ v us Q I rx rv ⟨_, l, cs.map fun k => ⟨#[k]⟩, rfl, rfl, ?_, ?_, ?_⟩
  · rw [List.map_map]
    exact hq
  · rw [sum_ones, List.length_map, ofString_nil]
    show cs.length + cs.length * 0 ≤ 16777216
    omega
  · rw [ofString_nil, txt_join_ones]
    exact q
/-- z[lo:hi] of a text -/
def rSlS : V → Option Int → Option Int → Hp → VK → Prop := fun x lo hi H Q => ∃ z, x = .str z ∧ z.length ≤ sizeLine ∧ Q (.str (Txt.slice z lo hi)) H
theorem sl_str : SlR X rSlS := by
  intro pins s σ H x v vl vu lo hi sl Q I rx hs pl pu h
  obtain ⟨z, rfl, hz, q⟩ := h
  obtain ⟨t, rfl⟩ := rx
  have fin : ∀ t' k, 0 < k → EP X pins σ Q (.str (Txt.slice z lo hi) t') { s with toks := k } := fun t' k htk => ⟨.str _, H, I.tok _, ⟨_, rfl⟩, q⟩
  refine ⟨"str", _, F.slot_str_getitem.lookup, typeIs_str _ _ _, tokQ I.tk ?_⟩
  obtain ⟨o, e1, e2, e3⟩ := id hs
  cases pl with
  | none =>
    cases pu with
    | none => exact wpAny_getItem_str_slice (l := none) (u := none) (st := none) ⟨o, e1, e2, e3⟩ rfl (post_val_or_str ⟨Nat.le_trans (Txt.slice_le z _ _) hz, fin⟩)
    | int j tj => exact wpAny_getItem_str_slice (l := none) (u := some (j, tj)) (st := none) ⟨o, e1, e2, e3⟩ rfl (post_val_or_str ⟨Nat.le_trans (Txt.slice_le z _ _) hz, fin⟩)
  | int i ti =>
    cases pu with
    | none => exact wpAny_getItem_str_slice (l := some (i, ti)) (u := none) (st := none) ⟨o, e1, e2, e3⟩ rfl (post_val_or_str ⟨Nat.le_trans (Txt.slice_le z _ _) hz, fin⟩)
    | int j tj => exact wpAny_getItem_str_slice (l := some (i, ti)) (u := some (j, tj)) (st := none) ⟨o, e1, e2, e3⟩ rfl (post_val_or_str ⟨Nat.le_trans (Txt.slice_le z _ _) hz, fin⟩)
theorem slice_to (l : List Nat) (k : Nat) (h : k ≤ l.length) : Txt.slice (st l) none (some (k : Int)) = st (l.take k) := by
  have q := slice_closes_to (x := st l) (j := (k : Int)) ⟨by omega, by simpa using h⟩
  rw [eq_of_beq q]
  simp
theorem slice_from (l : List Nat) (k : Nat) (h : k ≤ l.length) : Txt.slice (st l) (some (k : Int)) none = st (l.drop k) := by
  have q := slice_from_eq (x := st l) (i := (k : Int)) (b := (l.length : Int)) (by omega) (by simpa [Str.length] using h) (by simp [Str.length])
  rw [q]
  simp only [st_cps, Int.toNat_natCast]
  rw [List.take_of_length_le (by rw [List.length_drop]; omega)]
/-- a text times an int -/
theorem op_mul_str : OpR X (binaryOp .Mult) (fun x y H Q => ∃ z n, x = .str z ∧ y = .int n ∧ MulOk z n ∧ Q (.str (Txt.mul z n)) H) := by
  intro pins s σ H x y v u Q I rx ry h
  obtain ⟨z, n, rfl, rfl, hok, q⟩ := h
  obtain ⟨t, rfl⟩ := rx
  obtain ⟨t', rfl⟩ := ry
  exact tokQ I.tk (SB.mul hok fun t' k (htk : 0 < k) => ⟨.str _, H, I.tok _, ⟨_, rfl⟩, q⟩)
theorem mul1 (k n : Nat) : Txt.mul ⟨#[k]⟩ (n : Int) = st (List.replicate n k) := by
  have q := mul_one_list k (n : Int)
  rw [Int.toNat_natCast] at q
  have e : ∀ x : Str, x = ⟨x.cps.toList.toArray⟩ := fun x => by simp
  rw [e (Txt.mul ⟨#[k]⟩ (n : Int)), q]
/-- isinstance(x, T) -/
theorem call_isinst : CallR X (.builtin "isinstance") (fun xs H Q => ∃ x n t b, xs = [x, .ty n] ∧ TyOf X.K H x t ∧ PySem.W.kitOne X.K t (.type n) = some b ∧ Q (.bl b) H) := by
  intro pins s σ H xs us Q I r h
  obtain ⟨x, n, t, b, rfl, ty, e, q⟩ := h
  obtain ⟨u, w', rfl, r1, r2⟩ := vals2 r
  cases r2
  exact tokQ I.tk (isinst_ok I r1 ty e fun tk (htk : 0 < tk) => ⟨.bl b, H, I.tok _, rfl, q⟩)
/-- xs == [] -/
theorem op_eq_nil (hu : X.A.units < cLine) : OpR X (compareOp .Eq) (fun x y H Q => ∃ a b xs, x = .ref a ∧ y = .ref b ∧ SqL X.K H a xs ∧ SqL X.K H b [] ∧ Q (.bl (decide (xs = []))) H) := by
  intro pins s σ H x y v u Q I rx ry h
  obtain ⟨a, b, xs, rfl, rfl, ha, hb, q⟩ := h
  cases rx
  cases ry
  obtain ⟨its, r1, p1, _⟩ := I.list ha
  obtain ⟨its2, r2, p2, _⟩ := I.list hb
  cases r2
  cases r1 with
  | nil => exact SeqAt.eq_listAt (e := fun _ => true) p1.isList p2.isList rfl hu (fun j h1 _ => absurd h1 (by simp)) ⟨.bl true, H, I, rfl, q⟩
  | cons rx rr => exact SeqAt.eq_list_lengthsAt p1.isList p2.isList (by simp) hu ⟨.bl false, H, I, rfl, by simpa using q⟩
/-- xs != [] -/
theorem call_int_txt : CallR X (.type "int") (fun xs H Q => ∃ z n, xs = [.str z] ∧ PySem.intText? z = some n ∧ z.length ≤ 640 ∧ Q (.int n) H) := by
  intro pins s σ H xs us Q I r h
  obtain ⟨z, n, rfl, e, hz, q⟩ := h
  obtain ⟨u, rfl, t, rfl⟩ := vals1 r
  exact PySem.W.KIN.call_text e hz ⟨.int n, H, I.tok _, ⟨_, rfl⟩, q⟩
end
end L2


namespace L2
open PySem PySem.Spec PyProof.Rows
/-! ### defs in short -/
/-- a def of the text stands behind its name -/
def Fn (K : PySem.W.Frag) (mg : Str → Option Value) (x : Str) (st : Stmt) : Prop := ∃ f fd, Fun K x x st f fd ∧ mg x = some (.ref f)
/-- it may be called, and keeps its promise -/
def Callee (P : Program) (w : World) (K : PySem.W.Frag) (mg : Str → Option Value) (base : Heap) (k : Nat) (x : Str) (ps : List Str) (sp : Sp) : Prop :=
  ∃ f fd, FnOk P w K mg base CX0 k f fd ps sp ∧ Binds K fd ps [] ∧ PySem.W.keepIn K (.ref f) = true ∧ mg x = some (.ref f)
theorem Callee.mono {P : Program} {w : World} {K : PySem.W.Frag} {mg : Str → Option Value} {base : Heap} {j k : Nat} {x : Str} {ps : List Str} {sp : Sp} (C : Callee P w K mg base j x ps sp) (h : j ≤ k) : Callee P w K mg base k x ps sp := by
  obtain ⟨f, fd, F, r⟩ := C
  exact ⟨f, fd, F.mono h, r⟩
theorem Fn.cal {P : Program} {w : World} {K : PySem.W.Frag} {mg : Str → Option Value} {base : Heap} {x : Str} {st : Stmt} {N ps : List Str} {k : Nat} {sp : Sp} (F : Fn K mg x st) (S : FnScope N ps (defScope st)) (len : ∀ vs H Q E, sp vs H Q E → vs.length = ps.length)
    (hb : ∀ (kV doc pm : Value) (an : Option Addr) (cdv ct : Value) (us : List Value), us.length = ps.length → bindArgs (PySem.W.fnOf x x (defArgs st) (defBody st) (defScope st) .none kV doc pm an cdv ct) ⟨us, []⟩ = pure (ps.zip us))
    (hbody : ∀ (f : Addr) (cdv : Value) (A : Around) (outer : List Env) (s : Shared) (H : Hp) (vs : List V) (Q : VK) (E : XK), Room k (A.deeper (envOfC x (defScope st) s.heap.objs.size f cdv)) → sp vs H Q E →
      ∃ t, PSs (cxOf CX0 P w K mg base N x (defScope st) f cdv A outer s H E).nox (defBody st) t ∧ t { nx := fun _ H' => Q .non H', rt := Q } (start N vs) H) : Callee P w K mg base (k + 1) x ps sp := by
  obtain ⟨f, fd, F, m⟩ := F
  exact ⟨f, fd, F.ok S len (hbody f), F.binds hb, F.kp, m⟩
section
variable {X : Cx} {k : Nat} {x : Str} {ps : List Str} {sp : Sp} {p pos : Pos} {e : Expr} {es : List Expr} {t : TA}
theorem pe_fn (C : Callee X.prog X.w X.K X.mg X.base k x ps sp) (hr : Room k X.A) (hg : Gl X x) (ha : PA X (e :: es) t)
    (he : starEach (e :: es) X.env = (false, eval e X.env) :: starEach es X.env := by rfl) (hpl : (backTo pos (starEach es X.env)).any (·.1) = false := by rfl) (hd : (x == ("__debug__" : Str)) = false := by decide) : PE X (.Call (.Name x p) (e :: es) [] pos) (tCall sp [] E0 t) := by
  obtain ⟨f, fd, F, b, kp, m⟩ := C
  exact pe_call F hr hg m kp b .nil pass0 ha (hdb := hd) (he := he) (hpl := hpl)
end
/-! ### ways that meet again -/
def tJoin (t u : TS) : TS := fun D σ H => ∃ J : St → Hp → Prop, t { D with nx := J } σ H ∧ ∀ σ' H', J σ' H' → u D σ' H'
theorem pss_join {X : Cx} {st : Stmt} {rest : List Stmt} {t u : TS} (h1 : PS X st t) (h2 : PSs X rest u) : PSs X (st :: rest) (tJoin t u) := by
  intro pins s σ H D I h
  obtain ⟨J, hj, hr⟩ := h
  refine wpAny_execs_cons (thn (h1 pins s σ H { D with nx := J } I hj) fun f s1 q => ?_)
  cases f with
  | next =>
    obtain ⟨σ', H', I', q⟩ := q
    exact h2 pins s1 σ' H' D I' (hr σ' H' q)
  | ret v => exact q
  | brk => exact q
  | cont => exact q
/-! ### equal values -/
theorem same_new {H : Hp} {p : Addr} (h : H p = none) (o : HO) : Same H (upd H p o) := fun b u q => by rw [upd_ne (ne_of_none q h)]; exact q
theorem same_upd {H H' : Hp} {p : Addr} {o : HO} (s : Same H H') (h : H p = none) : Same H (upd H' p o) := fun b u q => by rw [upd_ne (ne_of_none q h)]; exact s b u q
theorem sizeBig {n : Nat} (h : n ≤ 100000) : n < sizeLine := Nat.lt_of_le_of_lt h (by decide)
/-- '0', '1', '-' by their codes -/
def RowL (l : List Nat) : Prop := ∀ c ∈ l, c = 48 ∨ c = 49 ∨ c = 45
theorem RowL.nil : RowL [] := fun _ h => nomatch h
theorem RowL.snoc {l : List Nat} {c : Nat} (h : RowL l) (hc : c = 48 ∨ c = 49 ∨ c = 45) : RowL (l ++ [c]) := fun d hd => by
  rcases List.mem_append.mp hd with q | q
  · exact h d q
  · rw [List.mem_singleton.mp q]
    exact hc
end L2


namespace L2
open PySem PySem.Spec PyProof.Rows
/-! ### readings that compute -/
section
variable {X : Cx}
theorem PE.imp {e : Expr} {t t' : TE} (h : PE X e t) (k : ∀ σ H Q, t' σ H Q → t σ H Q) : PE X e t' := fun pins s σ H Q I q => h pins s σ H Q I (k σ H Q q)
theorem PT.imp {e : Expr} {t t' : TT} (h : PT X e t) (k : ∀ σ H Q, t' σ H Q → t σ H Q) : PT X e t' := fun pins s σ H Q I q => h pins s σ H Q I (k σ H Q q)
theorem PI.imp {tg e : Expr} {t t' : TI} (h : PI X tg e t) (k : ∀ σ H Q, t' σ H Q → t σ H Q) : PI X tg e t' := fun pins s σ H Q I q => h pins s σ H Q I (k σ H Q q)
theorem PG.imp {e : Expr} {t t' : TG} (h : PG X e t) (k : ∀ v σ H Q, t' v σ H Q → t v σ H Q) : PG X e t' := fun pins s σ H v u Q I r q => h pins s σ H v u Q I r (k v σ H Q q)
theorem OpR.imp {f : Value → Value → Sem Value} {r r' : R2} (h : OpR X f r) (k : ∀ x y H Q, r' x y H Q → r x y H Q) : OpR X f r' := fun pins s σ H x y v u Q I rx ry q => h pins s σ H x y v u Q I rx ry (k x y H Q q)
theorem CallR.imp {f : Value} {r r' : List V → Hp → VK → Prop} (h : CallR X f r) (k : ∀ xs H Q, r' xs H Q → r xs H Q) : CallR X f r' := fun pins s σ H xs us Q I r q => h pins s σ H xs us Q I r (k xs H Q q)
theorem IxR.imp {r r' : R2} (h : IxR X r) (k : ∀ x y H Q, r' x y H Q → r x y H Q) : IxR X r' := fun a b pins s σ H x y v u Q I rx ry q => h a b pins s σ H x y v u Q I rx ry (k x y H Q q)
theorem MtR.imp {id : String} {r r' : V → List V → Hp → VK → Prop} (h : MtR X id r) (k : ∀ x xs H Q, r' x xs H Q → r x xs H Q) : MtR X id r' := fun pins s σ H x xs v us Q I rx r q => h pins s σ H x xs v us Q I rx r (k x xs H Q q)
theorem SlR.imp {r r' : V → Option Int → Option Int → Hp → VK → Prop} (h : SlR X r) (k : ∀ x a b H Q, r' x a b H Q → r x a b H Q) : SlR X r' := fun pins s σ H x v vl vu lo hi sl Q I rx hs pl pu q => h pins s σ H x v vl vu lo hi sl Q I rx hs pl pu (k x lo hi H Q q)
def cVar (i : Nat) : TE := fun σ H Q => match σ[i]? with | some (some v) => Q v H | _ => False
theorem qv (i : Nat) {x : Str} {pos : Pos} (hN : X.N[i]? = some x := by rfl) (hv : Vis X.env.scope x := by first | exact Or.inl rfl | exact Or.inr (Or.inl rfl) | exact Or.inr (Or.inr rfl)) (hd : (x == ("__debug__" : Str)) = false := by decide)
    (hcd : (x == ("__classdict__" : Str)) = false := by decide) : PE X (.Name x pos) (cVar i) := (pe_var hN hv hd hcd).imp fun σ H Q q => by
  unfold cVar at q
  split at q
  · exact ⟨_, by assumption, q⟩
  · exact q.elim
/-- a written text, by its codes -/
theorem qs (l : List Nat) {x : Str} {j pos} (h : x = st l := by decide +kernel) : PE X (.Constant (.str x) j pos) (tC (.str (st l))) := by
  rw [← h]
  exact pe_str
theorem st_eta (a : Str) : st a.cps.toList = a := by simp
def kAdd : R2 := fun x y H Q => match x, y with
  | .int i, .int j => Q (.int (i + j)) H
  | .str a, .str b => a.cps.toList.length + b.cps.toList.length ≤ 100000 ∧ Q (.str (st (a.cps.toList ++ b.cps.toList))) H
  | .ref l, .ref b => ∃ xs zs, H l = some (.lst xs) ∧ H b = some (.lst zs) ∧ xs.length + zs.length ≤ sizeLine ∧ ∀ p, H p = none → Q (.ref p) (upd H p (.lst (xs ++ zs)))
  | _, _ => False
theorem op_addK : OpR X (binaryOp .Add) kAdd := by
  intro pins s σ H x y v u Q I rx ry q
  unfold kAdd at q
  split at q
  · exact op_add pins s σ H _ _ v u Q I rx ry ⟨_, _, rfl, rfl, q⟩
  · obtain ⟨h, q⟩ := q
    refine op_add_str pins s σ H _ _ v u Q I rx ry ⟨_, _, rfl, rfl, ?_, ?_⟩
    · have : (100000 : Nat) ≤ sizeLine := by decide
      simp only [Array.length_toList] at h
      simp only [Str.length]
      omega
    · rename_i a b
      have e : a ++ b = st (a.cps.toList ++ b.cps.toList) := by
        rw [← st_app, st_eta, st_eta]
      rw [e]
      exact q
  · obtain ⟨xs, zs, h1, h2, h3, q⟩ := q
    exact op_cat pins s σ H _ _ v u Q I rx ry ⟨_, _, _, _, rfl, rfl, h1, h2, h3, q⟩
  · exact q.elim
def kI (C : Int → Int → Prop) (g : Int → Int → V) : R2 := fun x y H Q => match x, y with
  | .int i, .int j => C i j ∧ Q (g i j) H
  | _, _ => False
def kI0 (g : Int → Int → V) : R2 := fun x y H Q => match x, y with
  | .int i, .int j => Q (g i j) H
  | _, _ => False
theorem kI_imp {C : Int → Int → Prop} {g : Int → Int → V} : ∀ x y H Q, kI C g x y H Q → rI C g x y H Q := fun x y H Q q => by
  unfold kI at q
  split at q
  · exact ⟨_, _, rfl, rfl, q.1, q.2⟩
  · exact q.elim
theorem kI0_imp {g : Int → Int → V} : ∀ x y H Q, kI0 g x y H Q → rI0 g x y H Q := fun x y H Q q => by
  unfold kI0 at q
  split at q
  · exact ⟨_, _, rfl, rfl, q⟩
  · exact q.elim
abbrev kSub : R2 := kI0 fun i j => .int (i - j)
abbrev kMod : R2 := kI (fun _ j => 0 < j) fun i j => .int (i % j)
abbrev kFdiv : R2 := kI CDiv fun i j => .int (i / j)
theorem op_subK : OpR X (binaryOp .Sub) kSub := op_sub.imp kI0_imp
theorem op_modK : OpR X (binaryOp .Mod) kMod := op_mod.imp kI_imp
theorem op_fdivK : OpR X (binaryOp .FloorDiv) kFdiv := op_fdiv.imp kI_imp
def kMul : R2 := fun x y H Q => match x, y with
  | .int i, .int j => CMul i j ∧ Q (.int (i * j)) H
  | .str a, .int n => ∃ c, a.cps.toList = [c] ∧ 0 ≤ n ∧ n ≤ 10000 ∧ Q (.str (st (List.replicate n.toNat c))) H
  | .ref l, .int k => ∃ xs, H l = some (.lst xs) ∧ 0 ≤ k ∧ k ≤ 10000 ∧ xs.length = 1 ∧ ∀ p, H p = none → Q (.ref p) (upd H p (.lst (List.replicate k.toNat xs).flatten))
  | _, _ => False
theorem mulOk_one (k n : Nat) (hn : n ≤ 10000) : MulOk ⟨#[k]⟩ (n : Int) := by
  have hl : (⟨#[k]⟩ : Str).length = 1 := rfl
  refine ⟨?_, fun _ _ => ?_, fun _ _ => ?_⟩
  · rw [decide_eq_false (by omega), decide_eq_false (by omega)]
    rfl
  · rw [hl]
    intro z
    have : (2 ^ 63 - 1) / (n : Int) < 1 := by omega
    have h2 : (n : Int) ≤ 10000 := by omega
    have h1 : ¬ (n : Int) < 1 := by assumption
    have h3 : 1 ≤ (2 ^ 63 - 1) / (n : Int) := by
      rw [Int.le_ediv_iff_mul_le (by omega)]
      omega
    omega
  · rw [hl]
    unfold PySem.Builtin.Str.tooLong sizeLine
    exact decide_eq_false (by rw [Int.toNat_natCast]; have : (2 : Nat) ^ 24 = 16777216 := by decide
                              omega)
theorem op_mulK : OpR X (binaryOp .Mult) kMul := by
  intro pins s σ H x y v u Q I rx ry q
  unfold kMul at q
  split at q
  · exact op_mul pins s σ H _ _ v u Q I rx ry ⟨_, _, rfl, rfl, q.1, q.2⟩
  · obtain ⟨c, e, h0, h1, q⟩ := q
    rename_i a n
    obtain ⟨k, rfl⟩ : ∃ k : Nat, n = k := ⟨n.toNat, by omega⟩
    have ea : a = ⟨#[c]⟩ := by rw [← st_eta a, e]
    subst ea
    refine op_mul_str pins s σ H _ _ v u Q I rx ry ⟨_, _, rfl, rfl, mulOk_one c k (by omega), ?_⟩
    rw [mul1]
    exact q
  · obtain ⟨xs, h1, h2, h3, h4, q⟩ := q
    refine op_rep pins s σ H _ _ v u Q I rx ry ⟨_, _, _, rfl, rfl, h1, by omega, by omega, ?_, q⟩
    have : (10000 : Nat) ≤ sizeLine := by decide
    rw [h4]
    omega
  · exact q.elim
/-! comparisons -/
def kEq (neg : Bool) : R2 := fun x y H Q => match x, y with
  | .int i, .int j => Q (.bl (neg ^^ decide (i = j))) H
  | .str a, .str b => Q (.bl (neg ^^ decide (a.cps.toList = b.cps.toList))) H
  | .bl a, .bl b => Q (.bl (neg ^^ decide (a = b))) H
  | .non, .non => Q (.bl (neg ^^ true)) H
  | .non, .int _ => Q (.bl (neg ^^ false)) H
  | .int _, .non => Q (.bl (neg ^^ false)) H
  | .non, .str _ => Q (.bl (neg ^^ false)) H
  | .str _, .non => Q (.bl (neg ^^ false)) H
  | _, _ => False
theorem V_str_eq (a b : Str) : decide (V.str a = V.str b) = decide (a.cps.toList = b.cps.toList) := by
  by_cases h : a.cps.toList = b.cps.toList
  · have : a = b := by rw [← st_eta a, h, st_eta]
    subst this
    simp
  · rw [decide_eq_false h, decide_eq_false (fun z => h (by cases z; rfl))]
theorem kEq_eq : ∀ x y H Q, kEq false x y H Q → rEq x y H Q := fun x y H Q q => by
  unfold kEq at q
  split at q <;> first
    | exact q.elim
    | (refine ⟨rfl, ?_⟩
       first
       | (rw [V_str_eq]; simpa using q)
       | simpa using q)
theorem kEq_ne : ∀ x y H Q, kEq true x y H Q → rNe x y H Q := fun x y H Q q => by
  unfold kEq at q
  split at q <;> first
    | exact q.elim
    | (refine ⟨rfl, ?_⟩
       first
       | (rw [V_str_eq]; simpa using q)
       | simpa using q)
theorem op_eqK : OpR X (compareOp .Eq) (kEq false) := op_eq.imp kEq_eq
theorem op_neK : OpR X (compareOp .NotEq) (kEq true) := op_ne.imp kEq_ne
abbrev kLt : R2 := kI0 fun i j => .bl (decide (i < j))
abbrev kLe : R2 := kI0 fun i j => .bl (decide (i ≤ j))
abbrev kGt : R2 := kI0 fun i j => .bl (decide (j < i))
abbrev kGe : R2 := kI0 fun i j => .bl (decide (j ≤ i))
theorem op_ltK : OpR X (compareOp .Lt) kLt := op_lt.imp kI0_imp
theorem op_leK : OpR X (compareOp .LtE) kLe := op_le.imp kI0_imp
theorem op_gtK : OpR X (compareOp .Gt) kGt := op_gt.imp kI0_imp
theorem op_geK : OpR X (compareOp .GtE) kGe := op_ge.imp kI0_imp
/-- is None, is True, .. -/
def kIs (neg : Bool) : R2 := fun x y H Q => match y with
  | .non => Q (.bl (neg ^^ decide (x = .non))) H
  | _ => False
theorem op_isnotK : OpR X (compareOp .IsNot) (kIs true) := op_notN.imp fun x y H Q q => by
  unfold kIs at q
  split at q
  · exact ⟨rfl, by simpa using q⟩
  · exact q.elim
/-- one sign in a text; a flat thing in a list or tuple of flat ones -/
def kIn (K : PySem.W.Frag) (neg : Bool) : R2 := fun x y H Q => match x, y with
  | .str a, .str b => ∃ c, a.cps.toList = [c] ∧ Q (.bl (neg ^^ decide (c ∈ b.cps.toList))) H
  | x, .ref p => ∃ xs, (SqL K H p xs ∨ SqT K H p xs) ∧ flatV x = true ∧ xs.all flatV = true ∧ Q (.bl (neg ^^ inV x xs)) H
  | _, _ => False
theorem op_inK : OpR X (compareOp .In) (kIn X.K false) := by
  intro pins s σ H x y v u Q I rx ry q
  unfold kIn at q
  split at q
  · obtain ⟨c, e, q⟩ := q
    rename_i a b
    have ea : a = ⟨#[c]⟩ := by rw [← st_eta a, e]
    subst ea
    refine op_in_str pins s σ H _ _ v u Q I rx ry ⟨_, _, rfl, rfl, ?_⟩
    rw [StrLaws.found_one]
    simpa using q
  · obtain ⟨xs, h1, h2, h3, q⟩ := q
    exact op_in_seq pins s σ H _ _ v u Q I rx ry ⟨_, _, rfl, h1, h2, h3, by simpa using q⟩
  · exact q.elim
theorem op_notinK : OpR X (compareOp .NotIn) (kIn X.K true) := by
  intro pins s σ H x y v u Q I rx ry q
  unfold kIn at q
  split at q
  · obtain ⟨c, e, q⟩ := q
    rename_i a b
    have ea : a = ⟨#[c]⟩ := by rw [← st_eta a, e]
    subst ea
    refine op_notin_str pins s σ H _ _ v u Q I rx ry ⟨_, _, rfl, rfl, ?_⟩
    rw [StrLaws.found_one]
    simpa using q
  · obtain ⟨xs, h1, h2, h3, q⟩ := q
    exact op_notIn_seq pins s σ H _ _ v u Q I rx ry ⟨_, _, rfl, h1, h2, h3, by simpa using q⟩
  · exact q.elim
/-- an item of a text, a list, a tuple -/
def kIx (K : PySem.W.Frag) : R2 := fun x y H Q => match x, y with
  | .str z, .int i => z.cps.toList.length ≤ 100000 ∧ ∃ c, atI z.cps.toList i = some c ∧ Q (.str (st [c])) H
  | .ref p, .int i => ∃ xs v, (SqL K H p xs ∨ SqT K H p xs) ∧ atI xs i = some v ∧ Q v H
  | _, _ => False
theorem big5 : (100000 : Nat) ≤ sizeLine := by decide
theorem strlen (z : Str) : z.length = z.cps.toList.length := by simp [Str.length]
theorem ix_K : IxR X (kIx X.K) := ix_seq.imp fun x y H Q q => by
  unfold kIx at q
  split at q
  · obtain ⟨h, c, e, q⟩ := q
    exact .inr (.inr ⟨_, _, c, rfl, rfl, by rw [strlen]; exact Nat.le_trans h big5, e, q⟩)
  · obtain ⟨xs, v, h | h, e, q⟩ := q
    · exact .inl ⟨_, _, _, _, rfl, rfl, h, e, q⟩
    · exact .inr (.inl ⟨_, _, _, _, rfl, rfl, h, e, q⟩)
  · exact q.elim
/-- len -/
def kLen (K : PySem.W.Frag) : List V → Hp → VK → Prop := fun xs H Q => match xs with
  | [.str z] => z.cps.toList.length ≤ 100000 ∧ Q (.int z.cps.toList.length) H
  | [.ref p] => ∃ ys, (SqL K H p ys ∨ SqT K H p ys) ∧ Q (.int ys.length) H
  | _ => False
theorem call_lenK : CallR X (.builtin "len") (kLen X.K) := by
  intro pins s σ H xs us Q I r q
  unfold kLen at q
  split at q
  · obtain ⟨h, q⟩ := q
    refine call_len_str pins s σ H _ us Q I r ⟨_, rfl, by rw [strlen]; exact Nat.le_trans h big5, ?_⟩
    rw [strlen]
    exact q
  · obtain ⟨ys, h, q⟩ := q
    exact call_len_seq pins s σ H _ us Q I r ⟨_, _, rfl, h, q⟩
  · exact q.elim
/-! weaker ends -/
def up (t : TE) : TE := fun σ H Q => ∃ Q0 : VK, t σ H Q0 ∧ ∀ v H', Q0 v H' → Q v H'
def up2 (r : R2) : R2 := fun x y H Q => ∃ Q0 : VK, r x y H Q0 ∧ ∀ v H', Q0 v H' → Q v H'
theorem EP.imp {pins : List (Addr × Obj)} {σ : St} {Q Q' : VK} {u : Value} {s : Shared} (h : EP X pins σ Q u s) (k : ∀ v H', Q v H' → Q' v H') : EP X pins σ Q' u s := by
  obtain ⟨v, H', I, r, q⟩ := h
  exact ⟨v, H', I, r, k v H' q⟩
theorem PE.mono {e : Expr} {t : TE} (h : PE X e t) : PE X e (up t) := fun pins s σ H Q I ⟨Q0, q, k⟩ => thn (h pins s σ H Q0 I q) fun u s' z => z.imp k
theorem OpR.mono {f : Value → Value → Sem Value} {r : R2} (h : OpR X f r) : OpR X f (up2 r) := fun pins s σ H x y v u Q I rx ry ⟨Q0, q, k⟩ => thn (h pins s σ H x y v u Q0 I rx ry q) fun u s' z => z.imp k
/-! tests -/
/-- a bool is wanted -/
def blK (Q : Bool → Hp → Prop) : VK := fun x H' => match x with | .bl k => Q k H' | _ => False
theorem blK_ex {Q : Bool → Hp → Prop} {x : V} {H' : Hp} (h : blK Q x H') : ∃ k, x = .bl k ∧ Q k H' := by
  unfold blK at h
  split at h
  · exact ⟨_, rfl, h⟩
  · exact h.elim
def cTest (t : TE) : TT := fun σ H Q => t σ H (blK Q)
theorem qt_val {e : Expr} {t : TE} (h : PE X e t) (he : ∀ whole, isTrue e X.env whole = (do let v ← whole; standAt e.pos; holding [v] (truthy v)) := by intro _; rfl) : PT X e (cTest t) :=
  (pt_val h.mono he).imp fun σ H Q q => ⟨_, q, fun v H' z => blK_ex z⟩
variable {a b c : Expr} {ta tb tc : TE} {pos : Pos} {rest : List Expr}
theorem qt_cmp {op : CmpOp} {r : R2} (ho : OpR X (compareOp op) r) (ha : PE X a ta) (hb : PE X b tb) (hm : behindInMarks op b = false := by first | exact nomark _ | rfl) : PT X (.Compare a [op] [b] pos) (cTest (tOp r ta tb)) :=
  (pt_cmpR ho.mono ha.mono hb.mono hm).imp fun σ H Q q => ⟨_, q, fun x H1 z => ⟨_, z, fun y H2 z2 => ⟨_, z2, fun v H' z3 => blK_ex z3⟩⟩⟩
theorem qe_cmp {op : CmpOp} {r : R2} (ho : OpR X (compareOp op) r) (ha : PE X a ta) (hb : PE X b tb) (hm : behindInMarks op b = false := by first | exact nomark _ | rfl) : PE X (.Compare a [op] [b] pos) (tOp r ta tb) := pe_cmpR ho ha hb hm
def cAndV (ta tb : TE) : TE := fun σ H Q => ta σ H (blK fun c H1 => if c = true then tb σ H1 Q else Q (.bl false) H1)
def cOrV (ta tb : TE) : TE := fun σ H Q => ta σ H (blK fun c H1 => if c = true then Q (.bl true) H1 else tb σ H1 Q)
def cNotV (ta : TE) : TE := fun σ H Q => ta σ H (blK fun c H1 => Q (.bl (!c)) H1)
/-! ### methods -/
variable {o e : Expr} {to te : TE} {apos cpos : Pos}
/-- xs.append(e) -/
def cApp (to te : TE) : TE := fun σ H Q => to σ H fun x H1 => match x with
  | .ref l => (∃ xs, H1 l = some (.lst xs)) ∧ te σ H1 fun y H2 => ∃ xs, H2 l = some (.lst xs) ∧ xs.length < sizeLine ∧ Q .non (upd H2 l (.lst (xs ++ [y])))
  | _ => False
theorem qe_append (ho : PE X o to) (he : PE X e te) (hbase : attributeBase o "append" X.env (eval o X.env) = eval o X.env := by rfl)
    (hfew : ((backTo cpos (starEach [e] X.env)).all (fun x => !x.1) && (backToKw cpos (keywordEach [] X.env)).all (fun x => x.1.isSome)
      && decide ([e].length + ([] : List Keyword).length + (if ([] : List Keyword).isEmpty then 0 else 1) < 30)) = true := by rfl)
    (hline : (apos.endLine == cpos.line) = true := by rfl) (hs : starEach [e] X.env = (false, eval e X.env) :: starEach [] X.env := by rfl) (hplain : (backTo cpos (starEach [] X.env)).any (·.1) = false := by rfl) :
    PE X (.Call (.Attribute o "append" apos) [e] [] cpos) (cApp to te) :=
  (pe_bm PySem.F.plainAttrs_list PySem.F.slot_list_append PySem.F.type_list_append mt_append ho.mono (pa_cons he.mono pa_nil hs) hbase hfew hline hs hplain).imp fun σ H Q q => ⟨_, q, fun x H1 z => by
    split at z
    · rename_i l
      obtain ⟨⟨xs, h⟩, z⟩ := z
      refine ⟨.inl ⟨rfl, _, SqL.of h⟩, _, z, fun y H2 z2 => ?_⟩
      obtain ⟨xs2, h2, h3, z3⟩ := z2
      exact ⟨l, xs2, y, rfl, rfl, h2, h3, z3⟩
    · exact z.elim⟩
/-- ''.join(list of signs) -/
def cJoin1 (K : PySem.W.Frag) (te : TE) : TE := fun σ H Q => te σ H fun x H1 => match x with
  | .ref l => ∃ cs : List Nat, SqL K H1 l (cs.map fun k => V.str (st [k])) ∧ cs.length ≤ 10000 ∧ Q (.str (st cs)) H1
  | _ => False
theorem qe_join1 {j : Nat} {p1 : Pos} (he : PE X e te) (hfew : ((backTo cpos (starEach [e] X.env)).all (fun x => !x.1) && (backToKw cpos (keywordEach [] X.env)).all (fun x => x.1.isSome)
      && decide ([e].length + ([] : List Keyword).length + (if ([] : List Keyword).isEmpty then 0 else 1) < 30)) = true := by rfl)
    (hline : (apos.endLine == cpos.line) = true := by rfl) (hs : starEach [e] X.env = (false, eval e X.env) :: starEach [] X.env := by rfl) (hplain : (backTo cpos (starEach [] X.env)).any (·.1) = false := by rfl)
    (hbase : attributeBase (.Constant (.str (Str.ofString "")) j p1) "join" X.env (eval (.Constant (.str (Str.ofString "")) j p1) X.env) = eval (.Constant (.str (Str.ofString "")) j p1) X.env := by rfl) :
    PE X (.Call (.Attribute (.Constant (.str (Str.ofString "")) j p1) "join" apos) [e] [] cpos) (cJoin1 X.K te) :=
  (pe_bm PySem.F.plainAttrs_str PySem.F.slot_str_join PySem.F.type_str_join mt_join1 pe_str (pa_cons he.mono pa_nil hs) hbase hfew hline hs hplain).imp fun σ H Q q => ⟨rfl, _, q, fun x H1 z => by
    split at z
    · obtain ⟨cs, h, h2, z⟩ := z
      exact ⟨_, cs, rfl, rfl, h, h2, z⟩
    · exact z.elim⟩
end
end L2


namespace L2
open PySem PySem.Spec PyProof.Rows
section
variable {X : Cx} {tg a b e : Expr} {te ta tb : TE} {pos p : Pos}
/-! ### what a loop walks -/
/-- a text, a list or a tuple -/
def cIter (K : PySem.W.Frag) (te : TE) : TI := fun σ H R => te σ H fun x H1 => match x with
  | .str z => R (Its z) H1
  | .ref a => ((∃ xs, SqL K H1 a xs) ∧ R (Itl K a) H1) ∨ ((∃ xs, SqT K H1 a xs) ∧ R (Itt K a) H1)
  | _ => False
theorem qi_iter (he : PE X e te) : PI X tg e (cIter X.K te) := by
  intro pins s σ H R I h
  refine thn (he pins s σ H _ I h) fun v s1 ⟨y, H1, I1, r1, q1⟩ => ?_
  dsimp only at q1
  split at q1
  · rename_i x
    obtain ⟨t, rfl⟩ := r1
    refine wpAny_pyIter_strU ?_
    refine ⟨s1.heap.objs.size, [s1.heap.objs.size], _, Its x, H1, rfl, I1.kept (t' := s1.toks) fun b o e => Heap.get?_push_of_some _ e, turn_str x t _, ⟨_, Heap.get?_push_size _ rfl, rfl, rfl⟩, fun b hb => ?_, q1⟩
    have e : b = s1.heap.objs.size := by simpa using hb
    subst e
    exact I1.fpOk (Nat.le_refl _) (I1.hok.fresh (Nat.le_refl _))
  · rename_i l
    cases r1
    rcases q1 with ⟨⟨xs, hq⟩, q⟩ | ⟨⟨xs, hq⟩, q⟩
    · obtain ⟨its, rv, p, hz⟩ := I1.list hq
      refine wpAny_pyIter_list p.isList ?_
      refine ⟨s1.heap.objs.size, [s1.heap.objs.size], _, _, H1, rfl, I1.kept (t' := s1.toks) fun b o e => Heap.get?_push_of_some _ e, turn_list l _, ⟨_, Heap.get?_push_size _ rfl, rfl, rfl⟩, fun b hb => ?_, q⟩
      have e : b = s1.heap.objs.size := by simpa using hb
      subst e
      exact I1.fpOk (Nat.le_refl _) (I1.hok.fresh (Nat.le_refl _))
    · obtain ⟨its, rv, p, hz⟩ := I1.tuple hq
      refine wpAny_pyIter_tuple (show s1.heap.IsTuple l its.toArray from p) ?_
      refine ⟨s1.heap.objs.size, [s1.heap.objs.size], _, _, H1, rfl, I1.kept (t' := s1.toks) fun b o e => Heap.get?_push_of_some _ e, turn_tuple l _, ⟨_, Heap.get?_push_size _ rfl, rfl, rfl⟩, fun b hb => ?_, q⟩
      have e : b = s1.heap.objs.size := by simpa using hb
      subst e
      exact I1.fpOk (Nat.le_refl _) (I1.hok.fresh (Nat.le_refl _))
  · exact q1.elim
def cRng1 (te : TE) : TI := fun σ H R => te σ H fun x H1 => match x with
  | .int j => -1000000 ≤ j ∧ j ≤ 1000000 ∧ R (Itr 0 j.toNat) H1
  | _ => False
theorem qi_range1 (hg : Gl X "range") (hm : X.mg "range" = none) (ha : PE X a ta) (hs : starEach [a] X.env = [(false, eval a X.env)] := by rfl) : PI X tg (.Call (.Name "range" p) [a] [] pos) (cRng1 ta) :=
  (pi_range1 hg hm (pa_cons ha.mono pa_nil hs) hs).imp fun σ H R q => ⟨_, q, fun x H1 z => by
    split at z
    · exact ⟨_, rfl, by omega, by omega, z.2.2⟩
    · exact z.elim⟩
def cRng2 (ta tb : TE) : TI := fun σ H R => ta σ H fun x H1 => tb σ H1 fun y H2 => match x, y with
  | .int i, .int j => (-1000000 ≤ i ∧ i ≤ 1000000 ∧ -1000000 ≤ j ∧ j ≤ 1000000) ∧ R (Itr i (j - i).toNat) H2
  | _, _ => False
def srcK (K : PySem.W.Frag) (H : Hp) (v : V) (R : Src → Prop) : Prop := match v with
  | .str x => R (.str x)
  | .ref a => (∃ xs, SqL K H a xs) ∧ R (.lst a)
  | _ => False
theorem srcK_ex {K : PySem.W.Frag} {H : Hp} {v : V} {R : Src → Prop} (h : srcK K H v R) : ∃ S, SrcOf K H S v ∧ R S := by
  unfold srcK at h
  split at h
  · exact ⟨.str _, rfl, h⟩
  · exact ⟨.lst _, ⟨rfl, h.1⟩, h.2⟩
  · exact h.elim
def cZip (K : PySem.W.Frag) (ta tb : TE) : TI := fun σ H R => ta σ H fun x H1 => tb σ H1 fun y H2 => srcK K H2 x fun S1 => srcK K H2 y fun S2 => R (Itz K S1 S2) H2
theorem qi_zip {elts : List Expr} {kk : Nat} {tpos : Pos} (hg : Gl X "zip") (hm : X.mg "zip" = none) (ha : PE X a ta) (hb : PE X b tb) (hs : starEach [a, b] X.env = [(false, eval a X.env), (false, eval b X.env)] := by rfl) (hs2 : starEach [b] X.env = [(false, eval b X.env)] := by rfl) :
    PI X (.Tuple elts kk tpos) (.Call (.Name "zip" p) [a, b] [] pos) (cZip X.K ta tb) :=
  (pi_zip hg hm (pa_cons ha.mono (pa_cons hb.mono pa_nil hs2) (by rw [hs, hs2])) hs hs2).imp fun σ H R q => ⟨_, q, fun x H1 z => ⟨_, z, fun y H2 z => by
    obtain ⟨S1, o1, z⟩ := srcK_ex z
    obtain ⟨S2, o2, z⟩ := srcK_ex z
    exact ⟨S1, S2, x, y, rfl, o1, o2, z⟩⟩⟩
end
/-! ### loops -/
def loopW (J : It) (g : TG) (tb : TS) (D : Ends) (σ : St) (H : Hp) : Prop := ∃ W : Nat → Nat → St → Hp → Prop, (∃ m, W 0 m σ H) ∧ ∀ i m σ H, W i m σ H →
  (J.stop i H ∧ D.nx σ H) ∨ (J.go i H ∧ ∃ N : St → Hp → Prop, (∀ σ' H', N σ' H' → ∃ m', m' < m ∧ W (i + 1) m' σ' H') ∧ ∀ x H', J.yld i H x H' → g x σ H' fun σ2 H2 => tb { D with nx := N, ct := N, bk := D.nx } σ2 H2)
def cFor (wi : TI) (g : TG) (tb : TS) : TS := fun D σ H => wi σ H fun J H1 => loopW J g tb D σ H1
theorem qs_for {X : Cx} {tg iter : Expr} {body : List Stmt} {wi : TI} {g : TG} {tb : TS} {pos : Pos} (hp : PassesOwn (model X.prog X.w) X.A X.env X.xe) (hc : X.calm = true) (hi : PI X tg iter wi) (hg : PG X tg g) (hb : PSs X body tb)
    (hs : ∀ x, foldedSetIterable iter X.env x = pure x := by intro _; rfl) : PS X (.For tg iter body [] pos) (cFor wi g tb) := ps_for hp hc hi hg hb hs
section
variable {K : PySem.W.Frag} {g : TG} {tb : TS} {D : Ends} {σ : St} {H : Hp}
abbrev Ends.turn (D : Ends) (N : St → Hp → Prop) : Ends := { D with nx := N, ct := N, bk := D.nx }
theorem loop_list {p : Addr} {xs : List V} (Pv : Nat → St → Hp → Prop) (h0 : Pv 0 σ H) (hl : ∀ i σ H, i ≤ xs.length → Pv i σ H → SqL K H p xs)
    (hs : ∀ i x σ H, xs[i]? = some x → Pv i σ H → g x σ H fun σ2 H2 => tb (D.turn (Pv (i + 1))) σ2 H2) (hd : ∀ σ H, Pv xs.length σ H → D.nx σ H) : loopW (Itl K p) g tb D σ H := for_list Pv h0 hl hs hd
theorem loop_items {α : Type} (item : α → V) (xs : List α) {p : Addr} (Pv : Nat → St → Hp → Prop) (h0 : Pv 0 σ H) (hl : ∀ i σ H, i ≤ xs.length → Pv i σ H → SqL K H p (xs.map item))
    (hs : ∀ i x σ H, xs[i]? = some x → Pv i σ H → g (item x) σ H fun σ2 H2 => tb (D.turn (Pv (i + 1))) σ2 H2) (hd : ∀ σ H, Pv xs.length σ H → D.nx σ H) : loopW (Itl K p) g tb D σ H :=
  loop_list (xs := xs.map item) Pv h0 (fun i σ H hi => hl i σ H (by simpa using hi)) (fun i x σ H hx p => by
    rw [List.getElem?_map] at hx
    obtain ⟨y, hy, rfl⟩ := Option.map_eq_some_iff.mp hx
    exact hs i y σ H hy p) (fun σ H p => hd σ H (by simpa using p))
theorem loop_range {lo : Int} {n : Nat} (Pv : Nat → St → Hp → Prop) (h0 : Pv 0 σ H) (hs : ∀ i σ H, i < n → Pv i σ H → g (.int (lo + i)) σ H fun σ2 H2 => tb (D.turn (Pv (i + 1))) σ2 H2) (hd : ∀ σ H, Pv n σ H → D.nx σ H) :
    loopW (Itr lo n) g tb D σ H := for_range Pv h0 hs hd
/-- the values that a source of zip gives -/
def SrcVals (K : PySem.W.Frag) (H : Hp) : Src → List V → Prop
  | .str x, xs => xs = x.cps.toList.map fun c => V.str (st [c])
  | .lst a, xs => SqL K H a xs
theorem SrcVals.go {S : Src} {xs : List V} {i : Nat} (h : SrcVals K H S xs) (hi : i < xs.length) : SrcGo K H S i := by
  cases S with
  | str x =>
    have e : xs = x.cps.toList.map fun c => V.str (st [c]) := h
    subst e
    show i < x.cps.size
    simpa using hi
  | lst a => exact ⟨xs, xs[i], h, by simp [hi]⟩
theorem SrcVals.stop {S : Src} {xs : List V} {i : Nat} (h : SrcVals K H S xs) (hi : xs.length ≤ i) : SrcEnd K H S i := by
  cases S with
  | str x =>
    have e : xs = x.cps.toList.map fun c => V.str (st [c]) := h
    subst e
    show x.cps.size ≤ i
    simpa using hi
  | lst a => exact ⟨xs, h, hi⟩
theorem SrcVals.at {S : Src} {xs : List V} {i : Nat} {v : V} (h : SrcVals K H S xs) (q : SrcAt K H S i v) : xs[i]? = some v := by
  cases S with
  | str x =>
    have e : xs = x.cps.toList.map fun c => V.str (st [c]) := h
    subst e
    obtain ⟨c, hc, rfl⟩ := q
    simp [hc]
  | lst a => exact q xs h
theorem SqT.upd_same {p : Addr} {xs : List V} : SqT K (upd H p (.tup xs)) p xs := SqT.of L2.upd_same
theorem loop_zip {S1 S2 : Src} {xs ys : List V} {j k : Nat} (Pv : Nat → St → Hp → Prop) (h0 : Pv 0 σ H) (hl : ∀ i σ H, Pv i σ H → SrcVals K H S1 xs ∧ SrcVals K H S2 ys)
    (hs : ∀ i x y σ H T, xs[i]? = some x → ys[i]? = some y → Pv i σ H → H T = none → tb (D.turn (Pv (i + 1))) ((σ.set j (some x)).set k (some y)) (upd H T (.tup [x, y]))) (hd : ∀ σ H, Pv (min xs.length ys.length) σ H → D.nx σ H) :
    loopW (Itz K S1 S2) (gTup K 2 (gCons (gName j) (gCons (gName k) gNil))) tb D σ H :=
  for_it (n := min xs.length ys.length) Pv h0 (fun i σ H hi p => by
      obtain ⟨q1, q2⟩ := hl i σ H p
      exact ⟨q1.go (by omega), q2.go (by omega)⟩)
    (fun σ H p => by
      obtain ⟨q1, q2⟩ := hl _ σ H p
      by_cases h : xs.length ≤ ys.length
      · exact .inl (q1.stop (by omega))
      · exact .inr ⟨q1.go (by omega), q2.stop (by omega)⟩)
    (fun i σ H v H' hi p y => by
      obtain ⟨T, x, y, rfl, hT, rfl, s1, s2⟩ := y
      obtain ⟨q1, q2⟩ := hl i σ H p
      exact ⟨T, [x, y], rfl, SqT.upd_same, rfl, x, [y], rfl, y, [], rfl, rfl, hs i x y σ H T (q1.at s1) (q2.at s2) p hT⟩) hd
end
/-! ### comprehensions -/
def compW (J : It) (g : TG) (tc : TT) (te : TE) (σc : St) (D : Addr) (Q : VK) (H : Hp) : Prop :=
  ∃ W : Nat → Nat → List V → Hp → Prop, (∃ m, W 0 m [] (upd H D (.lst []))) ∧ ∀ i m acc H2, W i m acc H2 →
    (J.stop i H2 ∧ Q (.ref D) H2) ∨ (J.go i H2 ∧ ∀ x H3, J.yld i H2 x H3 → g x σc H3 fun σ4 H4 => tc σ4 H4 fun b H5 => if b = true then
      te σ4 H5 fun v H6 => H6 D = some (.lst acc) ∧ acc.length < sizeLine ∧ ∃ m', m' < m ∧ W (i + 1) m' (acc ++ [v]) (upd H6 D (.lst (acc ++ [v]))) else ∃ m', m' < m ∧ W (i + 1) m' acc H5)
def cComp (nt : Nat) (fi : List Nat) (wi : TI) (g : TG) (tc : TT) (te : TE) : TE := fun σ H Q => wi σ H fun J H1 => ∀ D, H1 D = none → compW J g tc te (compσ nt fi σ) D Q H1
theorem qe_comp {X : Cx} {elt tg iter : Expr} {ifs : List Expr} {scope : Scope} {pos : Pos} {wi : TI} {g : TG} {tc : TT} {te : TE} {nt : Nat} {fi : List Nat} {N' : List Str} (hcalm : X.calm = true)
    (S : CScope scope) (cn : CNames X scope nt fi N') (gk : GK nt g) (hi : PI X tg iter wi)
    (hg : ∀ cl C s H ex, PG (cxC X scope cl N' C s H ex) tg g) (hc : ∀ cl C s H ex, PIf (cxC X scope cl N' C s H ex) ifs tc) (he : ∀ cl C s H ex, PE (cxC X scope cl N' C s H ex) elt te)
    (hs : ∀ x, foldedSetIterable iter X.env x = pure x := by intro _; rfl) : PE X (.ListComp elt [⟨tg, iter, ifs, 0⟩] scope pos) (cComp nt fi wi g tc te) := pe_comp hcalm S cn gk hi hg hc he hs
section
variable {K : PySem.W.Frag} {J : It} {g : TG} {tc : TT} {te : TE} {σc : St} {D : Addr} {Q : VK} {H : Hp}
theorem range_flat_succ {α : Type} (f : Nat → List α) (n : Nat) : (List.range (n + 1)).flatMap f = (List.range n).flatMap f ++ f n := by
  rw [List.range_succ, List.flatMap_append]
  simp
theorem range_flat_len {α : Type} (f : Nat → List α) (hf : ∀ i, (f i).length ≤ 1) (n : Nat) : ((List.range n).flatMap f).length ≤ n := by
  induction n with
  | zero => simp
  | succ n ih =>
    rw [range_flat_succ, List.length_append]
    have := hf n
    omega
theorem comp_it {n : Nat} (f : Nat → List V) (hfree : H D = none) (hn : n ≤ 100000) (hf : ∀ i, (f i).length ≤ 1) (hy : ∀ i H x H', J.yld i H x H' → Same H H')
    (hgo : ∀ i H', i < n → Same H H' → J.go i H') (hst : ∀ H', Same H H' → J.stop n H')
    (hs : ∀ i H1 x H2 (out : VK) (non : Hp → Prop), i < n → Same H H1 → J.yld i H1 x H2 → (∀ v H6, f i = [v] → Same H2 H6 → out v H6) → (∀ H5, f i = [] → Same H2 H5 → non H5) →
      g x σc H2 fun σ4 H4 => tc σ4 H4 fun b H5 => if b = true then te σ4 H5 out else non H5)
    (hq : ∀ H', Same H H' → H' D = some (.lst ((List.range n).flatMap f)) → Q (.ref D) H') : compW J g tc te σc D Q H := by
  refine ⟨fun i m acc H2 => m = n - i ∧ i ≤ n ∧ acc = (List.range i).flatMap f ∧ Same H H2 ∧ H2 D = some (.lst acc), ⟨n, by simp, Nat.zero_le _, by simp, same_new hfree _, upd_same⟩, ?_⟩
  rintro i m acc H2 ⟨rfl, hi, rfl, sm, hD⟩
  by_cases hlt : i < n
  · refine .inr ⟨hgo i H2 hlt sm, fun x H3 y => ?_⟩
    have s23 := hy i H2 x H3 y
    refine hs i H2 x H3 _ _ hlt sm y (fun v H6 e s6 => ?_) fun H5 e s5 => ?_
    · refine ⟨s6 _ _ (s23 _ _ hD), Nat.lt_of_le_of_lt (range_flat_len f hf i) (sizeBig (by omega)), n - (i + 1), by omega, rfl, hlt, ?_, ?_, upd_same⟩
      · rw [range_flat_succ, e]
      · exact same_upd (sm.trans (s23.trans s6)) hfree
    · refine ⟨n - (i + 1), by omega, rfl, hlt, ?_, sm.trans (s23.trans s5), s5 _ _ (s23 _ _ hD)⟩
      rw [range_flat_succ, e, List.append_nil]
  · have e : i = n := by omega
    subst e
    exact .inl ⟨hst H2 sm, hq H2 sm hD⟩
def atH {α β : Type} (xs : List α) (h : α → List β) (i : Nat) : List β := ((xs[i]?).map h).getD []
theorem atH_some {α β : Type} {xs : List α} {h : α → List β} {i : Nat} {x : α} (e : xs[i]? = some x) : atH xs h i = h x := by simp [atH, e]
theorem atH_len {α β : Type} {xs : List α} {h : α → List β} (hf : ∀ x, (h x).length ≤ 1) (i : Nat) : (atH xs h i).length ≤ 1 := by
  unfold atH
  cases xs[i]? with
  | none => simp
  | some x => simpa using hf x
theorem flat_at {α β : Type} (xs : List α) (h : α → List β) : (List.range xs.length).flatMap (atH xs h) = xs.flatMap h := by
  induction xs with
  | nil => rfl
  | cons a xs ih =>
    rw [List.length_cons, List.range_succ_eq_map, List.flatMap_cons, List.flatMap_map, List.flatMap_cons, ← ih]
    rfl
section
variable {α : Type} (item : α → V) (xs : List α) (h : α → List V)
theorem comp_list {p : Addr} (hfree : H D = none) (hl : SqL K H p (xs.map item)) (hn : xs.length ≤ 100000) (hf : ∀ x, (h x).length ≤ 1)
    (hs : ∀ x H1 (out : VK) (non : Hp → Prop), x ∈ xs → Same H H1 → (∀ v H6, h x = [v] → Same H1 H6 → out v H6) → (∀ H5, h x = [] → Same H1 H5 → non H5) →
      g (item x) σc H1 fun σ4 H4 => tc σ4 H4 fun b H5 => if b = true then te σ4 H5 out else non H5)
    (hq : ∀ H', Same H H' → H' D = some (.lst (xs.flatMap h)) → Q (.ref D) H') : compW (Itl K p) g tc te σc D Q H := by
  refine comp_it (n := xs.length) (atH xs h) hfree hn (atH_len hf) (fun i H x H' y => ?_) (fun i H' hi s => ?_) (fun H' s => ?_) (fun i H1 x H2 out non hi s y ho hnn => ?_) fun H' s q => ?_
  · rw [y.1]
    exact Same.refl _
  · exact ⟨_, item xs[i], s.seq hl, by simp [hi]⟩
  · exact ⟨_, s.seq hl, by simp⟩
  · obtain ⟨rfl, y⟩ := y
    have e := y _ (s.seq hl)
    rw [List.getElem?_map, List.getElem?_eq_getElem hi] at e
    have e2 : item xs[i] = x := Option.some.inj e
    subst e2
    simp only [atH_some (List.getElem?_eq_getElem hi)] at ho hnn
    exact hs xs[i] _ out non (List.getElem_mem hi) s ho hnn
  · rw [flat_at] at q
    exact hq H' s q
theorem comp_range {lo : Int} {n : Nat} {h : Nat → List V} (hfree : H D = none) (hn : n ≤ 100000) (hf : ∀ x, (h x).length ≤ 1)
    (hs : ∀ i H1 (out : VK) (non : Hp → Prop), i < n → Same H H1 → (∀ v H6, h i = [v] → Same H1 H6 → out v H6) → (∀ H5, h i = [] → Same H1 H5 → non H5) →
      g (.int (lo + i)) σc H1 fun σ4 H4 => tc σ4 H4 fun b H5 => if b = true then te σ4 H5 out else non H5)
    (hq : ∀ H', Same H H' → H' D = some (.lst ((List.range n).flatMap h)) → Q (.ref D) H') : compW (Itr lo n) g tc te σc D Q H := by
  refine comp_it (n := n) h hfree hn hf (fun i H x H' y => ?_) (fun i H' hi s => hi) (fun H' s => Nat.le_refl _) (fun i H1 x H2 out non hi s y ho hnn => ?_) hq
  · rw [y.1]
    exact Same.refl _
  · obtain ⟨rfl, rfl⟩ := y
    exact hs i _ out non hi s ho hnn
end
end
/-! ### names of a comprehension -/
def cnOk (N : List Str) (sc scope : Scope) (nt : Nat) (fi : List Nat) (N' : List Str) : Bool :=
  N'.length == nt + fi.length && ((List.range fi.length).all fun k => match fi[k]? with
    | some j => match N'[nt + k]?, N[j]? with
      | some x, some y => x == y && scope.names.lookup x == some NameKind.free
      | _, _ => false
    | none => false) && scope.names.all fun y => y.2 != NameKind.free || (sc.names.lookup y.1 == some NameKind.cell || sc.names.lookup y.1 == some NameKind.free)
theorem cnames {X : Cx} {N : List Str} {sc scope : Scope} {nt : Nat} {fi : List Nat} {N' : List Str} (hN : X.N = N) (hsc : X.env.scope = sc) (h : cnOk N sc scope nt fi N' = true) : CNames X scope nt fi N' := by
  unfold cnOk at h
  simp only [Bool.and_eq_true, List.all_eq_true, List.mem_range, beq_iff_eq] at h
  obtain ⟨⟨h1, h2⟩, h3⟩ := h
  refine ⟨h1, fun k j e => ?_, fun y hy e => ?_⟩
  · have hk : k < fi.length := (List.getElem?_eq_some_iff.mp e).1
    have q := h2 k hk
    rw [e] at q
    dsimp only at q
    split at q
    · rename_i x y e1 e2
      simp only [Bool.and_eq_true, beq_iff_eq] at q
      obtain ⟨rfl, q⟩ := q
      exact ⟨_, e1, by rw [hN]; exact e2, q⟩
    · cases q
  · have q := h3 y hy
    rw [e] at q
    rw [hsc]
    simpa using q
theorem cscope {scope : Scope} (hk : scope.kind = .function) (h : (scope.names.all fun y => y.2 != NameKind.cell && (y.2 != NameKind.local || scope.names.lookup y.1 == some NameKind.local)) = true) : CScope scope := by
  simp only [List.all_eq_true, Bool.and_eq_true] at h
  refine ⟨hk, fun y hy e => ?_, fun y hy e => ?_⟩
  · have := (h y hy).1
    rw [e] at this
    exact absurd this (by decide)
  · have := (h y hy).2
    rw [e] at this
    simpa using this
end L2


namespace L2
open PySem PySem.Spec PyProof.Rows
/-! ### names of built-ins -/
theorem bb_len : bootBuiltins "len" = some (.builtin "len") := by decide +kernel
theorem bb_any : bootBuiltins "any" = some (.builtin "any") := by decide +kernel
theorem bb_max : bootBuiltins "max" = some (.builtin "max") := by decide +kernel
theorem bb_sorted : bootBuiltins "sorted" = some (.builtin "sorted") := by decide +kernel
theorem bb_isinstance : bootBuiltins "isinstance" = some (.builtin "isinstance") := by decide +kernel
theorem bb_int : bootBuiltins "int" = some (.type "int") := by decide +kernel
theorem bb_list : bootBuiltins "list" = some (.type "list") := by decide +kernel
theorem bb_tuple : bootBuiltins "tuple" = some (.type "tuple") := by decide +kernel
inductive Ty where
  | bool | int | str | list | tuple
def Ty.nm : Ty → String
  | .bool => "bool" | .int => "int" | .str => "str" | .list => "list" | .tuple => "tuple"
def Ty.isBl : Ty → Bool
  | .bool => true | .int => true | _ => false
def Ty.isInt : Ty → Bool
  | .int => true | _ => false
def Ty.isStr : Ty → Bool
  | .str => true | _ => false
def Ty.isLst : Ty → Bool
  | .list => true | _ => false
def Ty.isTup : Ty → Bool
  | .tuple => true | _ => false
section
variable {K : PySem.W.Frag}
theorem kit_non (n : Ty) : PySem.W.kitOne K (.type "NoneType") (.type n.nm) = some false := by cases n <;> with_unfolding_all rfl
theorem kit_bl (n : Ty) : PySem.W.kitOne K (.type "bool") (.type n.nm) = some n.isBl := by cases n <;> with_unfolding_all rfl
theorem kit_int (n : Ty) : PySem.W.kitOne K (.type "int") (.type n.nm) = some n.isInt := by cases n <;> with_unfolding_all rfl
theorem kit_str (n : Ty) : PySem.W.kitOne K (.type "str") (.type n.nm) = some n.isStr := by cases n <;> with_unfolding_all rfl
theorem kit_lst (n : Ty) : PySem.W.kitOne K (.type "list") (.type n.nm) = some n.isLst := by cases n <;> with_unfolding_all rfl
theorem kit_tup (n : Ty) : PySem.W.kitOne K (.type "tuple") (.type n.nm) = some n.isTup := by cases n <;> with_unfolding_all rfl
end
section
variable {X : Cx} {a b e : Expr} {ta tb te : TE} {pos p p2 : Pos}
theorem qe_ty {x : Str} {n : String} (hg : Gl X x) (hm : X.mg x = none) (hv : bootBuiltins x = some (.type n)) (hn : x ≠ "__name__" := by decide) (hd : (x == ("__debug__" : Str)) = false := by decide) : PE X (.Name x pos) (tC (.ty n)) := pe_bltn (v := .ty n) hg hm hv rfl hn hd
def cIsI (n : Ty) (ta : TE) : TE := fun σ H Q => ta σ H fun x H1 => match x with
  | .non => Q (.bl false) H1
  | .bl _ => Q (.bl n.isBl) H1
  | .int _ => Q (.bl n.isInt) H1
  | .str _ => Q (.bl n.isStr) H1
  | .ref p => ((∃ xs, H1 p = some (.lst xs)) ∧ Q (.bl n.isLst) H1) ∨ ((∃ xs, H1 p = some (.tup xs)) ∧ Q (.bl n.isTup) H1)
  | _ => False
theorem qe_isinst {x : Str} (n : Ty) (hg : Gl X "isinstance") (hm : X.mg "isinstance" = none) (ha : PE X a ta) (hg2 : Gl X x) (hm2 : X.mg x = none) (hv2 : bootBuiltins x = some (.type n.nm)) (hn2 : x ≠ "__name__" := by decide) (hd2 : (x == ("__debug__" : Str)) = false := by decide)
    (hs : starEach [a, .Name x p2] X.env = (false, eval a X.env) :: starEach [.Name x p2] X.env := by rfl) (hpl : (backTo pos (starEach [.Name x p2] X.env)).any (·.1) = false := by rfl) : PE X (.Call (.Name "isinstance" p) [a, .Name x p2] [] pos) (cIsI n ta) :=
  (pe_callB call_isinst hg hm bb_isinstance (pa_cons ha.mono (pa_cons (qe_ty hg2 hm2 hv2 hn2 hd2) pa_nil) hs) (he := hs) (hpl := hpl)).imp fun σ H Q q => ⟨_, q, fun v H1 z => by
    show ∃ x n t b, [v, V.ty _] = [x, .ty n] ∧ TyOf X.K H1 x t ∧ PySem.W.kitOne X.K t (.type n) = some b ∧ Q (.bl b) H1
    split at z
    · exact ⟨_, _, _, _, rfl, .non, kit_non n, z⟩
    · exact ⟨_, _, _, _, rfl, .bl _, kit_bl n, z⟩
    · exact ⟨_, _, _, _, rfl, .int _, kit_int n, z⟩
    · exact ⟨_, _, _, _, rfl, .str _, kit_str n, z⟩
    · rcases z with ⟨⟨xs, h⟩, z⟩ | ⟨⟨xs, h⟩, z⟩
      · exact ⟨_, _, _, _, rfl, .lst h, kit_lst n, z⟩
      · exact ⟨_, _, _, _, rfl, .tup h, kit_tup n, z⟩
    · exact z.elim⟩
/-- int(x): an int, a truth, a text of one figure -/
def kInt : List V → Hp → VK → Prop := fun xs H Q => match xs with
  | [.int i] => Q (.int i) H
  | [.bl k] => Q (.int (if k then 1 else 0)) H
  | [.str z] => ∃ c : Nat, z.cps.toList = [c] ∧ 48 ≤ c ∧ c ≤ 57 ∧ Q (.int ((c - 48 : Nat) : Int)) H
  | _ => False
theorem intText_one (c : Nat) (h0 : 48 ≤ c) (h1 : c ≤ 57) : PySem.intText? ⟨#[c]⟩ = some ((c - 48 : Nat) : Int) := by
  obtain ⟨d, rfl⟩ : ∃ d, c = 48 + d := ⟨c - 48, by omega⟩
  have h : d < 10 := by omega
  have hd : d = 0 ∨ d = 1 ∨ d = 2 ∨ d = 3 ∨ d = 4 ∨ d = 5 ∨ d = 6 ∨ d = 7 ∨ d = 8 ∨ d = 9 := by omega
  rcases hd with rfl | rfl | rfl | rfl | rfl | rfl | rfl | rfl | rfl | rfl <;> decide +kernel
theorem call_intK : CallR X (.type "int") kInt := by
  intro pins s σ H xs us Q I r q
  unfold kInt at q
  split at q
  · exact call_int1 pins s σ H _ us Q I r (.inl ⟨_, rfl, q⟩)
  · exact call_int1 pins s σ H _ us Q I r (.inr ⟨_, rfl, q⟩)
  · obtain ⟨c, e, h0, h1, q⟩ := q
    rename_i z
    have ea : z = ⟨#[c]⟩ := by rw [← st_eta z, e]
    subst ea
    exact call_int_txt pins s σ H _ us Q I r ⟨_, _, rfl, intText_one c h0 h1, (by decide : 1 ≤ 640), q⟩
  · exact q.elim
/-- slices: a text's beginning or end; a list's -/
def kSl (K : PySem.W.Frag) : V → Option Int → Option Int → Hp → VK → Prop := fun x lo hi H Q => match x with
  | .str z => match lo, hi with
    | none, some j => z.cps.toList.length ≤ 100000 ∧ 0 ≤ j ∧ j ≤ z.cps.toList.length ∧ Q (.str (st (z.cps.toList.take j.toNat))) H
    | some i, none => z.cps.toList.length ≤ 100000 ∧ 0 ≤ i ∧ i ≤ z.cps.toList.length ∧ Q (.str (st (z.cps.toList.drop i.toNat))) H
    | _, _ => False
  | .ref a => ∃ xs, SqL K H a xs ∧ ∀ p, H p = none → Q (.ref p) (upd H p (.lst (cutV xs lo hi)))
  | _ => False
theorem sl_K : SlR X (kSl X.K) := by
  refine (SlR.or sl_str sl_list).imp fun x lo hi H Q q => ?_
  unfold kSl at q
  split at q
  · rename_i z
    split at q
    · obtain ⟨h, h0, h1, q⟩ := q
      rename_i j
      obtain ⟨k, rfl⟩ : ∃ k : Nat, j = k := ⟨j.toNat, by omega⟩
      refine .inl ⟨z, rfl, by rw [strlen]; exact Nat.le_trans h big5, ?_⟩
      have e := slice_to z.cps.toList k (by omega)
      rw [st_eta] at e
      rw [e]
      simpa using q
    · obtain ⟨h, h0, h1, q⟩ := q
      rename_i j
      obtain ⟨k, rfl⟩ : ∃ k : Nat, j = k := ⟨j.toNat, by omega⟩
      refine .inl ⟨z, rfl, by rw [strlen]; exact Nat.le_trans h big5, ?_⟩
      have e := slice_from z.cps.toList k (by omega)
      rw [st_eta] at e
      rw [e]
      simpa using q
    · exact q.elim
  · obtain ⟨xs, h, q⟩ := q
    exact .inr ⟨_, _, rfl, h, q⟩
  · exact q.elim
/-- xs == [] -/
def kEqNil (K : PySem.W.Frag) : R2 := fun x y H Q => match x, y with
  | .ref a, .ref b => ∃ xs, SqL K H a xs ∧ SqL K H b [] ∧ Q (.bl (decide (xs = []))) H
  | _, _ => False
theorem op_eqL (hu : X.A.units < cLine) : OpR X (compareOp .Eq) (kEqNil X.K) := (op_eq_nil hu).imp fun x y H Q q => by
  unfold kEqNil at q
  split at q
  · obtain ⟨xs, h1, h2, q⟩ := q
    exact ⟨_, _, _, rfl, rfl, h1, h2, q⟩
  · exact q.elim
theorem hu1 {k : Nat} {A : Around} (hr : Room k A) : A.units < cLine := hr.units0
/-- is, of truths and None -/
def kIsB (neg : Bool) : R2 := fun x y H Q => match x, y with
  | .bl a, .bl b => Q (.bl (neg ^^ (a == b))) H
  | _, _ => False
def cNeg (ta : TE) : TE := fun σ H Q => ta σ H fun x H1 => match x with
  | .int i => Q (.int (-i)) H1
  | _ => False
theorem qe_neg (ha : PE X a ta) : PE X (.UnaryOp .USub a pos) (cNeg ta) := (pe_un un_neg ha.mono).imp fun σ H Q q => ⟨_, q, fun v H1 z => by
  split at z
  · exact ⟨_, rfl, z⟩
  · exact z.elim⟩
end
/-! ### with the fragment named (inside a comprehension's block) -/
section
variable {X : Cx} {a b e : Expr} {ta tb te : TE} {pos p apos cpos : Pos}
theorem ixE (K : PySem.W.Frag) (h : X.K = K) : IxR X (kIx K) := by subst h; exact ix_K
theorem slE (K : PySem.W.Frag) (h : X.K = K) : SlR X (kSl K) := by subst h; exact sl_K
theorem lenE (K : PySem.W.Frag) (h : X.K = K) : CallR X (.builtin "len") (kLen K) := by subst h; exact call_lenK
theorem inE (K : PySem.W.Frag) (h : X.K = K) : OpR X (compareOp .In) (kIn K false) := by subst h; exact op_inK
theorem notinE (K : PySem.W.Frag) (h : X.K = K) : OpR X (compareOp .NotIn) (kIn K true) := by subst h; exact op_notinK
theorem eqNilE (K : PySem.W.Frag) (h : X.K = K) (hu : X.A.units < cLine) : OpR X (compareOp .Eq) (kEqNil K) := by subst h; exact op_eqL hu
theorem joinE (K : PySem.W.Frag) (h : X.K = K) {j : Nat} {p1 : Pos} (he : PE X e te) (hfew : ((backTo cpos (starEach [e] X.env)).all (fun x => !x.1) && (backToKw cpos (keywordEach [] X.env)).all (fun x => x.1.isSome)
      && decide ([e].length + ([] : List Keyword).length + (if ([] : List Keyword).isEmpty then 0 else 1) < 30)) = true := by rfl)
    (hline : (apos.endLine == cpos.line) = true := by rfl) (hs : starEach [e] X.env = (false, eval e X.env) :: starEach [] X.env := by rfl) (hplain : (backTo cpos (starEach [] X.env)).any (·.1) = false := by rfl)
    (hbase : attributeBase (.Constant (.str (Str.ofString "")) j p1) "join" X.env (eval (.Constant (.str (Str.ofString "")) j p1) X.env) = eval (.Constant (.str (Str.ofString "")) j p1) X.env := by rfl) :
    PE X (.Call (.Attribute (.Constant (.str (Str.ofString "")) j p1) "join" apos) [e] [] cpos) (cJoin1 K te) := by subst h; exact qe_join1 he hfew hline hs hplain hbase
theorem iterE (K : PySem.W.Frag) (h : X.K = K) {tg : Expr} (he : PE X e te) : PI X tg e (cIter K te) := by subst h; exact qi_iter he
theorem zipE (K : PySem.W.Frag) (h : X.K = K) {elts : List Expr} {kk : Nat} {tpos : Pos} (hg : Gl X "zip") (hm : X.mg "zip" = none) (ha : PE X a ta) (hb : PE X b tb) (hs : starEach [a, b] X.env = [(false, eval a X.env), (false, eval b X.env)] := by rfl) (hs2 : starEach [b] X.env = [(false, eval b X.env)] := by rfl) :
    PI X (.Tuple elts kk tpos) (.Call (.Name "zip" p) [a, b] [] pos) (cZip K ta tb) := by subst h; exact qi_zip hg hm ha hb hs hs2
theorem tupE (K : PySem.W.Frag) (h : X.K = K) {es : List Expr} {k : Nat} {t : TGs} {n : Nat} (hc : X.calm = true) (hp : PGs X es t) (hn : (assignEach es X.env).length = n := by rfl) (hst : (assignEach es X.env).findIdx? (·.1) = none := by rfl) : PG X (.Tuple es k pos) (gTup K n t) := by subst h; exact pg_tup hc hp hn hst
end
/-! ### readings, applied -/
section
variable {t u : TS} {te ta tb : TE} {tc : TT} {D : Ends} {σ : St} {H : Hp} {Q : VK} {R : Bool → Hp → Prop} {i : Nat} {v : V}
theorem a_cVar : cVar i σ H Q = (match σ[i]? with | some (some v) => Q v H | _ => False) := rfl
theorem a_tC : tC v σ H Q = Q v H := rfl
theorem a_tOp {r : R2} : tOp r ta tb σ H Q = ta σ H fun x H1 => tb σ H1 fun y H2 => r x y H2 Q := rfl
theorem a_kAddI {a b : Int} : kAdd (.int a) (.int b) H Q = Q (.int (a + b)) H := rfl
theorem a_kAddS {a b : List Nat} : kAdd (.str (st a)) (.str (st b)) H Q = (a.length + b.length ≤ 100000 ∧ Q (.str (st (a ++ b))) H) := rfl
theorem a_kAddL {a b : Addr} : kAdd (.ref a) (.ref b) H Q = ∃ xs zs, H a = some (.lst xs) ∧ H b = some (.lst zs) ∧ xs.length + zs.length ≤ sizeLine ∧ ∀ p, H p = none → Q (.ref p) (upd H p (.lst (xs ++ zs))) := rfl
theorem a_kI {C : Int → Int → Prop} {g : Int → Int → V} {a b : Int} : kI C g (.int a) (.int b) H Q = (C a b ∧ Q (g a b) H) := rfl
theorem a_kI0 {g : Int → Int → V} {a b : Int} : kI0 g (.int a) (.int b) H Q = Q (g a b) H := rfl
theorem a_kMulI {a b : Int} : kMul (.int a) (.int b) H Q = (CMul a b ∧ Q (.int (a * b)) H) := rfl
theorem a_kMulS {c : Nat} {n : Int} : kMul (.str (st [c])) (.int n) H Q = (0 ≤ n ∧ n ≤ 10000 ∧ Q (.str (st (List.replicate n.toNat c))) H) := by
  show (∃ d, [c] = [d] ∧ 0 ≤ n ∧ n ≤ 10000 ∧ Q (.str (st (List.replicate n.toNat d))) H) = _
  refine propext ⟨?_, fun h => ⟨c, rfl, h⟩⟩
  rintro ⟨d, e, h⟩
  cases e
  exact h
theorem a_kEqI {n : Bool} {a b : Int} : kEq n (.int a) (.int b) H Q = Q (.bl (n ^^ decide (a = b))) H := rfl
theorem a_kEqS {n : Bool} {a b : List Nat} : kEq n (.str (st a)) (.str (st b)) H Q = Q (.bl (n ^^ decide (a = b))) H := rfl
theorem a_kEqB {n : Bool} {a b : Bool} : kEq n (.bl a) (.bl b) H Q = Q (.bl (n ^^ decide (a = b))) H := rfl
theorem a_kEqNS {n : Bool} {b : Str} : kEq n .non (.str b) H Q = Q (.bl (n ^^ false)) H := rfl
theorem a_kEqSN {n : Bool} {b : Str} : kEq n (.str b) .non H Q = Q (.bl (n ^^ false)) H := rfl
theorem a_kEqNN {n : Bool} : kEq n .non .non H Q = Q (.bl (n ^^ true)) H := rfl
theorem a_kIs {n : Bool} {x : V} : kIs n x .non H Q = Q (.bl (n ^^ decide (x = .non))) H := rfl
theorem a_kIsB {n a b : Bool} : kIsB n (.bl a) (.bl b) H Q = Q (.bl (n ^^ (a == b))) H := rfl
theorem a_kInS {K : PySem.W.Frag} {n : Bool} {c : Nat} {b : List Nat} : kIn K n (.str (st [c])) (.str (st b)) H Q = Q (.bl (n ^^ decide (c ∈ b))) H := by
  show (∃ d, [c] = [d] ∧ Q (.bl (n ^^ decide (d ∈ b))) H) = _
  refine propext ⟨?_, fun h => ⟨c, rfl, h⟩⟩
  rintro ⟨d, e, h⟩
  cases e
  exact h
theorem a_kInL {K : PySem.W.Frag} {n : Bool} {x : V} {p : Addr} : kIn K n x (.ref p) H Q = ∃ xs, (SqL K H p xs ∨ SqT K H p xs) ∧ flatV x = true ∧ xs.all flatV = true ∧ Q (.bl (n ^^ inV x xs)) H := by
  cases x <;> rfl
theorem a_kIxS {K : PySem.W.Frag} {l : List Nat} {j : Int} : kIx K (.str (st l)) (.int j) H Q = (l.length ≤ 100000 ∧ ∃ c, atI l j = some c ∧ Q (.str (st [c])) H) := rfl
theorem a_kIxL {K : PySem.W.Frag} {p : Addr} {j : Int} : kIx K (.ref p) (.int j) H Q = ∃ xs v, (SqL K H p xs ∨ SqT K H p xs) ∧ atI xs j = some v ∧ Q v H := rfl
theorem a_kLenS {K : PySem.W.Frag} {l : List Nat} : kLen K [.str (st l)] H Q = (l.length ≤ 100000 ∧ Q (.int l.length) H) := rfl
theorem a_kLenL {K : PySem.W.Frag} {p : Addr} : kLen K [.ref p] H Q = ∃ ys, (SqL K H p ys ∨ SqT K H p ys) ∧ Q (.int ys.length) H := rfl
theorem a_kIntI {a : Int} : kInt [.int a] H Q = Q (.int a) H := rfl
theorem a_kIntB {a : Bool} : kInt [.bl a] H Q = Q (.int (if a then 1 else 0)) H := rfl
theorem a_kIntS {c : Nat} : kInt [.str (st [c])] H Q = (48 ≤ c ∧ c ≤ 57 ∧ Q (.int ((c - 48 : Nat) : Int)) H) := by
  show (∃ d : Nat, [c] = [d] ∧ 48 ≤ d ∧ d ≤ 57 ∧ Q (.int ((d - 48 : Nat) : Int)) H) = _
  refine propext ⟨?_, fun h => ⟨c, rfl, h⟩⟩
  rintro ⟨d, e, h⟩
  cases e
  exact h
theorem a_kSlTo {K : PySem.W.Frag} {l : List Nat} {j : Int} : kSl K (.str (st l)) none (some j) H Q = (l.length ≤ 100000 ∧ 0 ≤ j ∧ j ≤ l.length ∧ Q (.str (st (l.take j.toNat))) H) := rfl
theorem a_kSlFrom {K : PySem.W.Frag} {l : List Nat} {j : Int} : kSl K (.str (st l)) (some j) none H Q = (l.length ≤ 100000 ∧ 0 ≤ j ∧ j ≤ l.length ∧ Q (.str (st (l.drop j.toNat))) H) := rfl
theorem a_kSlL {K : PySem.W.Frag} {p : Addr} {lo hi : Option Int} : kSl K (.ref p) lo hi H Q = ∃ xs, SqL K H p xs ∧ ∀ q, H q = none → Q (.ref q) (upd H q (.lst (cutV xs lo hi))) := rfl
theorem a_tSl {r : V → Option Int → Option Int → Hp → VK → Prop} {tl th : TO} : tSl r te tl th σ H Q = te σ H fun x H1 => tl σ H1 fun l H2 => th σ H2 fun u H3 => r x l u H3 Q := rfl
theorem a_tNoPart {Q : Option Int → Hp → Prop} : tNoPart σ H Q = Q none H := rfl
def cPart (t : TE) : TO := fun σ H Q => t σ H fun x H1 => match x with | .int i => Q (some i) H1 | _ => False
theorem a_cPart {Q : Option Int → Hp → Prop} : cPart te σ H Q = te σ H fun x H1 => match x with | .int i => Q (some i) H1 | _ => False := rfl
theorem a_cNeg : cNeg ta σ H Q = ta σ H fun x H1 => match x with | .int i => Q (.int (-i)) H1 | _ => False := rfl
theorem a_kEqNil {K : PySem.W.Frag} {a b : Addr} : kEqNil K (.ref a) (.ref b) H Q = ∃ xs, SqL K H a xs ∧ SqL K H b [] ∧ Q (.bl (decide (xs = []))) H := rfl
theorem a_cIsI {n : Ty} : cIsI n ta σ H Q = ta σ H fun x H1 => match x with
  | .non => Q (.bl false) H1
  | .bl _ => Q (.bl n.isBl) H1
  | .int _ => Q (.bl n.isInt) H1
  | .str _ => Q (.bl n.isStr) H1
  | .ref p => ((∃ xs, H1 p = some (.lst xs)) ∧ Q (.bl n.isLst) H1) ∨ ((∃ xs, H1 p = some (.tup xs)) ∧ Q (.bl n.isTup) H1)
  | _ => False := rfl
theorem a_cTest : cTest te σ H R = te σ H (blK R) := rfl
theorem a_blK {b : Bool} : blK R (.bl b) H = R b H := rfl
theorem a_cAndV : cAndV ta tb σ H Q = ta σ H (blK fun c H1 => if c = true then tb σ H1 Q else Q (.bl false) H1) := rfl
theorem a_cOrV : cOrV ta tb σ H Q = ta σ H (blK fun c H1 => if c = true then Q (.bl true) H1 else tb σ H1 Q) := rfl
theorem a_cNotV : cNotV ta σ H Q = ta σ H (blK fun c H1 => Q (.bl (!c)) H1) := rfl
theorem a_tAnd {t u : TT} : tAnd t u σ H R = t σ H fun c H1 => if c = true then u σ H1 R else R false H1 := rfl
theorem a_tOr {t u : TT} : tOr t u σ H R = t σ H fun c H1 => if c = true then R true H1 else u σ H1 R := rfl
theorem a_tNot {t : TT} : tNot t σ H R = t σ H fun c H1 => R (!c) H1 := rfl
theorem a_tYes : tYes σ H R = R true H := rfl
theorem a_tIf : tIf tc ta tb σ H Q = tc σ H fun c H1 => if c = true then ta σ H1 Q else tb σ H1 Q := rfl
theorem a_cApp : cApp ta te σ H Q = ta σ H fun x H1 => match x with
  | .ref l => (∃ xs, H1 l = some (.lst xs)) ∧ te σ H1 fun y H2 => ∃ xs, H2 l = some (.lst xs) ∧ xs.length < sizeLine ∧ Q .non (upd H2 l (.lst (xs ++ [y])))
  | _ => False := rfl
theorem a_cJoin1 {K : PySem.W.Frag} : cJoin1 K te σ H Q = te σ H fun x H1 => match x with
  | .ref l => ∃ cs : List Nat, SqL K H1 l (cs.map fun k => V.str (st [k])) ∧ cs.length ≤ 10000 ∧ Q (.str (st cs)) H1
  | _ => False := rfl
theorem a_tNil {R : List V → Hp → Prop} : tNil σ H R = R [] H := rfl
theorem a_tCons {t : TA} {R : List V → Hp → Prop} : tCons ta t σ H R = ta σ H fun x H1 => t σ H1 fun xs H2 => R (x :: xs) H2 := rfl
theorem a_tCall {sp : Sp} {E : XK} {t : TA} : tCall sp [] E t σ H Q = t σ H fun vs H1 => sp vs H1 Q E := by
  unfold tCall
  simp only [List.append_nil]
theorem a_tCB {r : List V → Hp → VK → Prop} {t : TA} : tCB r t σ H Q = t σ H fun vs H1 => r vs H1 Q := rfl
theorem a_tLst {t : TA} : tLst t σ H Q = t σ H fun xs H1 => xs.length ≤ sizeLine ∧ ∀ p, H1 p = none → Q (.ref p) (upd H1 p (.lst xs)) := rfl
theorem a_tTup {t : TA} : tTup t σ H Q = t σ H fun xs H1 => xs.length ≤ sizeLine ∧ ∀ p, H1 p = none → Q (.ref p) (upd H1 p (.tup xs)) := rfl
theorem a_tNext : tNext D σ H = D.nx σ H := rfl
theorem a_tSeq : tSeq t u D σ H = t { D with nx := u D } σ H := rfl
theorem a_tDrop : tDrop te D σ H = te σ H fun _ H1 => D.nx σ H1 := rfl
theorem a_tRet : tRet te D σ H = te σ H D.rt := rfl
theorem a_tRetN : tRetN D σ H = D.rt .non H := rfl
theorem a_tIfS : tIfS tc t u D σ H = tc σ H fun b H1 => if b = true then t D σ H1 else u D σ H1 := rfl
theorem a_tAsg {g : TG} : tAsg te g D σ H = te σ H fun x H1 => g x σ H1 D.nx := rfl
theorem a_gName {R : St → Hp → Prop} : gName i v σ H R = R (σ.set i (some v)) H := rfl
theorem a_tJoin : tJoin t u D σ H = ∃ J : St → Hp → Prop, t { D with nx := J } σ H ∧ ∀ σ' H', J σ' H' → u D σ' H' := rfl
theorem a_cFor {wi : TI} {g : TG} : cFor wi g t D σ H = wi σ H fun J H1 => loopW J g t D σ H1 := rfl
theorem a_cIter {K : PySem.W.Frag} {R : It → Hp → Prop} : cIter K te σ H R = te σ H fun x H1 => match x with
  | .str z => R (Its z) H1
  | .ref a => ((∃ xs, SqL K H1 a xs) ∧ R (Itl K a) H1) ∨ ((∃ xs, SqT K H1 a xs) ∧ R (Itt K a) H1)
  | _ => False := rfl
theorem a_cRng1 {R : It → Hp → Prop} : cRng1 te σ H R = te σ H fun x H1 => match x with
  | .int j => -1000000 ≤ j ∧ j ≤ 1000000 ∧ R (Itr 0 j.toNat) H1
  | _ => False := rfl
theorem a_cRng2 {R : It → Hp → Prop} : cRng2 ta tb σ H R = ta σ H fun x H1 => tb σ H1 fun y H2 => match x, y with
  | .int i, .int j => (-1000000 ≤ i ∧ i ≤ 1000000 ∧ -1000000 ≤ j ∧ j ≤ 1000000) ∧ R (Itr i (j - i).toNat) H2
  | _, _ => False := rfl
theorem a_cZip {K : PySem.W.Frag} {R : It → Hp → Prop} : cZip K ta tb σ H R = ta σ H fun x H1 => tb σ H1 fun y H2 => srcK K H2 x fun S1 => srcK K H2 y fun S2 => R (Itz K S1 S2) H2 := rfl
theorem a_srcKS {K : PySem.W.Frag} {z : Str} {R : Src → Prop} : srcK K H (.str z) R = R (.str z) := rfl
theorem a_srcKL {K : PySem.W.Frag} {p : Addr} {R : Src → Prop} : srcK K H (.ref p) R = ((∃ xs, SqL K H p xs) ∧ R (.lst p)) := rfl
theorem a_cComp {nt : Nat} {fi : List Nat} {wi : TI} {g : TG} : cComp nt fi wi g tc te σ H Q = wi σ H fun J H1 => ∀ D, H1 D = none → compW J g tc te (compσ nt fi σ) D Q H1 := rfl
end
theorem a_cxK {CX : CXT} {P : Program} {w : World} {K : PySem.W.Frag} {mg : Str → Option Value} {base : Heap} {N : List Str} {qual : Str} {scope : Scope} {f : Addr} {cd : Value} {A : Around} {outer : List Env} {s : Shared} {H : Hp} {E : XK} : (cxOf CX P w K mg base N qual scope f cd A outer s H E).K = K := rfl
theorem a_cxCK {X : Cx} {scope : Scope} {cl : List (Str × Addr)} {N' : List Str} {C : Addr} {s : Shared} {H : Hp} {ex : List Addr} : (cxC X scope cl N' C s H ex).K = X.K := rfl
theorem a_one {a b : Nat} : (([a] : List Nat) = [b]) = (a = b) := by simp
theorem qo_some {X : Cx} {e : Expr} {te : TE} (h : PE X e te) : PO X (some e) (cPart te) := fun pins s σ H Q I q => po_some h.mono pins s σ H Q I ⟨_, q, fun v H1 z => by
  split at z
  · exact ⟨_, rfl, z⟩
  · exact z.elim⟩
end L2


set_option linter.all false
/-! What the laws' own small defs reckon, over plain data. -/
namespace Mir
open PySem L2
def cell (ns : List Int) (k : Nat) : Int := (ns[k]?).getD 0
theorem cell_lt {ns : List Int} {k : Int} (h0 : 0 ≤ k) (h : k < ns.length) : atI (ns.map V.int) k = some (V.int (cell ns k.toNat)) := by
  obtain ⟨j, rfl⟩ : ∃ j : Nat, k = j := ⟨k.toNat, by omega⟩
  have hj : j < ns.length := by omega
  refine atI_nat ?_
  simp [cell, hj]
theorem cell_ge {ns : List Int} {k : Int} (h : ¬ k < ns.length) : cell ns k.toNat = 0 := by
  have hj : ns.length ≤ k.toNat := by omega
  simp [cell, hj]
def num (c : Int) : Nat → Int
  | 0 => c % 2147483647 + 1
  | i + 1 => (num c i * 48271 + 7 * (i : Int) * (i : Int) + 3) % 2147483647
theorem num_lo (c : Int) (i : Nat) : 0 ≤ num c i := by
  cases i with
  | zero => simp only [num]; omega
  | succ i => simp only [num]; omega
theorem num_hi (c : Int) (i : Nat) : num c i ≤ 2147483647 := by
  cases i with
  | zero => simp only [num]; omega
  | succ i => simp only [num]; omega
def stream (c : Int) (n : Nat) : List Int := (List.range n).map fun i => num c (i + 1) / 16
theorem stream_len (c : Int) (n : Nat) : (stream c n).length = n := by simp [stream]
theorem stream_snoc (c : Int) (n : Nat) : stream c (n + 1) = stream c n ++ [num c (n + 1) / 16] := by
  simp [stream, List.range_succ]
/-- '01'[m % 2] -/
def bit (m : Int) : Nat := if m % 2 = 0 then 48 else 49
theorem at01 (m : Int) : atI [48, 49] (m % 2) = some (bit m) := by
  have h : m % 2 = 0 ∨ m % 2 = 1 := by omega
  unfold bit
  rcases h with h | h <;> rw [h] <;> rfl
theorem bit_or (m : Int) : bit m = 48 ∨ bit m = 49 := by
  unfold bit
  split
  · exact .inl rfl
  · exact .inr rfl
def rowSign (l e : Int) : Nat := if e % l > 0 then 45 else bit (e / 64)
def row (c : Int) (w : Nat) (l : Int) : List Nat := (stream c w).map (rowSign l)
/-- signs of rows, of letters -/
def IsRow (r : List Nat) : Prop := ∀ c ∈ r, c = 48 ∨ c = 49 ∨ c = 45
def IsLet (r : List Nat) : Prop := ∀ c ∈ r, c = 48 ∨ c = 49
/-- row_within -/
def within (one other : List Nat) : Bool := (one.zip other).all fun p => p.2 == 45 || p.2 == p.1
end Mir


set_option linter.all false
namespace L2
open PySem PySem.Spec PyProof.Rows
/-! ### a list unpacked -/
section
variable {prog : Program} {w : World} {A : Around} {E : Value → Shared → Prop} {s : Shared}
theorem IsList.extBut' {h h' : Heap} {a l : Addr} {items : Array Value} (hl : h.IsList l items) (he : Heap.ExtBut a h h') (hne : l ≠ a) : h'.IsList l items := by
  obtain ⟨o, ho, r⟩ := hl
  exact ⟨o, he l o hne ho, r⟩
/-- as many turns of a list's iterator as mid has items give mid -/
theorem draw_mid {it t : Addr} {items : Array Value} (apart : t ≠ it) : ∀ (mid front back : List Value) (s : Shared) (Q : List Value → Shared → Prop), items.toList = front ++ (mid ++ back) → s.heap.IsListIter it t front.length → s.heap.IsList t items →
    (∀ g : Heap, g.IsListIter it t (front.length + mid.length) → Heap.SameBut it s.heap g → Q mid { s with heap := g }) → wpAny (model prog w) A (draw (.ref it) mid.length) Q E s
  | [], front, _, s, Q, _, at0, _, k => wpAny_pure (k s.heap at0 (Heap.SameBut.refl ..))
  | x :: mid, front, back, s, Q, e, at0, il, k => by
    have here : items[front.length]? = some x := by
      rw [← Array.getElem?_toList, e, List.getElem?_append_right (Nat.le_refl _), Nat.sub_self]
      rfl
    refine wpAny_bind (m := pyNext (.ref it)) (wpAny_pyNext_list_item at0 il here fun g1 at1 t1 => ?_)
    refine wpAny_bind (wpAny_holding (draw_mid apart mid (front ++ [x]) back _ _ (by rw [e]; simp) (by rw [List.length_append]; exact at1) (IsList.extBut' il t1.extBut apart) fun g2 at2 t2 => wpAny_pure (k g2 ?_ (t1.trans t2))))
    have sum : (front ++ [x]).length + mid.length = front.length + (x :: mid).length := by
      simp only [List.length_append, List.length_cons, List.length_nil]
      omega
    rw [sum] at at2
    exact at2
theorem unpackItems_list {t : Addr} {items : Array Value} {Q : List Value → Shared → Prop} (hh : A.handled = none) (ht : s.heap.IsList t items)
    (k : ∀ g, Heap.ExtBut s.heap.objs.size s.heap g → Q items.toList { s with heap := g }) : wpAny (model prog w) A (unpackItems (.ref t) items.size none) Q E s := by
  have below : t ≠ s.heap.objs.size := Nat.ne_of_lt (let ⟨_, q, _⟩ := ht; Heap.lt_size q)
  have still : (s.heap.push { cls := .type "list_iterator", data := .fields #[.ref t, .int 0 0] }).IsList t items := let ⟨o, q, r⟩ := ht; ⟨o, Heap.get?_push_of_some _ q, r⟩
  unfold unpackItems notIterableAtAll
  refine wpAny_bind (wpAny_bind (wpAny_specialOf ht.typeIs slot_list_iter.lookup (wpAny_pure ?_)))
  rw [if_neg (by decide)]
  refine wpAny_bind (wpAny_holding (wpAny_pyIter_list ht ?_))
  have whole := draw_mid (prog := prog) (w := w) (A := A) (E := E) (items := items) below items.toList [] [] { s with heap := s.heap.push { cls := .type "list_iterator", data := .fields #[.ref t, .int 0 0] } }
  rw [Array.length_toList] at whole
  refine wpAny_bind (wpAny_holding (whole _ (by simp) ⟨_, Heap.get?_push_size _ rfl, rfl, rfl⟩ still fun g1 at1 t1 => ?_))
  rw [if_neg (by simp)]
  refine wpAny_bind (wpAny_holding (wpAny_pyNext_list_end hh at1 (IsList.extBut' still t1.extBut below) (by simp) fun g2 t2 => ?_))
  rw [if_neg (by simp)]
  exact wpAny_pure (k g2 fun b o nb q => t2 b o nb (t1.extBut b o nb (Heap.get?_push_of_some _ q)))
theorem assign_Tuple_list {env : Env} {elts : List Expr} {x1} {pos : Pos} {t : Addr} {items : Array Value} {Q : Unit → Shared → Prop} (hh : A.handled = none) (ht : s.heap.IsList t items)
    (hn : (assignEach elts env).length = items.size) (hstar : (assignEach elts env).findIdx? (·.1) = none)
    (h : ∀ h', Heap.ExtBut s.heap.objs.size s.heap h' → wpAny (model prog w) A (assignInOrder ((assignEach elts env).map (·.2)) items.toList) Q E { s with heap := h' }) :
    wpAny (model prog w) A (assign (.Tuple elts x1 pos) env (.ref t)) Q E s := by
  rw [assign_Tuple]
  refine wpAny_bind (wpAny_standAt ?_)
  unfold unpack
  rw [hn, hstar]
  exact wpAny_bind (wpAny_holding (unpackItems_list hh ht h))
end
section
variable {X : Cx} {pos : Pos}
def gSeq (K : PySem.W.Frag) (n : Nat) (t : TGs) : TG := fun v σ H Q => match v with
  | .ref a => ∃ xs, (SqL K H a xs ∨ SqT K H a xs) ∧ xs.length = n ∧ t xs σ H Q
  | _ => False
theorem seqE (K : PySem.W.Frag) (hK : X.K = K) {es : List Expr} {k : Nat} {t : TGs} {n : Nat} (hc : X.calm = true) (h : PGs X es t)
    (hn : (assignEach es X.env).length = n := by rfl) (hst : (assignEach es X.env).findIdx? (·.1) = none := by rfl) : PG X (.Tuple es k pos) (gSeq K n t) := by
  subst hK
  intro pins s σ H v u Q I r hw
  unfold gSeq at hw
  split at hw
  · rename_i a
    obtain ⟨xs, hq, hl, hw⟩ := hw
    rcases hq with hq | hq
    · cases r
      obtain ⟨its, rv, ht, hz⟩ := I.list hq
      refine assign_Tuple_list (I.ok.hd hc) ht.isList (by simp [hn, ← hl, rv.length]) hst fun h' hx => ?_
      have I1 : Inv X pins σ H { s with heap := h' } := I.kept (t' := s.toks) fun b o e => hx b o (Nat.ne_of_lt (Heap.lt_size e)) e
      exact h pins _ σ H xs _ Q I1 (by simpa using rv) hw
    · exact pg_tup hc h hn hst pins s σ H _ u Q I r ⟨_, xs, rfl, hq, hl, hw⟩
  · exact hw.elim
end
section
variable {t : TG} {u : TGs} {σ : St} {H : Hp} {Q : St → Hp → Prop} {v : V} {r : List V} {K : PySem.W.Frag} {n : Nat} {p : Addr}
theorem a_gCons : gCons t u (v :: r) σ H Q = t v σ H fun σ' H' => u r σ' H' Q := by
  refine propext ⟨?_, fun h => ⟨v, r, rfl, h⟩⟩
  rintro ⟨v', r', e, h⟩
  cases e
  exact h
theorem a_gNil : gNil [] σ H Q = Q σ H := propext ⟨fun h => h.2, fun h => ⟨rfl, h⟩⟩
theorem a_gSeq : gSeq K n u (.ref p) σ H Q = ∃ xs, (SqL K H p xs ∨ SqT K H p xs) ∧ xs.length = n ∧ u xs σ H Q := rfl
end
/-! ### replace, count -/
def rep (c d : Nat) (l : List Nat) : List Nat := l.map fun k => if k = c then d else k
section
variable {X : Cx} {o e : Expr} {to te : TE} {apos cpos p1 p2 : Pos} {j1 j2 : Nat}
def cRepl (c d : Nat) (to : TE) : TE := fun σ H Q => to σ H fun x H1 => match x with
  | .str a => a.cps.toList.length ≤ 10000 ∧ Q (.str (st (rep c d a.cps.toList))) H1
  | _ => False
def cCount (c : Nat) (to : TE) : TE := fun σ H Q => to σ H fun x H1 => match x with
  | .str a => Q (.int (a.cps.toList.count c : Nat)) H1
  | _ => False
/-- list(x): a text's signs, a list's or tuple's items -/
def kList (K : PySem.W.Frag) : List V → Hp → VK → Prop := fun xs H Q => match xs with
  | [.str z] => z.cps.toList.length ≤ 100000 ∧ ∀ p, H p = none → Q (.ref p) (upd H p (.lst (z.cps.toList.map fun c => V.str (st [c]))))
  | [.ref a] => ∃ ys, (SqL K H a ys ∨ SqT K H a ys) ∧ ∀ p, H p = none → Q (.ref p) (upd H p (.lst ys))
  | _ => False
theorem vals_signs {x : Str} {acc : Array Value} (h : ItemsOf (SignAt x) acc x.cps.size) : Vals (x.cps.toList.map fun c => V.str (st [c])) acc.toList := by
  obtain ⟨hs, hi⟩ := h
  have key : ∀ (l : List Nat) (us : List Value), l.length = us.length → (∀ (j : Nat) (v : Value), us[j]? = some v → ∃ (c : Nat) (u : Tok), l[j]? = some c ∧ v = Value.str ⟨#[c]⟩ u) → Vals (l.map fun c => V.str (st [c])) us := by
    intro l
    induction l with
    | nil =>
      intro us hl _
      cases us with
      | nil => exact .nil
      | cons => cases hl
    | cons a l ih =>
      intro us hl hq
      cases us with
      | nil => cases hl
      | cons v us =>
        obtain ⟨c, u, e, rfl⟩ := hq 0 v rfl
        cases e
        exact .cons ⟨u, rfl⟩ (ih us (by simpa using hl) fun j w hj => hq (j + 1) w hj)
  refine key _ _ (by simp [hs]) fun j v hj => ?_
  obtain ⟨c, u, e, rfl⟩ := hi j v (by simpa using hj)
  exact ⟨c, u, by simpa using e, rfl⟩
theorem call_listK (K : PySem.W.Frag) (hK : X.K = K) (hc : X.calm = true) : CallR X (.type "list") (kList K) := by
  subst hK
  intro pins s σ H xs us Q I r q
  unfold kList at q
  split at q
  · obtain ⟨hl, q⟩ := q
    rename_i z
    obtain ⟨u, rfl, t, rfl⟩ := vals1 r
    have hz : z.cps.size ≤ sizeLine := by
      have := big5
      simp only [Array.length_toList] at hl
      omega
    refine tokQ I.tk (call_list_str (I.ok.hd hc) z t (fun h' tk acc c' kp ho hi (htk : 0 < tk) => ?_) hz)
    refine ⟨.ref s.heap.objs.size, _, I.laid (a := s.heap.objs.size) (o := .lst (z.cps.toList.map fun c => V.str (st [c]))) kp (Nat.le_refl _) ⟨?_, acc.toList, c', vals_signs hi, by simpa using ho⟩, rfl, q _ I.fresh⟩
    rw [List.length_map]
    simpa using hz
  · obtain ⟨ys, h, q⟩ := q
    exact call_list_of pins s σ H _ us Q I r ⟨_, ys, rfl, h, q⟩
  · exact q.elim
theorem a_kListS {K : PySem.W.Frag} {l : List Nat} {H : Hp} {Q : VK} : kList K [.str (st l)] H Q = (l.length ≤ 100000 ∧ ∀ p, H p = none → Q (.ref p) (upd H p (.lst (l.map fun c => V.str (st [c]))))) := rfl
theorem a_kListL {K : PySem.W.Frag} {a : Addr} {H : Hp} {Q : VK} : kList K [.ref a] H Q = ∃ ys, (SqL K H a ys ∨ SqT K H a ys) ∧ ∀ p, H p = none → Q (.ref p) (upd H p (.lst ys)) := rfl
theorem a_cRepl {c d : Nat} {σ : St} {H : Hp} {Q : VK} : cRepl c d to σ H Q = to σ H fun x H1 => match x with
  | .str a => a.cps.toList.length ≤ 10000 ∧ Q (.str (st (rep c d a.cps.toList))) H1
  | _ => False := rfl
theorem a_cCount {c : Nat} {σ : St} {H : Hp} {Q : VK} : cCount c to σ H Q = to σ H fun x H1 => match x with
  | .str a => Q (.int (a.cps.toList.count c : Nat)) H1
  | _ => False := rfl
/-- tuple(text) -/
def kTuple : List V → Hp → VK → Prop := fun xs H Q => match xs with
  | [.str z] => z.cps.toList.length ≤ 100000 ∧ ∀ p, H p = none → Q (.ref p) (upd H p (.tup (z.cps.toList.map fun c => V.str (st [c]))))
  | _ => False
theorem a_kTupleS {l : List Nat} {H : Hp} {Q : VK} : kTuple [.str (st l)] H Q = (l.length ≤ 100000 ∧ ∀ p, H p = none → Q (.ref p) (upd H p (.tup (l.map fun c => V.str (st [c]))))) := rfl
end
end L2


set_option linter.all false
namespace L2
open PySem PySem.Spec PyProof.Rows
/-! ### enumerate(text) -/
def Ite (x : Str) : It := ⟨fun i _ => i < x.cps.size, fun i H v H' => ∃ T c, v = .ref T ∧ H T = none ∧ x.cps[i]? = some c ∧ H' = upd H T (.tup [.int i, .str ⟨#[c]⟩]), fun i _ => i = x.cps.size⟩
section
variable {X : Cx} {a : Expr} {ta : TE} {p pos : Pos}
theorem bb_enumerate : bootBuiltins "enumerate" = some (.type "enumerate") := by decide +kernel
def cEnum (te : TE) : TI := fun σ H R => te σ H fun x H1 => match x with
  | .str z => R (Ite z) H1
  | _ => False
theorem a_cEnum {σ : St} {H : Hp} {R : It → Hp → Prop} : cEnum ta σ H R = ta σ H fun x H1 => match x with
  | .str z => R (Ite z) H1
  | _ => False := rfl
end
end L2
namespace L2
open PySem PySem.Spec PyProof.Rows
/-! ### sum, two stores at once -/
section
variable {X : Cx}
def kSum (K : PySem.W.Frag) : List V → Hp → VK → Prop := fun xs H Q => match xs with
  | [.ref p] => ∃ ns : List Int, SqL K H p (ns.map V.int) ∧ Q (.int ns.sum) H
  | _ => False
theorem a_kSum {K : PySem.W.Frag} {p : Addr} {H : Hp} {Q : VK} : kSum K [.ref p] H Q = ∃ ns : List Int, SqL K H p (ns.map V.int) ∧ Q (.int ns.sum) H := rfl
theorem a_tPar {i j : Nat} {ta tb : TE} {D : Ends} {σ : St} {H : Hp} : tPar i j (tCons ta (tCons tb tNil)) D σ H = ta σ H fun x H1 => tb σ H1 fun y H2 => D.nx ((σ.set i (some x)).set j (some y)) H2 := by
  show (ta σ H fun x H1 => tb σ H1 fun y H2 => ∃ v w, [x, y] = [v, w] ∧ D.nx ((σ.set i (some v)).set j (some w)) H2) = _
  congr 1
  funext x H1
  congr 1
  funext y H2
  refine propext ⟨?_, fun h => ⟨x, y, rfl, h⟩⟩
  rintro ⟨v, w, e, h⟩
  cases e
  exact h
end
end L2


/-! Sets of texts: made of a list, walked in whatever order, sorted. -/
namespace L2
open PySem PySem.Spec PyProof.Rows
/-! ### the table keeps whether it is led, and whether it is plain -/
theorem tab_laid {mask finger moves : Nat} {led plain : Bool} {hs : Array Int} {r : SetTable × Array Nat} (h : SetTable.laid mask finger moves led plain hs = some r) : r.1.led = led ∧ r.1.plain = plain := by
  unfold SetTable.laid at h
  cases q : SetTable.layClean mask hs with
  | none => rw [q] at h; cases h
  | some ow =>
    rw [q] at h
    cases h
    exact ⟨rfl, rfl⟩
theorem tab_relay (t : SetTable) (es : Array (Int × Value)) (n : Nat) : (relayAll t es n).2.1.led = t.led ∧ (t.plain = false → (relayAll t es n).2.1.plain = false) := by
  unfold relayAll
  split
  · rename_i t' order e
    have q := tab_laid e
    dsimp only
    split
    · exact ⟨q.1, fun z => q.2.trans z⟩
    · exact ⟨rfl, fun _ => rfl⟩
  · exact ⟨rfl, fun _ => rfl⟩

/-! ### a set of texts -/
def txtOf : Value → Str
  | .str x _ => x
  | _ => ⟨#[]⟩
/-- the set at a holds the texts of ss, each once, led as asked -/
def IsTexts (w : World) (h : Heap) (a : Addr) (led : Bool) (ss : List Str) : Prop :=
  ∃ es ep t, h.get? a = some { cls := .type "set", dict := none, data := .set es ep t, slots := #[] } ∧ (∀ e ∈ es.toList, ∃ x u, e = (hashStr w x, Value.str x u)) ∧
    (es.toList.map fun e => txtOf e.2).Perm ss ∧ t.fits es.size = true ∧ t.led = led ∧ (es.size ≠ 0 → t.plain = false)
section
variable {prog : Program} {w : World} {A : Around} {E : Value → Shared → Prop} {s : Shared}
/-- how the texts of a set grow -/
def addT (ss : List Str) (x : Str) : List Str := if x ∈ ss then ss else ss ++ [x]
theorem set_put {a : Addr} {es es' : Array (Int × Value)} {ep : Nat} {t t' : SetTable} (ho : s.heap.get? a = some { cls := .type "set", dict := none, data := .set es ep t, slots := #[] }) :
    (s.heap.update a (Obj.putSet es' t')).get? a = some { cls := .type "set", dict := none, data := .set es' (ep + 1) t', slots := #[] } :=
  Heap.get?_update_self (Obj.putSet es' t') ho rfl
-- the rows are stored with the table t2, and once more where the table was too full: walked as it stands
set_option hygiene false
local macro_rules | `(tactic| walk_at "lay_down") => `(tactic| (
  refine wpAny_bind (wpAny_storeSet_of ho rfl ?_ (fits_of_scanBound (by omega)))
  have o1 := set_put (es' := es1) (t' := t2) ho
  have sb1 := Heap.SameBut.update s.heap a (Obj.putSet es1 t2)
  refine wpAny_ite_split (fun _ => ?_) fun _ => ?_
  · have q1 := relayAll_perm t2 es1 (SetTable.grown es1.size)
    have q2 := relayAll_fits t2 es1 (SetTable.grown es1.size)
    have q3 := tab_relay t2 es1 (SetTable.grown es1.size)
    generalize relayAll t2 es1 (SetTable.grown es1.size) = R at q1 q2 q3 ⊢
    obtain ⟨es2, t3, g2⟩ := R
    dsimp only at q1 q2 q3 ⊢
    have z2 : es2.size = es1.size := by have := q1.length_eq; simpa using this
    refine wpAny_bind (gw _ _ _ ?_)
    refine wpAny_bind (wpAny_storeSet_of o1 rfl ?_ (fits_of_scanBound (by omega)))
    have o2 := set_put (s := { s with heap := s.heap.update a (Obj.putSet es1 t2) }) (es' := es2) (t' := t3) o1
    exact wpAny_pure (wpAny_pure (h _ _ (sb1.trans (Heap.SameBut.update _ a _)) ⟨es2, _, t3, o2, fun e he => hel1 e (q1.mem_iff.mp he), (q1.map _).trans hp1, q2, q3.1.trans l2, fun _ => q3.2 n2⟩))
  · exact wpAny_pure (wpAny_pure (h _ _ sb1 ⟨es1, _, t2, o1, hel1, hp1, f2, l2, fun _ => n2⟩))))
set_option hygiene true
end
end L2


namespace L2
open PySem PySem.Spec PyProof.Rows
/-- the texts of a list, each once -/
def dd (l : List Str) : List Str := l.foldl addT []
theorem IsTexts.at {w : World} {h h' : Heap} {a : Addr} {led : Bool} {ss : List Str} (x : IsTexts w h a led ss) (k : ∀ o, h.get? a = some o → h'.get? a = some o) : IsTexts w h' a led ss := by
  obtain ⟨es, ep, t, ho, r⟩ := x
  exact ⟨es, ep, t, k _ ho, r⟩

section
variable {prog : Program} {w : World} {A : Around} {R : Result → Shared → Prop} {I : Addr} {fp wr : List Addr} {G : Array GenState → Array GenState → Prop} {n : Nat} {P : Nat → Value → Prop} {St : Nat → Shared → Prop}
end
end L2


namespace L2
open PySem PySem.Spec PyProof.Rows
set_option maxRecDepth 100000
section
variable {prog : Program} {w : World} {A : Around} {E : Value → Shared → Prop} {s : Shared}
end
end L2


namespace L2
open PySem PySem.Spec PyProof.Rows
set_option maxRecDepth 100000
/-! ### orders -/
section
variable {M : Model} {A : Around} {E : Value → Shared → Prop}
end
/-! ### the places of a set of at most one -/
section
variable {prog : Program} {w : World} {A : Around} {E : Value → Shared → Prop} {s : Shared}
end
end L2


namespace L2
open PySem PySem.Spec PyProof.Rows
set_option maxRecDepth 100000
section
variable {prog : Program} {w : World} {A : Around} {E : Value → Shared → Prop} {s : Shared} {it a : Addr} {es : Array (Int × Value)} {n ep i : Nat} {t : SetTable}
-- the beginning of a turn: the fields are read, the size is as it was
set_option hygiene false
local macro_rules | `(tactic| walk_at "turn_begins") => `(tactic| (
  unfold Builtin.«set_iterator.__next__» slotArgs
  simp only [List.isEmpty_nil, Bool.not_true, Bool.false_eq_true, ↓reduceIte, bind_assoc, List.length_nil, bne_self_eq_false]
  refine wpAny_bind (wpAny_pure ?_)
  dsimp only
  refine wpAny_bind (wpAny_fieldsOf hit rfl ?_)
  dsimp only
  refine wpAny_bind (wpAny_setEntries_of ha rfl hf ?_)
  rw [show ((es.size : Int) != (n : Int)) = false by simp [hz]]
  simp only [Bool.false_eq_true, ↓reduceIte]))
set_option hygiene true
end
end L2


namespace L2
open PySem PySem.Spec PyProof.Rows
set_option maxRecDepth 100000
section
variable {prog : Program} {w : World} {A : Around} {E : Value → Shared → Prop} {s : Shared} {it a : Addr} {es : Array (Int × Value)} {n ep i : Nat} {t : SetTable}
end
end L2


namespace L2
open PySem PySem.Spec PyProof.Rows
set_option maxRecDepth 100000
section
variable {prog : Program} {w : World} {A : Around} {E : Value → Shared → Prop} {s : Shared} {it a : Addr} {es : Array (Int × Value)} {n ep i : Nat} {t : SetTable}
end
end L2


namespace L2
open PySem PySem.Spec PyProof.Rows
set_option maxRecDepth 100000
section
variable {prog : Program} {w : World} {A : Around} {E : Value → Shared → Prop} {s : Shared}
/-- what a walk over the set at a may know: an iterator that is new, a footprint of what is new and the set, the texts in some order -/
structure Walked (prog : Program) (w : World) (A : Around) (h : Heap) (a : Addr) (ss : List Str) (it : Addr) (h' : Heap) : Prop where
  old : ∀ b o, h.get? b = some o → h'.get? b = some o
  new : h.objs.size ≤ it
  walk : ∃ fp St, ∃ xs : List Value, Walks prog w A it fp [it] xs.length (fun i v => xs[i]? = some v) St ∧ St 0 h' ∧ (∀ b ∈ fp, b = a ∨ h.objs.size ≤ b) ∧ (∀ v ∈ xs, ∃ x u, v = Value.str x u) ∧ (xs.map txtOf).Perm ss
end
end L2


namespace L2
open PySem PySem.Spec PyProof.Rows
set_option maxRecDepth 100000
section
variable {prog : Program} {w : World} {A : Around} {E : Value → Shared → Prop} {s : Shared}
end
end L2


namespace L2
open PySem PySem.Spec PyProof.Rows
set_option maxRecDepth 100000
/-! ### texts in their order, each once -/
def ins (x : List Nat) : List (List Nat) → List (List Nat)
  | [] => [x]
  | y :: r => if x = y then y :: r else if x < y then x :: y :: r else y :: ins x r
def srt (l : List (List Nat)) : List (List Nat) := l.foldr ins []
section
variable {prog : Program} {w : World} {A : Around} {E : Value → Shared → Prop} {s : Shared}
end
end L2


namespace L2
open PySem PySem.Spec PyProof.Rows
set_option maxRecDepth 100000
section
variable {X : Cx}
/-- sorted(set(e)), e a list of texts -/
def cSortSet (K : PySem.W.Frag) (te : TE) : TE := fun σ H Q => te σ H fun x H1 => match x with
  | .ref p => ∃ ls : List (List Nat), SqL K H1 p (ls.map fun l => V.str (st l)) ∧ ls.length ≤ 4000 ∧ (srt ls).length < 64 ∧ ∀ q, H1 q = none → Q (.ref q) (upd H1 q (.lst ((srt ls).map fun l => V.str (st l))))
  | _ => False
theorem a_cSortSet {K : PySem.W.Frag} {te : TE} {σ : St} {H : Hp} {Q : VK} : cSortSet K te σ H Q = te σ H fun x H1 => match x with
  | .ref p => ∃ ls : List (List Nat), SqL K H1 p (ls.map fun l => V.str (st l)) ∧ ls.length ≤ 4000 ∧ (srt ls).length < 64 ∧ ∀ q, H1 q = none → Q (.ref q) (upd H1 q (.lst ((srt ls).map fun l => V.str (st l))))
  | _ => False := rfl
end
end L2


namespace L2
open PySem PySem.Spec PyProof.Rows
set_option maxRecDepth 100000
/-! ### == and != of lists and tuples, however deep -/
inductive D where
  | f (v : V) | l (xs : List D) | t (xs : List D)
mutual
def eqD : D → D → Bool
  | .f x, .f y => eqV x y
  | .l xs, .l ys => eqDs xs ys
  | .t xs, .t ys => eqDs xs ys
  | .f _, .l _ => false
  | .f _, .t _ => false
  | .l _, .f _ => false
  | .l _, .t _ => false
  | .t _, .f _ => false
  | .t _, .l _ => false
def eqDs : List D → List D → Bool
  | [], [] => true
  | x :: xs, y :: ys => eqD x y && eqDs xs ys
  | [], _ :: _ => false
  | _ :: _, [] => false
end
/-- the value x reads as d, at most n deep -/
def Deep (K : PySem.W.Frag) (H : Hp) : Nat → V → D → Prop
  | 0, v, d => d = .f v ∧ flatV v = true
  | n + 1, v, d => (d = .f v ∧ flatV v = true) ∨ (∃ a vs ds, v = .ref a ∧ d = .l ds ∧ SqL K H a vs ∧ Paired (Deep K H n) vs ds) ∨ (∃ a vs ds, v = .ref a ∧ d = .t ds ∧ SqT K H a vs ∧ Paired (Deep K H n) vs ds)
theorem eqDs_len : ∀ {xs ys : List D}, xs.length ≠ ys.length → eqDs xs ys = false
  | [], [], h => absurd rfl h
  | [], _ :: _, _ => by rw [eqDs]
  | _ :: _, [], _ => by rw [eqDs]
  | x :: xs, y :: ys, h => by
    rw [eqDs, eqDs_len (xs := xs) (ys := ys) (fun e => h (by simp [e])), Bool.and_false]
theorem eqV_refl {v : V} (h : flatV v = true) : eqV v v = true := by
  cases v <;> simp_all [flatV, eqV]
section
variable {X : Cx} {pins : List (Addr × Obj)} {σ : St} {H : Hp} {s : Shared}
theorem list_flat {A : Around} {l : Addr} {items : Array Value} {y : V} {v : Value} (hl : s.heap.IsList l items) (hu : A.units < cLine) (r : RelV y v) (f : flatV y = true) : SeqAt.EqAt A s (.ref l) v false := by
  cases y with
  | non => cases r; exact .list_none hl hu
  | bl b => cases r; exact .list_bool b hl hu
  | int i => obtain ⟨t, rfl⟩ := r; exact .list_int i t hl hu
  | str x => obtain ⟨t, rfl⟩ := r; exact .list_str x t hl hu
  | _ => exact absurd (show false = true from f) Bool.false_ne_true
theorem flat_list {A : Around} {l : Addr} {items : Array Value} {y : V} {v : Value} (hl : s.heap.IsList l items) (hu : A.units < cLine) (r : RelV y v) (f : flatV y = true) : SeqAt.EqAt A s v (.ref l) false := by
  cases y with
  | non => cases r; exact .none_list hl hu
  | bl b => cases r; exact .bool_list b hl hu
  | int i => obtain ⟨t, rfl⟩ := r; exact .int_list i t hl hu
  | str x => obtain ⟨t, rfl⟩ := r; exact .str_list x t hl hu
  | _ => exact absurd (show false = true from f) Bool.false_ne_true
theorem tuple_flat {A : Around} {l : Addr} {items : Array Value} {y : V} {v : Value} (hl : s.heap.IsTuple l items) (hu : A.units < cLine) (r : RelV y v) (f : flatV y = true) : SeqAt.EqAt A s (.ref l) v false := by
  cases y with
  | non => cases r; exact .tuple_none hl hu
  | bl b => cases r; exact .tuple_bool b hl hu
  | int i => obtain ⟨t, rfl⟩ := r; exact .tuple_int i t hl hu
  | str x => obtain ⟨t, rfl⟩ := r; exact .tuple_str x t hl hu
  | _ => exact absurd (show false = true from f) Bool.false_ne_true
theorem flat_tuple {A : Around} {l : Addr} {items : Array Value} {y : V} {v : Value} (hl : s.heap.IsTuple l items) (hu : A.units < cLine) (r : RelV y v) (f : flatV y = true) : SeqAt.EqAt A s v (.ref l) false := by
  cases y with
  | non => cases r; exact .none_tuple hl hu
  | bl b => cases r; exact .bool_tuple b hl hu
  | int i => obtain ⟨t, rfl⟩ := r; exact .int_tuple i t hl hu
  | str x => obtain ⟨t, rfl⟩ := r; exact .str_tuple x t hl hu
  | _ => exact absurd (show false = true from f) Bool.false_ne_true
theorem apart_lt (I : Inv X pins σ H s) {a : Addr} {vs ws : List V} (h : SqL X.K H a vs) (k : SqT X.K H a ws) : False := by
  obtain ⟨_, _, p1, _⟩ := I.list h
  obtain ⟨_, _, p2, _⟩ := I.tuple k
  exact SeqAt.ne_of_list_tuple p1.isList p2 rfl
/-- what one value reads as is equal to itself -/
theorem deep_same (I : Inv X pins σ H s) : ∀ (n : Nat) (v : V) (d d' : D), Deep X.K H n v d → Deep X.K H n v d' → eqD d d' = true
  | 0, v, d, d', ⟨e, f⟩, ⟨e', _⟩ => by subst e; subst e'; rw [eqD]; exact eqV_refl f
  | n + 1, v, d, d', h, h' => by
    have pr : ∀ (vs : List V) (ds ds' : List D), Paired (Deep X.K H n) vs ds → Paired (Deep X.K H n) vs ds' → eqDs ds ds' = true := by
      intro vs
      induction vs with
      | nil => intro ds ds' p q; cases p; cases q; rw [eqDs]
      | cons v vs ih =>
        intro ds ds' p q
        cases p with
        | cons p1 p2 => cases q with
          | cons q1 q2 => rw [eqDs, deep_same I n v _ _ p1 q1, ih _ _ p2 q2]; rfl
    rcases h with ⟨e, f⟩ | ⟨a, vs, ds, rfl, rfl, ha, p⟩ | ⟨a, vs, ds, rfl, rfl, ha, p⟩
    · rcases h' with ⟨e', _⟩ | ⟨a', vs', ds', rfl, _⟩ | ⟨a', vs', ds', rfl, _⟩
      · subst e; subst e'; rw [eqD]; exact eqV_refl f
      · exact absurd (show false = true from f) Bool.false_ne_true
      · exact absurd (show false = true from f) Bool.false_ne_true
    · rcases h' with ⟨_, f⟩ | ⟨a', vs', ds', e, rfl, ha', p'⟩ | ⟨a', vs', ds', e, rfl, ha', p'⟩
      · exact absurd (show false = true from f) Bool.false_ne_true
      · cases e
        obtain rfl := I.list_inj ha ha'
        rw [eqD]; exact pr vs ds ds' p p'
      · cases e
        exact (apart_lt I ha ha').elim
    · rcases h' with ⟨_, f⟩ | ⟨a', vs', ds', e, rfl, ha', p'⟩ | ⟨a', vs', ds', e, rfl, ha', p'⟩
      · exact absurd (show false = true from f) Bool.false_ne_true
      · cases e
        exact (apart_lt I ha' ha).elim
      · cases e
        obtain rfl := I.tuple_inj ha ha'
        rw [eqD]; exact pr vs ds ds' p p'
/-- the answers of the items, in their order -/
def eqNth (ds ds' : List D) (j : Nat) : Bool := match ds[j]?, ds'[j]? with
  | some d, some d' => eqD d d'
  | _, _ => true
theorem all_eqNth : ∀ {ds ds' : List D}, ds.length = ds'.length → (List.range ds.length).all (eqNth ds ds') = eqDs ds ds'
  | [], [], _ => by rw [eqDs]; rfl
  | d :: ds, d' :: ds', h => by
    have ih := all_eqNth (ds := ds) (ds' := ds') (by simpa using h)
    rw [List.length_cons, List.range_succ_eq_map, List.all_cons, List.all_map, eqDs]
    have e : eqNth (d :: ds) (d' :: ds') 0 = eqD d d' := rfl
    have e2 : (eqNth (d :: ds) (d' :: ds') ∘ Nat.succ) = eqNth ds ds' := funext fun j => by simp [eqNth]
    rw [e, e2, ih]
theorem paired_at {α β : Type} {F : α → β → Prop} : ∀ {l : List α} {m : List β}, Paired F l m → ∀ {j : Nat} {x : α}, l[j]? = some x → ∃ y, m[j]? = some y ∧ F x y
  | _, _, .nil, j, x, h => by simp at h
  | _, _, .cons p r, 0, x, h => by simp at h; subst h; exact ⟨_, rfl, p⟩
  | _, _, .cons p r, j + 1, x, h => by simpa using paired_at r (j := j) (by simpa using h)
theorem deep_eqAt (I : Inv X pins σ H s) : ∀ (n : Nat) (A : Around) (x y : V) (dx dy : D) (u v : Value), A.units + n < cLine → Deep X.K H n x dx → Deep X.K H n y dy → RelV x u → RelV y v → SeqAt.EqAt A s u v (eqD dx dy)
  | 0, A, x, y, dx, dy, u, v, _, ⟨e, f⟩, ⟨e', f'⟩, ru, rv => by subst e; subst e'; rw [eqD]; exact eqAt_V ru rv f f'
  | n + 1, A, x, y, dx, dy, u, v, hu, hx, hy, ru, rv => by
    have hu0 : A.units < cLine := by omega
    have items : ∀ (vs ws : List V) (ds ds' : List D) (us us' : List Value), Paired (Deep X.K H n) vs ds → Paired (Deep X.K H n) ws ds' → Vals vs us → Vals ws us' →
        ∀ j (h1 : j < us.toArray.size) (h2 : j < us'.toArray.size), SeqAt.EqAt A.in1 s us.toArray[j] us'.toArray[j] (eqNth ds ds' j) := by
      intro vs ws ds ds' us us' p q r r' j h1 h2
      have l1 := r.length
      have l2 := r'.length
      simp only [List.size_toArray] at h1 h2
      have g1 : vs[j]? = some (vs[j]'(by omega)) := List.getElem?_eq_getElem _
      have g2 : ws[j]? = some (ws[j]'(by omega)) := List.getElem?_eq_getElem _
      obtain ⟨d, hd, fd⟩ := paired_at p g1
      obtain ⟨d', hd', fd'⟩ := paired_at q g2
      obtain ⟨c, hc, rc⟩ := r.get g1
      obtain ⟨c', hc', rc'⟩ := r'.get g2
      have e1 : us.toArray[j] = c := by rw [List.getElem?_eq_getElem h1] at hc; simpa using hc
      have e2 : us'.toArray[j] = c' := by rw [List.getElem?_eq_getElem h2] at hc'; simpa using hc'
      rw [e1, e2]
      unfold eqNth
      rw [hd, hd']
      exact deep_eqAt I n A.in1 _ _ d d' c c' (by rw [Around.in1_units]; omega) fd fd' rc rc'
    rcases hx with ⟨e, f⟩ | ⟨a, vs, ds, rfl, rfl, ha, p⟩ | ⟨a, vs, ds, rfl, rfl, ha, p⟩
    · subst e
      rcases hy with ⟨e', f'⟩ | ⟨b, ws, ds', rfl, rfl, hb, q⟩ | ⟨b, ws, ds', rfl, rfl, hb, q⟩
      · subst e'; rw [eqD]; exact eqAt_V ru rv f f'
      · cases rv
        obtain ⟨_, _, pl, _⟩ := I.list hb
        rw [eqD]; exact flat_list pl.isList hu0 ru f
      · cases rv
        obtain ⟨_, _, pl, _⟩ := I.tuple hb
        rw [eqD]; exact flat_tuple pl hu0 ru f
    · cases ru
      obtain ⟨us, r1, pl, _⟩ := I.list ha
      rcases hy with ⟨e', f'⟩ | ⟨b, ws, ds', rfl, rfl, hb, q⟩ | ⟨b, ws, ds', rfl, rfl, hb, q⟩
      · subst e'; rw [eqD]; exact list_flat pl.isList hu0 rv f'
      · cases rv
        by_cases eab : a = b
        · subst eab
          have := deep_same I (n + 1) (.ref a) (.l ds) (.l ds') (.inr (.inl ⟨a, vs, ds, rfl, rfl, ha, p⟩)) (.inr (.inl ⟨a, ws, ds', rfl, rfl, hb, q⟩))
          rw [this]
          exact SeqAt.EqAt.same _
        · obtain ⟨us', r2, pl2, _⟩ := I.list hb
          have l1 := r1.length
          have l2 := r2.length
          have l3 := p.length
          have l4 := q.length
          rw [eqD]
          by_cases el : ds.length = ds'.length
          · rw [← all_eqNth el, show ds.length = us.toArray.size by simp only [List.size_toArray]; omega]
            exact .of_refs eab (.lists pl.isList pl2.isList (by simp only [List.size_toArray]; omega) hu0 (items vs ws ds ds' us us' p q r1 r2))
          · rw [eqDs_len el]
            exact .of_refs eab (.lists_lengths pl.isList pl2.isList (by simp only [List.size_toArray, bne_iff_ne, ne_eq]; omega) hu0)
      · cases rv
        obtain ⟨_, _, pl2, _⟩ := I.tuple hb
        rw [eqD]; exact .list_tuple pl.isList pl2 hu0
    · cases ru
      obtain ⟨us, r1, pl, _⟩ := I.tuple ha
      rcases hy with ⟨e', f'⟩ | ⟨b, ws, ds', rfl, rfl, hb, q⟩ | ⟨b, ws, ds', rfl, rfl, hb, q⟩
      · subst e'; rw [eqD]; exact tuple_flat pl hu0 rv f'
      · cases rv
        obtain ⟨_, _, pl2, _⟩ := I.list hb
        rw [eqD]; exact .tuple_list pl pl2.isList hu0
      · cases rv
        by_cases eab : a = b
        · subst eab
          have := deep_same I (n + 1) (.ref a) (.t ds) (.t ds') (.inr (.inr ⟨a, vs, ds, rfl, rfl, ha, p⟩)) (.inr (.inr ⟨a, ws, ds', rfl, rfl, hb, q⟩))
          rw [this]
          exact SeqAt.EqAt.same _
        · obtain ⟨us', r2, pl2, _⟩ := I.tuple hb
          have l1 := r1.length
          have l2 := r2.length
          have l3 := p.length
          have l4 := q.length
          rw [eqD]
          have key : eqDs ds ds' = ((List.range (min us.toArray.size us'.toArray.size)).all (eqNth ds ds') && us.toArray.size == us'.toArray.size) := by
            by_cases el : ds.length = ds'.length
            · rw [← all_eqNth el, show min us.toArray.size us'.toArray.size = ds.length by simp only [List.size_toArray]; omega, show (us.toArray.size == us'.toArray.size) = true by simp only [List.size_toArray, beq_iff_eq]; omega, Bool.and_true]
            · rw [eqDs_len el, show (us.toArray.size == us'.toArray.size) = false by simp only [List.size_toArray, beq_eq_false_iff_ne, ne_eq]; omega, Bool.and_false]
          rw [key]
          exact .of_refs eab (.tuples pl pl2 hu0 (items vs ws ds ds' us us' p q r1 r2))
end
end L2


namespace L2
open PySem PySem.Spec PyProof.Rows
set_option maxRecDepth 100000
section
variable {X : Cx} {pins : List (Addr × Obj)} {σ : St} {H : Hp} {s : Shared}
theorem deep_items (I : Inv X pins σ H s) {n : Nat} {A : Around} (hu : A.units + n + 1 < cLine) {vs ws : List V} {ds ds' : List D} {us us' : List Value} (p : Paired (Deep X.K H n) vs ds) (q : Paired (Deep X.K H n) ws ds') (r : Vals vs us) (r' : Vals ws us') :
    ∀ j (h1 : j < us.toArray.size) (h2 : j < us'.toArray.size), SeqAt.EqAt A.in1 s us.toArray[j] us'.toArray[j] (eqNth ds ds' j) := by
  intro j h1 h2
  have l1 := r.length
  have l2 := r'.length
  simp only [List.size_toArray] at h1 h2
  have g1 : vs[j]? = some (vs[j]'(by omega)) := List.getElem?_eq_getElem _
  have g2 : ws[j]? = some (ws[j]'(by omega)) := List.getElem?_eq_getElem _
  obtain ⟨d, hd, fd⟩ := paired_at p g1
  obtain ⟨d', hd', fd'⟩ := paired_at q g2
  obtain ⟨c, hc, rc⟩ := r.get g1
  obtain ⟨c', hc', rc'⟩ := r'.get g2
  have e1 : us.toArray[j] = c := by rw [List.getElem?_eq_getElem h1] at hc; simpa using hc
  have e2 : us'.toArray[j] = c' := by rw [List.getElem?_eq_getElem h2] at hc'; simpa using hc'
  rw [e1, e2]
  unfold eqNth
  rw [hd, hd']
  exact deep_eqAt I n A.in1 _ _ d d' c c' (by rw [Around.in1_units]; omega) fd fd' rc rc'
/-- a == b, a != b of lists and tuples -/
def kEqD (K : PySem.W.Frag) (neg : Bool) : R2 := fun x y H Q => match x, y with
  | .ref a, .ref b => ∃ n dx dy, n ≤ 100 ∧ Deep K H n (.ref a) dx ∧ Deep K H n (.ref b) dy ∧ Q (.bl (neg ^^ eqD dx dy)) H
  | _, _ => False
theorem tuple_key {us us' : List Value} {ds ds' : List D} (l1 : ds.length = us.length) (l2 : ds'.length = us'.length) : ((List.range (min us.toArray.size us'.toArray.size)).all (eqNth ds ds') && us.toArray.size == us'.toArray.size) = eqDs ds ds' := by
  by_cases el : ds.length = ds'.length
  · rw [← all_eqNth el, show min us.toArray.size us'.toArray.size = ds.length by simp only [List.size_toArray]; omega, show (us.toArray.size == us'.toArray.size) = true by simp only [List.size_toArray, beq_iff_eq]; omega, Bool.and_true]
  · rw [eqDs_len el, show (us.toArray.size == us'.toArray.size) = false by simp only [List.size_toArray, beq_eq_false_iff_ne, ne_eq]; omega, Bool.and_false]
theorem eqDE (K : PySem.W.Frag) (hK : X.K = K) {k : Nat} (hr : Room k X.A) : OpR X (compareOp .Eq) (kEqD K false) := by
  subst hK
  intro pins s σ H x y v u Q I rx ry h
  unfold kEqD at h
  split at h
  · rename_i a b
    obtain ⟨n, dx, dy, hn, hx, hy, q⟩ := h
    cases rx
    cases ry
    simp only [Bool.false_bne] at q
    have hu := hr.un
    cases n with
    | zero => exact absurd (show false = true from hx.2) Bool.false_ne_true
    | succ n =>
      rcases hx with ⟨_, f⟩ | ⟨a', vs, ds, e, rfl, ha, p⟩ | ⟨a', vs, ds, e, rfl, ha, p⟩
      · exact absurd (show false = true from f) Bool.false_ne_true
      · cases e
        obtain ⟨us, r1, pl, _⟩ := I.list ha
        have l1 := r1.length
        have l3 := p.length
        rcases hy with ⟨_, f⟩ | ⟨b', ws, ds', e, rfl, hb, p'⟩ | ⟨b', ws, ds', e, rfl, hb, p'⟩
        · exact absurd (show false = true from f) Bool.false_ne_true
        · cases e
          obtain ⟨us', r2, pl2, _⟩ := I.list hb
          have l2 := r2.length
          have l4 := p'.length
          rw [eqD] at q
          by_cases el : ds.length = ds'.length
          · refine SeqAt.eq_listAt (e := eqNth ds ds') pl.isList pl2.isList (by simp only [List.size_toArray]; omega) (by omega) (deep_items I (by omega) p p' r1 r2) ?_
            rw [show us.toArray.size = ds.length by simp only [List.size_toArray]; omega, all_eqNth el]
            exact ⟨.bl _, H, I, rfl, q⟩
          · refine SeqAt.eq_list_lengthsAt pl.isList pl2.isList (by simp only [List.size_toArray, bne_iff_ne, ne_eq]; omega) (by omega) ?_
            rw [eqDs_len el] at q
            exact ⟨.bl _, H, I, rfl, q⟩
        · cases e
          obtain ⟨us', r2, pl2, _⟩ := I.tuple hb
          rw [eqD] at q
          exact SeqAt.RcAt.list_tuple pl.isList pl2 (by omega) _ _ _ _ ⟨.bl _, H, I, rfl, q⟩
      · cases e
        obtain ⟨us, r1, pl, _⟩ := I.tuple ha
        have l1 := r1.length
        have l3 := p.length
        rcases hy with ⟨_, f⟩ | ⟨b', ws, ds', e, rfl, hb, p'⟩ | ⟨b', ws, ds', e, rfl, hb, p'⟩
        · exact absurd (show false = true from f) Bool.false_ne_true
        · cases e
          obtain ⟨us', r2, pl2, _⟩ := I.list hb
          rw [eqD] at q
          exact SeqAt.RcAt.tuple_list pl pl2.isList (by omega) _ _ _ _ ⟨.bl _, H, I, rfl, q⟩
        · cases e
          obtain ⟨us', r2, pl2, _⟩ := I.tuple hb
          have l2 := r2.length
          have l4 := p'.length
          rw [eqD] at q
          refine SeqAt.eq_tupleAt (e := eqNth ds ds') pl pl2 (by omega) (deep_items I (by omega) p p' r1 r2) ?_
          rw [tuple_key (by omega) (by omega)]
          exact ⟨.bl _, H, I, rfl, q⟩
  · exact h.elim
theorem neDE (K : PySem.W.Frag) (hK : X.K = K) {k : Nat} (hr : Room k X.A) : OpR X (compareOp .NotEq) (kEqD K true) := by
  subst hK
  intro pins s σ H x y v u Q I rx ry h
  unfold kEqD at h
  split at h
  · rename_i a b
    obtain ⟨n, dx, dy, hn, hx, hy, q⟩ := h
    cases rx
    cases ry
    simp only [Bool.true_bne] at q
    have hu := hr.un
    cases n with
    | zero => exact absurd (show false = true from hx.2) Bool.false_ne_true
    | succ n =>
      rcases hx with ⟨_, f⟩ | ⟨a', vs, ds, e, rfl, ha, p⟩ | ⟨a', vs, ds, e, rfl, ha, p⟩
      · exact absurd (show false = true from f) Bool.false_ne_true
      · cases e
        obtain ⟨us, r1, pl, _⟩ := I.list ha
        have l1 := r1.length
        have l3 := p.length
        rcases hy with ⟨_, f⟩ | ⟨b', ws, ds', e, rfl, hb, p'⟩ | ⟨b', ws, ds', e, rfl, hb, p'⟩
        · exact absurd (show false = true from f) Bool.false_ne_true
        · cases e
          obtain ⟨us', r2, pl2, _⟩ := I.list hb
          have l2 := r2.length
          have l4 := p'.length
          rw [eqD] at q
          by_cases el : ds.length = ds'.length
          · refine SeqAt.RcNeAt.lists (e := eqNth ds ds') pl.isList pl2.isList (by simp only [List.size_toArray]; omega) (by omega) (deep_items I (by omega) p p' r1 r2) _ _ _ _ ?_
            rw [show us.toArray.size = ds.length by simp only [List.size_toArray]; omega, all_eqNth el]
            exact ⟨.bl _, H, I, rfl, q⟩
          · refine SeqAt.RcNeAt.lists_lengths pl.isList pl2.isList (by simp only [List.size_toArray, bne_iff_ne, ne_eq]; omega) (by omega) _ _ _ _ ?_
            rw [eqDs_len el] at q
            exact ⟨.bl _, H, I, rfl, q⟩
        · cases e
          obtain ⟨us', r2, pl2, _⟩ := I.tuple hb
          rw [eqD] at q
          exact SeqAt.RcNeAt.list_tuple pl.isList pl2 (by omega) _ _ _ _ ⟨.bl _, H, I, rfl, q⟩
      · cases e
        obtain ⟨us, r1, pl, _⟩ := I.tuple ha
        have l1 := r1.length
        have l3 := p.length
        rcases hy with ⟨_, f⟩ | ⟨b', ws, ds', e, rfl, hb, p'⟩ | ⟨b', ws, ds', e, rfl, hb, p'⟩
        · exact absurd (show false = true from f) Bool.false_ne_true
        · cases e
          obtain ⟨us', r2, pl2, _⟩ := I.list hb
          rw [eqD] at q
          exact SeqAt.RcNeAt.tuple_list pl pl2.isList (by omega) _ _ _ _ ⟨.bl _, H, I, rfl, q⟩
        · cases e
          obtain ⟨us', r2, pl2, _⟩ := I.tuple hb
          have l2 := r2.length
          have l4 := p'.length
          rw [eqD] at q
          refine SeqAt.RcNeAt.tuples (e := eqNth ds ds') pl pl2 (by omega) (deep_items I (by omega) p p' r1 r2) _ _ _ _ ?_
          rw [tuple_key (by omega) (by omega)]
          exact ⟨.bl _, H, I, rfl, q⟩
  · exact h.elim
end
end L2


namespace L2
open PySem PySem.Spec PyProof.Rows
set_option maxRecDepth 100000
section
variable {X : Cx}
/-- xs != [] -/
def kNeNil (K : PySem.W.Frag) : R2 := fun x y H Q => match x, y with
  | .ref a, .ref b => ∃ xs, SqL K H a xs ∧ SqL K H b [] ∧ Q (.bl (!decide (xs = []))) H
  | _, _ => False
theorem a_kNeNil {K : PySem.W.Frag} {a b : Addr} {H : Hp} {Q : VK} : kNeNil K (.ref a) (.ref b) H Q = ∃ xs, SqL K H a xs ∧ SqL K H b [] ∧ Q (.bl (!decide (xs = []))) H := rfl
theorem a_kEqD {K : PySem.W.Frag} {n : Bool} {a b : Addr} {H : Hp} {Q : VK} : kEqD K n (.ref a) (.ref b) H Q = ∃ k dx dy, k ≤ 100 ∧ Deep K H k (.ref a) dx ∧ Deep K H k (.ref b) dy ∧ Q (.bl (n ^^ eqD dx dy)) H := rfl
/-- any of a list of truths -/
def kAny (K : PySem.W.Frag) : List V → Hp → VK → Prop := fun xs H Q => match xs with
  | [.ref p] => ∃ bs : List Bool, SqL K H p (bs.map V.bl) ∧ Q (.bl (bs.any id)) H
  | _ => False
theorem vals_bools {bs : List Bool} : ∀ {us : List Value}, Vals (bs.map V.bl) us → us = bs.map Value.bool := by
  induction bs with
  | nil => intro us h; cases h; rfl
  | cons b bs ih =>
    intro us h
    cases h with
    | cons r t => cases r; rw [ih t]; rfl
theorem call_anyK (K : PySem.W.Frag) (hK : X.K = K) (hc : X.calm = true) : CallR X (.builtin "any") (kAny K) := by
  subst hK
  intro pins s σ H xs us Q I r q
  unfold kAny at q
  split at q
  · rename_i p
    obtain ⟨bs, hq, q⟩ := q
    obtain ⟨u, rfl, ru⟩ := vals1 r
    cases ru
    obtain ⟨its, rv, pl, _⟩ := I.list hq
    obtain rfl := vals_bools rv
    have hl : s.heap.IsList p (bs.map Value.bool).toArray := pl.isList
    have hp : p < s.heap.objs.size := by obtain ⟨o, ho, _⟩ := hl; exact Heap.lt_size ho
    refine tokQ I.tk (call_any_walk (wpAny_pyIter_list hl ?_))
    refine ⟨_, _, _, _, _, _, fun i => (bs[i]?).getD false, rfl, Walks.list (A := X.A.in1) (I.ok.hd hc) _ p (Nat.ne_of_lt hp) (bs.map Value.bool).toArray, ⟨⟨_, Heap.get?_push_size _ rfl, rfl, rfl⟩, hl.push _⟩, ?_, fun h' tk k (htk : 0 < tk) => ?_⟩
    · intro i v s' Q' E' hP hQ'
      have hi : bs[i]?.map Value.bool = some v := by simpa using hP
      cases hb : bs[i]? with
      | none => rw [hb] at hi; cases hi
      | some b =>
        have e : (fun i => (bs[i]?).getD false) i = b := by simp [hb]
        rw [e] at hQ'
        rw [hb] at hi
        cases hi
        exact wpAny_truthy_bool hQ'
    · have e : ((List.range (bs.map Value.bool).toArray.size).any fun i => (bs[i]?).getD false) = bs.any id := by
        simp only [List.size_toArray, List.length_map]
        rw [Bool.eq_iff_iff, List.any_eq_true, List.any_eq_true]
        constructor
        · rintro ⟨i, hi, h⟩
          have hi : i < bs.length := by simpa using hi
          rw [List.getElem?_eq_getElem hi] at h
          exact ⟨bs[i], List.getElem_mem hi, h⟩
        · rintro ⟨b, hb, h⟩
          obtain ⟨i, hi, rfl⟩ := List.getElem_of_mem hb
          exact ⟨i, by simpa using hi, by rw [List.getElem?_eq_getElem hi]; exact h⟩
      rw [e]
      refine ⟨.bl _, H, I.kept (fun b o q => k b o ?_ (Heap.get?_push_of_some _ q)), rfl, q⟩
      intro z
      have := Heap.lt_size q
      rw [List.mem_singleton.mp z] at this
      exact Nat.lt_irrefl _ this
  · exact q.elim
theorem a_kAny {K : PySem.W.Frag} {p : Addr} {H : Hp} {Q : VK} : kAny K [.ref p] H Q = ∃ bs : List Bool, SqL K H p (bs.map V.bl) ∧ Q (.bl (bs.any id)) H := rfl
/-- ints in their order -/
def insI (x : Int) : List Int → List Int
  | [] => [x]
  | y :: r => if x ≤ y then x :: y :: r else y :: insI x r
def srtI (l : List Int) : List Int := l.foldr insI []
def kSorted (K : PySem.W.Frag) : List V → Hp → VK → Prop := fun xs H Q => match xs with
  | [.ref p] => ∃ ns : List Int, SqL K H p (ns.map V.int) ∧ ns.length < 64 ∧ ∀ q, H q = none → Q (.ref q) (upd H q (.lst ((srtI ns).map V.int)))
  | _ => False
theorem a_kSorted {K : PySem.W.Frag} {p : Addr} {H : Hp} {Q : VK} : kSorted K [.ref p] H Q = ∃ ns : List Int, SqL K H p (ns.map V.int) ∧ ns.length < 64 ∧ ∀ q, H q = none → Q (.ref q) (upd H q (.lst ((srtI ns).map V.int))) := rfl
end
end L2


namespace L2
open PySem PySem.Spec PyProof.Rows
set_option maxRecDepth 100000
section
variable {X : Cx}
/-- list(range(e)) -/
def cListRng (te : TE) : TE := fun σ H Q => te σ H fun x H1 => match x with
  | .int j => -(2 ^ 62) ≤ j ∧ j ≤ 10000 ∧ ∀ p, H1 p = none → Q (.ref p) (upd H1 p (.lst ((List.range j.toNat).map fun (i : Nat) => V.int i)))
  | _ => False
theorem a_cListRng {te : TE} {σ : St} {H : Hp} {Q : VK} : cListRng te σ H Q = te σ H fun x H1 => match x with
  | .int j => -(2 ^ 62) ≤ j ∧ j ≤ 10000 ∧ ∀ p, H1 p = none → Q (.ref p) (upd H1 p (.lst ((List.range j.toNat).map fun (i : Nat) => V.int i)))
  | _ => False := rfl
end
/-! ### lists of texts, of tuples of flat things: how they read and when they are equal -/
theorem deep_flat {K : PySem.W.Frag} {H : Hp} {v : V} (n : Nat) (f : flatV v = true) : Deep K H n v (.f v) := by
  cases n with
  | zero => exact ⟨rfl, f⟩
  | succ n => exact .inl ⟨rfl, f⟩
abbrev tx (l : List Nat) : V := V.str (st l)
end L2


namespace L2
open PySem PySem.Spec PyProof.Rows
section
variable {K : PySem.W.Frag} {g : TG} {tc : TT} {te : TE} {σc : St} {D : Addr} {Q : VK} {H : Hp}
/-- a comprehension over a list whose items are new things: R says what stands at them -/
theorem comp_rel {α : Type} (item : α → V) (xs : List α) (keep : α → Bool) (R : α → V → Hp → Prop) {p : Addr} (hfree : H D = none) (hl : SqL K H p (xs.map item)) (hn : xs.length ≤ 100000)
    (mono : ∀ x v H1 H2 acc, H1 D = some (.lst acc) → (∀ b o, b ≠ D → H1 b = some o → H2 b = some o) → R x v H1 → R x v H2)
    (hs : ∀ x H1 (out : VK) (non : Hp → Prop), x ∈ xs → Same H H1 → (∀ v H6, keep x = true → Same H1 H6 → R x v H6 → out v H6) → (∀ H5, keep x = false → Same H1 H5 → non H5) →
      g (item x) σc H1 fun σ4 H4 => tc σ4 H4 fun b H5 => if b = true then te σ4 H5 out else non H5)
    (hq : ∀ H' vs, Same H H' → H' D = some (.lst vs) → Paired (fun x v => R x v H') (xs.filter keep) vs → Q (.ref D) H') : compW (Itl K p) g tc te σc D Q H := by
  refine ⟨fun i m acc H2 => m = xs.length - i ∧ i ≤ xs.length ∧ Paired (fun x v => R x v H2) ((xs.take i).filter keep) acc ∧ Same H H2 ∧ H2 D = some (.lst acc), ⟨xs.length, by simp, Nat.zero_le _, .nil, same_new hfree _, upd_same⟩, ?_⟩
  rintro i m acc H2 ⟨rfl, hi, pr, sm, hD⟩
  have len : acc.length ≤ i := by
    have a := pr.length
    have b := List.length_filter_le keep (xs.take i)
    rw [List.length_take] at b
    omega
  by_cases hlt : i < xs.length
  · refine .inr ⟨⟨_, item xs[i], sm.seq hl, by simp [hlt]⟩, fun x H3 y => ?_⟩
    obtain ⟨rfl, y⟩ := y
    have e := y _ (sm.seq hl)
    rw [List.getElem?_map, List.getElem?_eq_getElem hlt] at e
    have e2 : item xs[i] = x := Option.some.inj e
    subst e2
    have ht : xs.take (i + 1) = xs.take i ++ [xs[i]] := by rw [List.take_add_one, List.getElem?_eq_getElem hlt]; rfl
    refine hs xs[i] _ _ _ (List.getElem_mem hlt) sm (fun v H6 k s6 r => ?_) fun H5 k s5 => ?_
    · refine ⟨s6 _ _ hD, Nat.lt_of_le_of_lt len (sizeBig (by omega)), xs.length - (i + 1), by omega, rfl, hlt, ?_, ?_, upd_same⟩
      · have m1 : ∀ x v, R x v H6 → R x v (upd H6 D (.lst (acc ++ [v]))) := fun x v r => mono x v H6 _ acc (s6 _ _ hD) (fun b o nb q => by rw [upd_ne nb]; exact q) r
        rw [ht, List.filter_append]
        have f1 : [xs[i]].filter keep = [xs[i]] := by simp [k]
        rw [f1]
        have lift : ∀ {l : List α} {vs : List V}, Paired (fun x v => R x v H3) l vs → Paired (fun x v' => R x v' (upd H6 D (.lst (acc ++ [v])))) l vs := by
          intro l vs pp
          induction pp with
          | nil => exact .nil
          | cons r _ ih => exact .cons (mono _ _ H3 _ acc hD (fun b o nb q => by rw [upd_ne nb]; exact s6 _ _ q) r) ih
        have app : ∀ {l : List α} {vs : List V} {x : α} {v' : V} {F : α → V → Prop}, Paired F l vs → F x v' → Paired F (l ++ [x]) (vs ++ [v']) := by
          intro l vs x v' F pp r
          induction pp with
          | nil => exact .cons r .nil
          | cons r' _ ih => exact .cons r' ih
        exact app (lift pr) (m1 _ _ r)
      · exact same_upd (sm.trans s6) hfree
    · refine ⟨xs.length - (i + 1), by omega, rfl, hlt, ?_, sm.trans s5, s5 _ _ hD⟩
      rw [ht, List.filter_append]
      have f1 : [xs[i]].filter keep = [] := by simp [k]
      rw [f1, List.append_nil]
      have lift : ∀ {l : List α} {vs : List V}, Paired (fun x v => R x v H3) l vs → Paired (fun x v' => R x v' H5) l vs := by
        intro l vs pp
        induction pp with
        | nil => exact .nil
        | cons r _ ih => exact .cons (mono _ _ H3 _ acc hD (fun b o _ q => s5 _ _ q) r) ih
      exact lift pr
  · have e : i = xs.length := by omega
    subst e
    rw [List.take_length] at pr
    exact .inl ⟨⟨_, sm.seq hl, by simp⟩, hq H2 acc sm hD pr⟩
end
end L2


namespace L2
open PySem PySem.Spec PyProof.Rows
section
variable {X : Cx}
/-- xs * n -/
def kMulL : R2 := fun x y H Q => match x, y with
  | .ref l, .int k => ∃ xs, H l = some (.lst xs) ∧ 0 ≤ k ∧ k ≤ 10000 ∧ xs.length ≤ 100 ∧ ∀ p, H p = none → Q (.ref p) (upd H p (.lst (List.replicate k.toNat xs).flatten))
  | _, _ => False
theorem a_kMulL {l : Addr} {k : Int} {H : Hp} {Q : VK} : kMulL (.ref l) (.int k) H Q = ∃ xs, H l = some (.lst xs) ∧ 0 ≤ k ∧ k ≤ 10000 ∧ xs.length ≤ 100 ∧ ∀ p, H p = none → Q (.ref p) (upd H p (.lst (List.replicate k.toNat xs).flatten)) := rfl
end
theorem a_gSub {to ti : TE} {t : TSet} {v : V} {σ : St} {H : Hp} {Q : St → Hp → Prop} : gSub to ti t v σ H Q = to σ H fun o H1 => ti σ H1 fun i H2 => t o i v H2 fun H3 => Q σ H3 := rfl
theorem a_rSetL {p : Addr} {k : Int} {v : V} {H : Hp} {Q : Hp → Prop} : rSetL (.ref p) (.int k) v H Q = ∃ xs j, H p = some (.lst xs) ∧ ixN xs.length k = some j ∧ Q (upd H p (.lst (xs.set j v))) := by
  refine propext ⟨?_, ?_⟩
  · rintro ⟨p', xs, k', j, e1, e2, h⟩
    cases e1
    cases e2
    exact ⟨xs, j, h⟩
  · rintro ⟨xs, j, h⟩
    exact ⟨p, xs, k, j, rfl, rfl, h⟩
end L2


set_option linter.all false
namespace L2
open PySem PySem.Spec PyProof.Rows
/-! ### a text begins with another -/
section
variable {X : Cx} {o e : Expr} {to te : TE} {apos cpos : Pos}
def cStarts (to te : TE) : TE := fun σ H Q => to σ H fun x H1 => match x with
  | .str a => te σ H1 fun y H2 => match y with
    | .str b => Q (.bl (decide (b.cps.toList <+: a.cps.toList))) H2
    | _ => False
  | _ => False
theorem a_cStarts {σ : St} {H : Hp} {Q : VK} : cStarts to te σ H Q = to σ H fun x H1 => match x with
  | .str a => te σ H1 fun y H2 => match y with
    | .str b => Q (.bl (decide (b.cps.toList <+: a.cps.toList))) H2
    | _ => False
  | _ => False := rfl
end
/-! ### a range downwards -/
def Itd (lo : Int) (n : Nat) : It := ⟨fun i _ => i < n, fun i H x H' => H' = H ∧ x = .int (lo - i), fun i _ => n ≤ i⟩
theorem turn_down {P : Program} {w : World} {K : PySem.W.Frag} {tg : Expr} (it : Addr) (lo : Int) (n : Nat) : Turn P w K tg (Itd lo n) [it] it (fun i h => IsRangeIter h it (lo + (i : Nat) * (-1)) ((n : Int) - (i : Nat)) (-1)) where
  mem := by simp
  obj := fun i h st b hb => by
    have e : b = it := by simpa using hb
    subst e
    exact ⟨_, st, fun v z => by
      have z' : Data.fields _ = Data.cell v := z
      cases z'⟩
  keep := fun i h h' st k => k it (by simp) _ st
  item := by
    intro X hP hw hK hc i pins s σ H E I hf st hg
    subst hP hw hK
    obtain ⟨f0, f1, f2, f3, f4, f5⟩ := hf it (by simp)
    have W := Walks.range (prog := X.prog) (w := X.w) (I.ok.hd hc) it lo (-1) n
    refine tokQ I.tk (W.item i s _ _ hg st fun v h' tk hv st' kk (htk : 0 < tk) => ?_)
    obtain ⟨t, rfl⟩ := hv
    have I1 : Inv X pins σ H { s with heap := h', toks := tk } := I.turned (fun b o hb e => kk b o (by simpa using hb) e) f0 f1 f3 f4 f5
    refine ⟨_, rfl, go_of (s := { s with heap := h', toks := tk }) (n := "range_iterator") st' rfl rfl (by decide) ⟨.int (lo - i), H, I1, ⟨t, ?_⟩, ⟨rfl, rfl⟩, st', fun b hb => (hf b hb).1⟩⟩
    rw [show lo + (i : Int) * (-1) = lo - i by omega]
  done := by
    intro X hP hw hK hc i pins s σ H E I hf st hg
    subst hP hw hK
    obtain ⟨f0, f1, f2, f3, f4, f5⟩ := hf it (by simp)
    exact wpAny_pyNext_range_end (I.ok.hd hc) st (by have : n ≤ i := hg; omega) fun h' eb => ⟨rfl, I.turned (t' := s.toks) (fun b o hb e => eb b o hb e) f0 f1 f3 f4 f5⟩
  self := fun _ _ _ _ _ st h => wpAny_pyIter_rangeiter st h
theorem size_down (a b : Int) : Builtin.Range.rangeSize a b (-1) = ((a - b).toNat : Int) := by
  unfold Builtin.Range.rangeSize
  rw [if_neg (by decide), show (- -1 : Int) = 1 from rfl, Int.ediv_one]
  split <;> omega
theorem few_down {a b : Int} (h1 : -1000000 ≤ a) (h2 : a ≤ 1000000) (h3 : -1000000 ≤ b) (h4 : b ≤ 1000000) : Builtin.Range.small a b (-1) = true := by
  unfold Builtin.Range.small Builtin.Range.rangeFitsLong
  rw [size_down, if_neg (by decide)]
  simp only [Bool.and_eq_true, Bool.or_eq_true, decide_eq_true_eq, beq_iff_eq]
  omega
section
variable {X : Cx} {tg a b c : Expr} {ta tb tc : TE} {pos p : Pos}
def cRng3 (ta tb tc : TE) : TI := fun σ H R => ta σ H fun x H1 => tb σ H1 fun y H2 => tc σ H2 fun z H3 => match x, y, z with
  | .int i, .int j, .int k => k = -1 ∧ (-1000000 ≤ i ∧ i ≤ 1000000 ∧ -1000000 ≤ j ∧ j ≤ 1000000) ∧ R (Itd i (i - j).toNat) H3
  | _, _, _ => False
theorem qi_range3 (hg : Gl X "range") (hm : X.mg "range" = none) (ha : PE X a ta) (hb : PE X b tb) (hc : PE X c tc) (hs : starEach [a, b, c] X.env = [(false, eval a X.env), (false, eval b X.env), (false, eval c X.env)] := by rfl)
    (hs2 : starEach [b, c] X.env = [(false, eval b X.env), (false, eval c X.env)] := by rfl) (hs3 : starEach [c] X.env = [(false, eval c X.env)] := by rfl) :
    PI X tg (.Call (.Name "range" p) [a, b, c] [] pos) (cRng3 ta tb tc) := by
  intro pins s σ H R I h
  have hA : PA X [a, b, c] _ := pa_cons ha.mono (pa_cons hb.mono (pa_cons hc.mono pa_nil hs3) (by rw [hs2, hs3])) (by rw [hs, hs2])
  refine Call_ (ld_blt I hg hm boot_range (PyProof.Rows.callWith_type1 (thn (hA pos pins s σ H (fun vs H1 => ∃ i j : Int, vs = [.int i, .int j, .int (-1)] ∧ (-1000000 ≤ i ∧ i ≤ 1000000 ∧ -1000000 ≤ j ∧ j ≤ 1000000) ∧ R (Itd i (i - j).toNat) H1) I
    ⟨_, h, fun x H1 z => ⟨_, z, fun y H2 z => ⟨_, z, fun k H3 z => by
      split at z
      · obtain ⟨rfl, z1, z2⟩ := z
        exact ⟨_, _, rfl, z1, z2⟩
      · exact z.elim⟩⟩⟩) fun us s1 ⟨vs, H1, I1, r1, q1⟩ => ?_) (by rw [hs, hs2]) (by rw [hs2]; rfl)))
  obtain ⟨i, j, e, ⟨q1, q2, q3, q4⟩, q⟩ := q1
  subst e
  cases r1 with
  | cons r rr =>
    cases rr with
    | cons r' rr =>
      cases rr with
      | cons r'' rr =>
        cases rr
        obtain ⟨t, rfl⟩ := r
        obtain ⟨t', rfl⟩ := r'
        obtain ⟨t'', rfl⟩ := r''
        refine call_range_3 (by decide) ?_ (Or.inl (PyProof.noPylong_small (by omega)))
        refine wpAny_pyIter_range (IsRange.new ..) (few_down q1 q2 q3 q4) ?_
        have tk := I1.tk
        have I2 : Inv X pins σ H1 { s1 with heap := s1.heap.push { cls := .type "range", data := .fields #[.int i t, .int j t', .int (-1) t''] }, toks := s1.toks } := I1.kept fun b o e => Heap.get?_push_of_some _ e
        refine ⟨_, [_], _, Itd i (i - j).toNat, H1, rfl, I2.kept (t' := s1.toks) fun b o e => Heap.get?_push_of_some _ e, turn_down _ i (i - j).toNat, ?_, fun b hb => ?_, q⟩
        · show IsRangeIter _ _ (i + ((0 : Nat) : Int) * (-1)) ((((i - j).toNat : Nat) : Int) - ((0 : Nat) : Int)) (-1)
          rw [show i + ((0 : Nat) : Int) * (-1) = i by omega, show (((i - j).toNat : Nat) : Int) - ((0 : Nat) : Int) = Builtin.Range.rangeSize i j (-1) by rw [size_down]; omega]
          exact Heap.get?_push_size _ rfl
        · have e := List.mem_singleton.mp hb
          subst e
          exact I2.fpOk (Nat.le_refl _) (I2.hok.fresh (Nat.le_refl _))
theorem a_cRng3 {σ : St} {H : Hp} {R : It → Hp → Prop} : cRng3 ta tb tc σ H R = ta σ H fun x H1 => tb σ H1 fun y H2 => tc σ H2 fun z H3 => match x, y, z with
  | .int i, .int j, .int k => k = -1 ∧ (-1000000 ≤ i ∧ i ≤ 1000000 ∧ -1000000 ≤ j ∧ j ≤ 1000000) ∧ R (Itd i (i - j).toNat) H3
  | _, _, _ => False := rfl
end
section
variable {g : TG} {tb : TS} {D : Ends} {σ : St} {H : Hp}
theorem loop_down {lo : Int} {n : Nat} (Pv : Nat → St → Hp → Prop) (h0 : Pv 0 σ H) (hs : ∀ i σ H, i < n → Pv i σ H → g (.int (lo - i)) σ H fun σ2 H2 => tb (D.turn (Pv (i + 1))) σ2 H2) (hd : ∀ σ H, Pv n σ H → D.nx σ H) :
    loopW (Itd lo n) g tb D σ H :=
  for_it (n := n) Pv h0 (fun i σ H hi _ => hi) (fun σ H _ => Nat.le_refl n)
    (fun i σ H x H' hi p y => by
      obtain ⟨rfl, rfl⟩ := y
      exact hs i σ _ hi p) hd
end
/-! ### enumerate(list) -/
def Itel (K : PySem.W.Frag) (a : Addr) : It := ⟨fun i H => ∃ xs x, SqL K H a xs ∧ xs[i]? = some x, fun i H v H' => ∃ T x, v = .ref T ∧ H T = none ∧ (∀ xs, SqL K H a xs → xs[i]? = some x) ∧ H' = upd H T (.tup [.int i, x]), fun i H => ∃ xs, SqL K H a xs ∧ i = xs.length⟩
theorem turn_enumL {P : Program} {w : World} {K : PySem.W.Frag} {elts : List Expr} {kk : Nat} {pos : Pos} (a e it : Addr) (hne : e ≠ it) (hae : a ≠ e) (hai : a ≠ it) :
    Turn P w K (.Tuple elts kk pos) (Itel K a) [e, it] e (fun i h => (∃ old, IsEnum h e it i old) ∧ h.IsListIter it a i) where
  mem := by simp
  obj := fun i h st b hb => by
    obtain ⟨⟨old, he⟩, o, e', c, d⟩ := st
    simp only [List.mem_cons, List.not_mem_nil, or_false] at hb
    rcases hb with rfl | rfl
    · exact ⟨_, he, fun v z => by
        have z' : Data.fields _ = Data.cell v := z
        cases z'⟩
    · exact ⟨o, e', fun v z => by rw [d] at z; cases z⟩
  keep := fun i h h' st k => by
    obtain ⟨⟨old, he⟩, hl⟩ := st
    exact ⟨⟨old, k e (by simp) _ he⟩, hl.at fun o q => k it (by simp) o q⟩
  item := by
    intro X hP hw hK hc i pins s σ H E I hf st hg
    subst hP hw hK
    obtain ⟨xs, x, hq, hx⟩ := hg
    obtain ⟨its, rv, pl, hz⟩ := I.list hq
    obtain ⟨u, hu, ru⟩ := rv.get hx
    have W := WalksT.enumerate (prog := X.prog) (w := X.w) (A := X.A) (I.ok.hd hc) e it a hne hae hai its.toArray
    have hi : i < its.toArray.size := by
      have := (List.getElem?_eq_some_iff.mp hu).1
      simpa using this
    refine tokQ I.tk (W.item i s _ _ hi ⟨st.1, st.2, pl.isList⟩ fun T vals h' tk hv hsz hT hmid kp (htk : 0 < tk) => ?_)
    obtain ⟨t', xv, hxv, rfl⟩ := hv
    have e2 : xv = u := by
      have : its[i]? = some xv := by simpa using hxv
      rw [hu] at this
      exact (Option.some.inj this).symm
    subst e2
    have hap := W.apart i T h' hmid
    refine ⟨_, rfl, W.go elts kk pos i T { s with heap := h', toks := tk } _ _ hmid fun h'' st'' kp'' => ?_⟩
    have hT2 : h''.IsTuple T #[.int i t', xv] := by
      obtain ⟨o, ho, r⟩ := hT
      exact ⟨o, kp'' T o hap ho, r⟩
    have I1 : Inv X pins σ (upd H T (.tup [.int i, x])) { s with heap := h'', toks := tk } := by
      refine I.turnedLaid (its := [e, it]) (fun b ob hb q => kp'' b ob hb (kp b ob hb q)) hf hsz ?_
      exact ⟨by show 2 ≤ sizeLine; decide, [.int i t', xv], .cons ⟨_, rfl⟩ (.cons ru .nil), hT2⟩
    refine ⟨.ref T, _, I1, rfl, ⟨T, x, rfl, I.hok.fresh hsz, fun ys hy => by rw [I.list_inj hy hq]; exact hx, rfl⟩, ⟨st''.1, st''.2.1⟩, fun b hb => ?_⟩
    have nb : b ≠ T := fun z => hap (z ▸ hb)
    rw [upd_ne nb]
    exact (hf b hb).1
  done := by
    intro X hP hw hK hc i pins s σ H E I hf st hg
    subst hP hw hK
    obtain ⟨xs, hq, rfl⟩ := hg
    obtain ⟨its, rv, pl, hz⟩ := I.list hq
    have hl := rv.length
    have W := WalksT.enumerate (prog := X.prog) (w := X.w) (A := X.A) (I.ok.hd hc) e it a hne hae hai its.toArray
    have hn : its.toArray.size = xs.length := by simp only [List.size_toArray]; omega
    rw [hn] at W
    exact tokQ I.tk (W.done s _ _ ⟨st.1, st.2, pl.isList⟩ fun h' tk kp (htk : 0 < tk) => ⟨rfl, I.turnedL (its := [e, it]) (fun b o hb q => kp b o hb q) hf⟩)
  self := fun A i s Q E st h => by
    obtain ⟨⟨old, he⟩, _⟩ := st
    exact wpAny_pyIter_enum he h
section
variable {X : Cx} {a : Expr} {ta : TE} {p pos : Pos}
def cEnumL (K : PySem.W.Frag) (te : TE) : TI := fun σ H R => te σ H fun x H1 => match x with
  | .ref l => (∃ xs, SqL K H1 l xs) ∧ R (Itel K l) H1
  | _ => False
theorem qi_enumL (K : PySem.W.Frag) (hK : X.K = K) {elts : List Expr} {kk : Nat} {tpos : Pos} (hg : Gl X "enumerate") (hm : X.mg "enumerate" = none) (ha : PE X a ta) (hs : starEach [a] X.env = [(false, eval a X.env)] := by rfl) :
    PI X (.Tuple elts kk tpos) (.Call (.Name "enumerate" p) [a] [] pos) (cEnumL K ta) := by
  subst hK
  intro pins s σ H R I h
  refine Call_ (ld_blt I hg hm bb_enumerate (PyProof.Rows.callWith_type1 (thn ((pa_cons ha.mono pa_nil hs) pos pins s σ H (fun vs H1 => ∃ l, vs = [.ref l] ∧ (∃ xs, SqL X.K H1 l xs) ∧ R (Itel X.K l) H1) I ⟨_, h, fun v H' z => by
    split at z
    · exact ⟨_, rfl, z⟩
    · exact z.elim⟩) fun us s1 ⟨vs, H1, I1, r1, q1⟩ => ?_) hs rfl))
  obtain ⟨l, rfl, ⟨xs, hq⟩, q1⟩ := q1
  cases r1 with
  | cons r rr =>
    cases rr
    cases r
    obtain ⟨its, rv, pl, hz⟩ := I1.list hq
    have hlt : l < s1.heap.objs.size := by
      obtain ⟨o, ho, _⟩ := pl.isList
      exact Heap.lt_size ho
    refine call_enumerate_list pl.isList fun h' he hi hz kp => ?_
    have I2 : Inv X pins σ H1 { s1 with heap := h' } := I1.kept (t' := s1.toks) kp
    refine wpAny_pyIter_enum he ?_
    refine ⟨_, [s1.heap.objs.size + 1, s1.heap.objs.size], _, Itel X.K l, H1, rfl, I2, turn_enumL l (s1.heap.objs.size + 1) s1.heap.objs.size (Nat.succ_ne_self _) (Nat.ne_of_lt (Nat.lt_succ_of_lt hlt)) (Nat.ne_of_lt hlt), ⟨⟨_, he⟩, hi⟩, fun c hc => ?_, q1⟩
    have hc' : s1.heap.objs.size ≤ c := by
      simp only [List.mem_cons, List.not_mem_nil, or_false] at hc
      rcases hc with rfl | rfl <;> omega
    exact I1.fpOk hc' (I1.hok.fresh hc')
theorem a_cEnumL {K : PySem.W.Frag} {σ : St} {H : Hp} {R : It → Hp → Prop} : cEnumL K ta σ H R = ta σ H fun x H1 => match x with
  | .ref l => (∃ xs, SqL K H1 l xs) ∧ R (Itel K l) H1
  | _ => False := rfl
end
end L2


set_option linter.all false
set_option maxRecDepth 100000
namespace L2
open PySem PySem.Spec PyProof.Rows
/-! ### list(reversed(e)) -/
section
variable {prog : Program} {w : World} {A : Around} {E : Value → Shared → Prop} {s : Shared}
end
section
variable {X : Cx}
def cListRev (K : PySem.W.Frag) (te : TE) : TE := fun σ H Q => te σ H fun x H1 => match x with
  | .ref a => ∃ ys, SqL K H1 a ys ∧ ∀ p, H1 p = none → Q (.ref p) (upd H1 p (.lst ys.reverse))
  | _ => False
theorem a_cListRev {K : PySem.W.Frag} {te : TE} {σ : St} {H : Hp} {Q : VK} : cListRev K te σ H Q = te σ H fun x H1 => match x with
  | .ref a => ∃ ys, SqL K H1 a ys ∧ ∀ p, H1 p = none → Q (.ref p) (upd H1 p (.lst ys.reverse))
  | _ => False := rfl
end
end L2


set_option linter.all false
namespace L2
open PySem PySem.Spec PyProof.Rows PySem.Builtin PySem.Builtin.Str
/-! ### a text's beginning, however far it is asked -/
section
variable {X : Cx}
def kSlF : V → Option Int → Option Int → Hp → VK → Prop := fun x lo hi H Q => match x, lo, hi with
  | .str z, none, some j => z.cps.toList.length ≤ 100000 ∧ 0 ≤ j ∧ Q (.str (st (z.cps.toList.take j.toNat))) H
  | _, _, _ => False
theorem a_kSlF {l : List Nat} {j : Int} {H : Hp} {Q : VK} : kSlF (.str (st l)) none (some j) H Q = (l.length ≤ 100000 ∧ 0 ≤ j ∧ Q (.str (st (l.take j.toNat))) H) := rfl
end
end L2


set_option linter.all false
namespace L2
open PySem PySem.Spec PyProof.Rows
section
variable {X : Cx}
/-! ### name = [.. for ..]: the list is stored ahead of the comprehension's own names being let go -/
theorem ps_setC {i : Nat} {x : Str} {pos' spos : Pos} {elt tg iter : Expr} {ifs : List Expr} {scope : Scope} {pos : Pos} {wi : TI} {g : TG} {tc : TT} {te : TE} {nt : Nat} {fi : List Nat} {N' : List Str} (hN : X.N.Nodup) (hi0 : X.N[i]? = some x) (hx : Loc X.env.scope x) (hcalm : X.calm = true)
    (S : CScope scope) (cn : CNames X scope nt fi N') (gk : GK nt g) (hi : PI X tg iter wi)
    (hg : ∀ cl C s H ex, PG (cxC X scope cl N' C s H ex) tg g) (hc : ∀ cl C s H ex, PIf (cxC X scope cl N' C s H ex) ifs tc) (he : ∀ cl C s H ex, PE (cxC X scope cl N' C s H ex) elt te)
    (hsw : swapsWith (.ListComp elt [⟨tg, iter, ifs, 0⟩] scope pos) (some (.Name x pos')) spos.line X.env = pure true := by rfl)
    (hs : ∀ x, foldedSetIterable iter X.env x = pure x := by intro _; rfl) (hf : X.fn x = true ∨ X.env.scope.names.lookup x = some .local := by first | exact .inl rfl | exact .inr rfl | assumption) :
    PS X (.Assign [.Name x pos'] (.ListComp elt [⟨tg, iter, ifs, 0⟩] scope pos) spos) (tAsg (cComp nt fi wi g tc te) (gName i)) := by
  intro pins s σ H D I h
  have hfr : ∀ y ∈ scope.names, y.2 = .free → ∃ c, X.env.cells.lookup y.1 = some c := fun y hy e => I.ok.has y.1 (cn.fre y hy e)
  rw [exec_Assign_Name_used _ _ _ _ hsw]
  refine wpAny_bind (wpAny_standAt (wpAny_bind ?_))
  change wpAny _ X.A (do let _ ← comprehension (.ListComp elt [⟨tg, iter, ifs, 0⟩] scope pos) scope X.env _ (newList []) false (eval iter X.env) (some (assign (.Name x pos') X.env))) _ _ s
  refine wpAny_bind (thn (Q := fun _ s' => ∃ σ' H', Inv X pins σ' H' s' ∧ D.nx σ' H') ?_ fun _ s' q => wpAny_pure (wpAny_pure q))
  refine wpAny_comprehension_free (use := some (assign (.Name x pos') X.env)) rfl hs (closureFor_some hfr) S.kind S.loc (thn (hi pins s σ H _ I h) fun v s1 h1 => thn h1 fun itv s2 h2 => ?_)
  obtain ⟨it, fp, tn, J, H2, e, I2, T, st2, f2, hW⟩ := h2
  subst e
  have fD : H2 s2.heap.objs.size = none := I2.hok.fresh (Nat.le_refl _)
  obtain ⟨W, ⟨m0, w0⟩, turn⟩ := hW s2.heap.objs.size fD
  refine wpAny_newObj_type (wpAny_newFunctionEnv S.nocell (by intro y hy; simp at hy) (fun h₁ hns₁ hsb₁ => ?_) S.kind)
  have I3 : Inv X pins σ (upd H2 s2.heap.objs.size (.lst [])) { s2 with heap := s2.heap.push { cls := .type "list", dict := none, data := .seq ([] : List Value).toArray } } := I2.lnew (its := []) (t' := s2.toks) .nil (Nat.zero_le _)
  generalize hs3 : ({ s2 with heap := s2.heap.push { cls := .type "list", dict := none, data := .seq ([] : List Value).toArray } } : Shared) = s3 at I3 hns₁ hsb₁ ⊢
  have hsz : s3.heap.objs.size = s2.heap.objs.size + 1 := by rw [← hs3]; exact Heap.size_push ..
  have ob2 : ∀ b ∈ fp, ∃ o, s3.heap.get? b = some o := fun b hb => by
    obtain ⟨o, e, _⟩ := T.obj _ _ st2 b hb
    rw [← hs3]
    exact ⟨o, Heap.get?_push_of_some _ e⟩
  have f3 : ∀ b ∈ fp, FpOk X pins (upd H2 s2.heap.objs.size (.lst [])) b := fun b hb => by
    obtain ⟨o, e, _⟩ := T.obj _ _ st2 b hb
    refine ⟨?_, (f2 b hb).2⟩
    rw [upd_ne (Nat.ne_of_lt (Heap.lt_size e))]
    exact (f2 b hb).1
  have kp : ∀ b o, s3.heap.get? b = some o → h₁.get? b = some o := fun b o e => hsb₁.extBut b o (Nat.ne_of_lt (Heap.lt_size e)) (Heap.get?_push_of_some _ e)
  have st3 : tn 0 h₁ := T.keep _ _ _ st2 fun b _ o e => kp b o (by rw [← hs3]; exact Heap.get?_push_of_some _ e)
  have J4 : Inv (cxC X scope (clOf X.env.cells scope.names []) N' s3.heap.objs.size s3 (upd H2 s2.heap.objs.size (.lst [])) fp) (X.pn ++ pins) (compσ nt fi σ) (upd H2 s2.heap.objs.size (.lst [])) { s3 with heap := h₁, toks := s3.toks + ([] : List (Str × Value)).length } :=
    inv_comp I3 S cn f3 ob2 hns₁ kp I3.tk
  generalize hcl : clOf X.env.cells scope.names [] = cl at J4 ⊢
  generalize hH3 : upd H2 s2.heap.objs.size (.lst []) = H3 at J4 I3 f3 w0
  have stat : ∀ {H' : Hp}, (∀ b ∈ fp, H' b = none) → ∀ b ∈ fp, FpOk (cxC X scope cl N' s3.heap.objs.size s3 H3 fp) (X.pn ++ pins) H' b := fun {H'} hn b hb => by
    obtain ⟨g0, g1, g2, g3, g4, g5⟩ := f3 b hb
    have ok := J4.ok
    refine ⟨hn b hb, (ok.exf b hb).1, ok.exfs b hb, .inl hb, (ok.exf b hb).2, fun p hp => g5 p ?_⟩
    have hp' : p ∈ ([] : List (Addr × Obj)) ++ (X.pn ++ pins) := hp
    simpa using hp'
  have loop : ∀ s₃ : Shared, s₃ = { s3 with heap := h₁, toks := s3.toks + ([] : List (Str × Value)).length } →
      codeAny (model X.prog X.w) X.A (.compLoop (.ListComp elt [⟨tg, iter, ifs, 0⟩] scope pos) 0 (.ref it) (.ref s2.heap.objs.size) (compEnvC scope cl s3.heap.objs.size X.env))
        (compPost (model X.prog X.w) X.A X.xe (some (assign (.Name x pos') X.env)) (fun _ s' => ∃ σ' H', Inv X pins σ' H' s' ∧ D.nx σ' H') (.ref s2.heap.objs.size) s3.heap.objs.size) s₃ := by
    rintro s₃ rfl
    refine compLoop_any (fun n s' => ∃ i acc H', Inv (cxC X scope cl N' s3.heap.objs.size s3 H3 fp) (X.pn ++ pins) (compσ nt fi σ) H' s' ∧ tn i s'.heap ∧ (∀ b ∈ fp, H' b = none) ∧ W i n acc H') ?_ m0
      ⟨0, [], H3, J4, st3, fun b hb => (f3 b hb).1, w0⟩
    rintro n s5 ⟨ii, acc, H5, I5, st5, fr5, w5⟩
    rcases turn ii n acc H5 w5 with ⟨stop, qn⟩ | ⟨go, step⟩
    · refine thn (T.done (cxC X scope cl N' s3.heap.objs.size s3 H3 fp) rfl rfl rfl hcalm ii (X.pn ++ pins) s5 (compσ nt fi σ) H5 (fun _ _ => False) I5 (stat fr5) st5 stop) fun r s6 ⟨hr, I6⟩ => ?_
      subst hr
      obtain ⟨m6, hn6, _⟩ := I6.loc
      have I7 : Inv X pins σ H5 s6 := inv_back I3 f3 (Nat.le_refl _) I6 (Heap.SameBut.refl _ s6.heap)
      have fC : FpOk X pins H5 s3.heap.objs.size := I3.fpOk (Nat.le_refl _) I6.free
      obtain ⟨c0, c1, c2, c3, c4, c5⟩ := fC
      refine wpAny_assign_Name (store_ok2 I7 hN hi0 hx (v := .ref s2.heap.objs.size) rfl (fun s8 I8 ⟨a, sb, ha⟩ => ?_) hf)
      have na : a ≠ s3.heap.objs.size := by
        rcases ha with rfl | ha
        · exact c1.symm
        · exact c4 x a ha
      refine ⟨m6, hn6.sameBut sb na.symm, fun h' sb' => ⟨_, H5, ?_, qn⟩⟩
      exact I8.turned (t' := s8.toks) (fun b o nb e => (sb'.2 b nb).trans e) c0 c1 c3 c4 c5
    · refine thn (T.item (cxC X scope cl N' s3.heap.objs.size s3 H3 fp) rfl rfl rfl hcalm ii (X.pn ++ pins) s5 (compσ nt fi σ) H5 (fun _ _ => False) I5 (stat fr5) st5 go) fun r s6 ⟨u, hr, h6⟩ => ?_
      subst hr
      refine thn h6 fun _ s7 ⟨y, H7, I7, r7, y7, st7, fr7⟩ => ?_
      have I7' := I7.pinned (stat fr7) (T.obj _ _ st7)
      refine thn (hg _ _ _ _ _ _ s7 (compσ nt fi σ) H7 y u _ I7' r7 (gk _ _ _ _ (step y H7 y7))) fun _ s8 ⟨σ8, H8, I8, q8, l8, d8⟩ => ?_
      refine thn (hc _ _ _ _ _ _ s8 σ8 H8 _ I8 q8) fun b s9 ⟨H9, I9, q9⟩ => ?_
      have again : ∀ {s' : Shared} {H' : Hp} {m' : Nat} {acc' : List V}, Inv (cxC X scope cl N' s3.heap.objs.size s3 H3 fp) ((X.pn ++ pins) ++ pinsAt fp s7.heap) σ8 H' s' → m' < n → W (ii + 1) m' acc' H' →
          ∃ m, m < n ∧ ∃ i acc H', Inv (cxC X scope cl N' s3.heap.objs.size s3 H3 fp) (X.pn ++ pins) (compσ nt fi σ) H' s' ∧ tn i s'.heap ∧ (∀ b ∈ fp, H' b = none) ∧ W i m acc H' := fun {s' H' m' acc'} I' hm w' => by
        refine ⟨m', hm, ii + 1, acc', H', I'.unpinned.weak l8.symm (compσ_weak l8 d8), T.keep _ _ _ st7 fun b hb o e => (I'.pin (b, o) (List.mem_append_right _ (List.mem_append_right _ (mem_pinsAt hb e)))).1, fun b hb => ?_, w'⟩
        obtain ⟨o, e, d⟩ := T.obj _ _ st7 b hb
        exact (I'.pin (b, o) (List.mem_append_right _ (List.mem_append_right _ (mem_pinsAt hb e)))).2.1
      cases b with
      | false =>
        rw [if_neg Bool.false_ne_true] at q9 ⊢
        obtain ⟨m', hm, w'⟩ := q9
        exact again I9 hm w'
      | true =>
        rw [if_pos rfl] at q9 ⊢
        refine thn (he _ _ _ _ _ _ s9 σ8 H9 _ I9 q9) fun uv s10 ⟨v10, H10, I10, r10, hD, hlt, m', hm, w'⟩ => ?_
        refine thn (mt_append (X := cxC X scope cl N' s3.heap.objs.size s3 H3 fp) _ s10 σ8 H10 (.ref s2.heap.objs.size) [v10] (.ref s2.heap.objs.size) [uv] (fun _ H' => H' = upd H10 s2.heap.objs.size (.lst (acc ++ [v10]))) I10 rfl (.cons r10 .nil) ⟨_, acc, v10, rfl, rfl, hD, hlt, rfl⟩) fun _ s11 ⟨_, H11, I11, _, e11⟩ => ?_
        subst e11
        exact again I11 hm w'
  exact codeAny_compStart_list (loop _ rfl) (T.self _ 0 _ _ _ st3 (loop _ rfl))
end
end L2


set_option linter.all false
set_option maxRecDepth 100000
/-! own exceptions: raised, passed on, caught -/
namespace L2
open PySem PySem.Spec PyProof.Rows

/-- behind a call that raised: the exception at ea of the class at C flies over the callers' frames -/
structure Fly (P : Program) (w : World) (outer : List Env) (H H' : Hp) (h h' : Heap) (ea C : Addr) : Prop where
  un : Un (frs outer) [] H H' h h'
  hok : HOk P w H' h'
  new : ∀ b o, h.get? b = some o → b ≠ ea
  fr : H' ea = none
  fl : ∃ B a0, Heap.FlyingW B outer ea (.ref C) a0 h' ∧ ∀ b, ((∃ o, h.get? b = some o) ∧ b ∉ frs outer) ∨ H' b ≠ none → ∃ o, B.get? b = some o

/-- how an own exception lies behind a call -/
def XR (P : Program) (w : World) : CXT := fun outer H s E e s' =>
  ∃ ea C H', e = .ref ea ∧ 0 < s'.toks ∧ s'.os = s.os ∧ AllBare s'.gens ∧ Fly P w outer H H' s.heap s'.heap ea C ∧ E (.ref C) none H'

/-- the flight goes on: what matters is kept -/
theorem Fly.on {P : Program} {w : World} {outer : List Env} {H H' : Hp} {h h' h2 : Heap} {ea C : Addr} (F : Fly P w outer H H' h h' ea C) {B : Heap} {a0 : Value}
    (fl1 : Heap.FlyingW B outer ea (.ref C) a0 h') (inB : ∀ b, ((∃ o, h.get? b = some o) ∧ b ∉ frs outer) ∨ H' b ≠ none → ∃ o, B.get? b = some o)
    (ff : ∀ b ∈ frs outer, H b = none) (fl2 : Heap.FlyingW B outer ea (.ref C) a0 h2) (up : h'.UpToSlots h2) : Fly P w outer H H' h h2 ea C := by
  have same : ∀ b o, ((∃ o, h.get? b = some o) ∧ b ∉ frs outer) ∨ H' b ≠ none → h'.get? b = some o → h2.get? b = some o := fun b o hb e => by
    obtain ⟨o', eB⟩ := inB b hb
    have e1 := fl1.1 b o' eB
    rw [e] at e1; cases e1
    exact fl2.1 b o eB
  have sl : ∀ b o, b ∈ frs outer → h'.get? b = some o → ∃ sl, h2.get? b = some { o with slots := sl } := fun b o hb e => by
    obtain ⟨_, o', ho', hd⟩ := fl1.2.2.1.mem hb
    rw [e] at ho'; cases ho'
    exact up b o e hd
  refine ⟨⟨fun b o e n hf hx => same b o (.inl ⟨⟨o, e⟩, hf⟩) (F.un.keep b o e n hf hx), fun b o e n hf hx => ?_, F.un.free, fun b o e hx => ?_, F.un.tups, F.un.frzs, F.un.tbls⟩, fun a o e => ?_, F.new, F.fr, B, a0, fl2, inB⟩
  · obtain ⟨s1, e1⟩ := F.un.slot b o e n hf hx
    obtain ⟨s2, e2⟩ := sl b _ hf e1
    exact ⟨s2, e2⟩
  · obtain ⟨o1, e1⟩ := F.un.there b o e hx
    by_cases hf : b ∈ frs outer
    · obtain ⟨s2, e2⟩ := sl b _ hf e1
      exact ⟨_, e2⟩
    · exact ⟨o1, same b o1 (.inl ⟨⟨o, e⟩, hf⟩) e1⟩
  · refine (F.hok a o e).stay (fun b u hb q => same b u (.inr ?_) q) (fun _ q => q) fun _ _ q => q
    rcases hb with rfl | hb
    · rw [e]; simp
    · rw [hb]; simp

section
variable {X : Cx} {pins : List (Addr × Obj)} {σ : St} {H : Hp} {s : Shared}
end

section
variable {P : Program} {w : World} {K : PySem.W.Frag} {mg : Str → Option Value} {base : Heap} {N : List Str} {qual : Str} {scope : Scope} {f : Addr} {cd : Value} {A : Around} {outer : List Env} {s₀ : Shared} {H₀ : Hp} {E : XK}
end
end L2


set_option linter.all false
set_option maxRecDepth 100000
namespace L2
open PySem PySem.Spec PyProof.Rows

abbrev bmV : List Value := [.type "ValueError", .type "Exception", .type "BaseException", .type "object"]
/-- an own exception class at C, over ValueError -/
structure XCl (K : PySem.W.Frag) (C : Addr) : Prop where
  ex : PySem.W.excIn K C bmV "ValueError.__new__" = true
  ty : PySem.W.typeIn K (.ref C) = some (.type "type")
  mb : PySem.W.mroIn K C (.type "BaseException") = some true
  ga : PySem.W.findIn K (.ref C) "__getattribute__" = some (some (.builtin "BaseException.__getattribute__"))
  gh : PySem.W.findIn K (.ref C) "__getattr__" = some none
  ca : PySem.W.findIn K (.ref C) "__class__" = some (some (.builtin "object.__class__"))
  gt : PySem.W.specialIn K (.builtin "object.__class__") "__get__" = some (some (.builtin "getset_descriptor.__get__"))
  tk : PySem.W.takesIn K (.builtin "object.__class__") = some true
  mo : PySem.W.mroIn K C (.type "object") = some true

theorem XCl.own {K : PySem.W.Frag} {h : Heap} {C : Addr} (c : XCl K C) (X : K.In h) : OwnCls "x" C bmV "ValueError.__new__" (fun _ => some (.ref C)) h := by
  have q := c.ex
  refine ⟨rfl, ?_⟩
  revert q
  unfold PySem.W.excIn
  rcases hk : K.lookup C with _ | ⟨oc, odd, oda, osl⟩
  · intro q; cases q
  · intro q
    split at q
    case h_2 => cases q
    case h_1 dd cdt sl eo =>
      cases eo
      split at q
      case h_2 => cases q
      case h_1 C' bm a0 a1 a2 a3 n a5 em es =>
        simp only [Bool.and_eq_true, beq_iff_eq, Bool.not_eq_true'] at q
        obtain ⟨⟨⟨⟨⟨e1, e2⟩, e3⟩, e4⟩, e5⟩, e6⟩ := q
        subst e1 e2
        obtain ⟨f1, f2, f3, f4, f5, f6, f7, f8, f9, f10, f11⟩ := cdt
        dsimp only at em e3 e5 e6
        subst em e3
        have el : osl = #[a0, a1, a2, a3, some (.builtin "ValueError.__new__"), a5] := by
          rcases osl with ⟨l⟩
          simp only at es
          rw [es]
        subst el
        exact ⟨bm, f4, f1, f5, f2, f6, f7, f8, f9, f10, odd, a0, a1, a2, a3, a5, _, X _ _ hk, .of_isNs (PySem.W.isNs_of_in X e5), PySem.W.nsMap_none_of_in X e5 e6, PySem.W.tail_of_in X e4⟩

section
variable {X : Cx} {x : Str} {C : Addr} {np cpos pos : Pos} {e : Expr} {es : List Expr} {t : TA} {E : XK}
/-- raise C(e, ..) -/
def tRaise (C : Addr) (E : XK) (t : TA) : TS := fun _ σ H => t σ H fun vs H1 => vs.length ≤ sizeLine ∧ E (.ref C) none H1
end

section
variable {K : PySem.W.Frag} {M : Model} {h : Heap} {C D e : Addr}
end

/-! ### try -/
section
variable {X : Cx} {W : St → XK} {p pins : List (Addr × Obj)} {σ : St} {H : Hp} {s : Shared}
end

section
variable {X : Cx} {CX : CXT} {k : Nat} {f : Addr} {fd : FuncData} {ps : List Str} {sp : Sp} {dvs : List V} {ds : List Value} {W : St → XK} {x : Str} {p pos : Pos} {e : Expr} {es : List Expr} {t : TA}
def tCallT (sp : Sp) (dvs : List V) (W : St → XK) (t : TA) : TE := fun σ H Q => t σ H fun vs H1 => sp (vs ++ dvs) H1 Q (W σ)
end

/-- the exception at ea, of the class at C -/
def XO (C ea : Addr) : HO := .ext fun h => ∃ o, h.get? ea = some o ∧ o.cls = .ref C
theorem XO.ok {P : Program} {w : World} {H : Hp} {h : Heap} {C ea : Addr} (e : ∃ o, h.get? ea = some o ∧ o.cls = .ref C) : ObjOk P w H h ea (XO C ea) :=
  ⟨e, let ⟨o, e1, _⟩ := e; ⟨o, e1⟩, fun _ _ ⟨o, e1, e2⟩ k => ⟨o, k o e1, e2⟩⟩

/-- what a handler of the class at D does with an exception of the class at C -/
structure Caught (K : PySem.W.Frag) (C D : Addr) : Prop where
  sub : PySem.W.mroIn K C (.ref D) = some true

def tTryAs (K : PySem.W.Frag) (D : Addr) (i : Nat) (tb : (St → XK) → TS) (th : Addr → TS) : TS := fun R σ H =>
  tb (fun σ' cv _ H' => ∃ C, cv = .ref C ∧ Caught K C D ∧ ∀ ea, H' ea = none →
    th ea { nx := fun σ2 H2 => R.nx (σ2.set i none) H2, rt := R.rt, bk := fun σ2 H2 => R.bk (σ2.set i none) H2, ct := fun σ2 H2 => R.ct (σ2.set i none) H2 } (σ'.set i (some (.ref ea))) (upd H' ea (XO C ea))) R σ H

end L2


set_option linter.all false
set_option maxRecDepth 100000
namespace L2
open PySem PySem.Spec PySem.Calls PyProof.Rows PySem.W Builtin Builtin.ObjectAttr Builtin.Getset_descriptor
section
variable {prog : Program} {w : World} {A : Around} {E : Value → Shared → Prop} {K : PySem.W.Frag} {x C : Addr} {o : Obj} {h : Heap} {g : Array GenState} {d : Drawn} {t : Nat} {os : OsState}
end

section
variable {X : Cx} {pins : List (Addr × Obj)} {σ : St} {H : Hp} {s : Shared}
def V.cv : V → Option Value
  | .ref a => some (.ref a)
  | .ty n => some (.type n)
  | _ => none
end
end L2


set_option linter.all false
set_option maxRecDepth 100000
namespace L2
open PySem PySem.Spec PyProof.Rows
/-! ### defs that may raise -/
def CalleeX (P : Program) (w : World) (K : PySem.W.Frag) (mg : Str → Option Value) (base : Heap) (k : Nat) (x : Str) (ps : List Str) (sp : Sp) : Prop :=
  ∃ f fd, FnOk P w K mg base (XR P w) k f fd ps sp ∧ Binds K fd ps [] ∧ PySem.W.keepIn K (.ref f) = true ∧ mg x = some (.ref f)
section
variable {X : Cx} {k : Nat} {x : Str} {ps : List Str} {sp : Sp} {p pos : Pos} {e : Expr} {es : List Expr} {t : TA} {E : XK} {W : St → XK}
/-- .. where it does not raise -/
theorem CalleeX.calm {P : Program} {w : World} {K : PySem.W.Frag} {mg : Str → Option Value} {base : Heap} {k : Nat} {x : Str} {ps : List Str} {sp : Sp} (C : CalleeX P w K mg base k x ps sp) :
    Callee P w K mg base k x ps (fun vs H Q _ => sp vs H Q E0) := by
  obtain ⟨f, fd, F, b, kp, m⟩ := C
  refine ⟨f, fd, ⟨fun vs H Q _ h => F.len vs H Q E0 h, fun A outer s H args us vs Q E hr e0 hb hv h => ?_⟩, b, kp, m⟩
  refine codeAny_mono (F.run A outer s H args us vs Q E0 hr e0 hb hv h) fun r s' q => ?_
  rcases r with er | fl
  · obtain ⟨_, _, _, _, _, _, _, _, z⟩ := q
    exact z.elim
  · cases fl with
    | ret u => exact q
    | _ => exact q.elim
end
theorem PS.nox {X : Cx} {st : Stmt} {t : TS} (h : PS X.nox st t) : PS X st t := fun pins s σ H D I hw =>
  wpAny_mono (h pins s σ H D (I.wish _) hw) (fun _ _ q => q.unwish) fun _ _ z => z.elim
theorem PS.calm {X : Cx} {st : Stmt} {t : TS} (h : PS X.nox st t) : PS X st t := PS.nox h

/-! ### isinstance, by the class -/
section
variable {X : Cx} {a c : Expr} {es : List Expr} {ta : TE} {pos p tpos : Pos} {x1 : Nat}
def cIsX (K : PySem.W.Frag) (d : Value) (ta : TE) : TE := fun σ H Q => ta σ H fun x H1 => match x with
  | .ref ea => ∃ C b, H1 ea = some (XO C ea) ∧ XCl K C ∧ PySem.W.kitOne K (.ref C) d = some b ∧ Q (.bl b) H1
  | _ => False
def cIsXT (K : PySem.W.Frag) (vs : List V) (ds : List Value) (ta : TE) : TE := fun σ H Q => ta σ H fun x H1 => match x with
  | .ref ea => ∃ C b, H1 ea = some (XO C ea) ∧ XCl K C ∧ PySem.W.kitAny K (.ref C) ds = some b ∧ ∀ p, H1 p = none → Q (.bl b) (upd H1 p (.tup vs))
  | _ => False
end
/-! ### f-strings: a text, whatever it is -/
abbrev TJ := Nat → St → Hp → (Hp → Prop) → Prop
def jNil : TJ := fun _ _ H Q => Q H
def jCons (te : TE) (tj : TJ) : TJ := fun n σ H Q => te σ H fun x H1 => match x with
  | .str y => n + y.length ≤ sizeLine ∧ tj (n + y.length) σ H1 Q
  | _ => False
section
variable {X : Cx} {e v1 v2 : Expr} {es rest : List Expr} {te : TE} {tj : TJ} {pos : Pos}
def cFS (tj : TJ) : TE := fun σ H Q => tj 0 σ H fun H1 => ∀ z, Q (.str z) H1
/-- {v!r}, v a text -/
def cFmtR (tv : TE) : TE := fun σ H Q => tv σ H fun x H1 => match x with
  | .str y => (∀ c ∈ y.cps.toList, c < 16 ^ 8) ∧ y.length ≤ 100000 ∧ ∀ z : Str, z.length ≤ 10 * y.length + 2 → Q (.str z) H1
  | _ => False
end
end L2


set_option linter.all false
set_option maxRecDepth 100000
namespace L2
open PySem PySem.Spec PyProof.Rows
/-- where a class of the text stands -/
def xA (K : PySem.W.Frag) (x : Str) : Addr := match PySem.W.nsIn K mainGlobals x with
  | some (some (.ref a)) => a
  | _ => 0
/-- the class x of the text -/
def Xn (K : PySem.W.Frag) (mg : Str → Option Value) (x : Str) : Prop := mg x = some (.ref (xA K x)) ∧ XCl K (xA K x)
/-- whether the class x is y or under it -/
def Xm (K : PySem.W.Frag) (x y : Str) (b : Bool) : Prop := PySem.W.mroIn K (xA K x) (.ref (xA K y)) = some b ∧ (b = false → xA K x ≠ xA K y)
theorem Xm.caught {K : PySem.W.Frag} {x y : Str} (m : Xm K x y true) : Caught K (xA K x) (xA K y) := ⟨m.1⟩
section
variable {K : PySem.W.Frag} {h : Heap} {mg : Str → Option Value} {x y : Str} {C D : Addr}
end
/-! readings, a step each -/
theorem a_tCallT {sp : Sp} {W : St → XK} {t : TA} {σ : St} {H : Hp} {Q : VK} : tCallT sp [] W t σ H Q = t σ H fun vs H1 => sp vs H1 Q (W σ) := by
  unfold tCallT
  simp only [List.append_nil]
theorem a_tRaise {C : Addr} {E : XK} {t : TA} {D : Ends} {σ : St} {H : Hp} : tRaise C E t D σ H = t σ H fun vs H1 => vs.length ≤ sizeLine ∧ E (.ref C) none H1 := rfl
theorem a_cFS {tj : TJ} {σ : St} {H : Hp} {Q : VK} : cFS tj σ H Q = tj 0 σ H fun H1 => ∀ z, Q (.str z) H1 := rfl
theorem a_jNil {n : Nat} {σ : St} {H : Hp} {Q : Hp → Prop} : jNil n σ H Q = Q H := rfl
theorem a_jCons {te : TE} {tj : TJ} {n : Nat} {σ : St} {H : Hp} {Q : Hp → Prop} : jCons te tj n σ H Q = te σ H fun x H1 => match x with
  | .str y => n + y.length ≤ sizeLine ∧ tj (n + y.length) σ H1 Q
  | _ => False := rfl
theorem a_cFmtR {tv : TE} {σ : St} {H : Hp} {Q : VK} : cFmtR tv σ H Q = tv σ H fun x H1 => match x with
  | .str y => (∀ c ∈ y.cps.toList, c < 16 ^ 8) ∧ y.length ≤ 100000 ∧ ∀ z : Str, z.length ≤ 10 * y.length + 2 → Q (.str z) H1
  | _ => False := rfl
theorem a_cIsX {K : PySem.W.Frag} {d : Value} {ta : TE} {σ : St} {H : Hp} {Q : VK} : cIsX K d ta σ H Q = ta σ H fun x H1 => match x with
  | .ref ea => ∃ C b, H1 ea = some (XO C ea) ∧ XCl K C ∧ PySem.W.kitOne K (.ref C) d = some b ∧ Q (.bl b) H1
  | _ => False := rfl
theorem a_cIsXT {K : PySem.W.Frag} {vs : List V} {ds : List Value} {ta : TE} {σ : St} {H : Hp} {Q : VK} : cIsXT K vs ds ta σ H Q = ta σ H fun x H1 => match x with
  | .ref ea => ∃ C b, H1 ea = some (XO C ea) ∧ XCl K C ∧ PySem.W.kitAny K (.ref C) ds = some b ∧ ∀ p, H1 p = none → Q (.bl b) (upd H1 p (.tup vs))
  | _ => False := rfl
theorem a_tTryAs {K : PySem.W.Frag} {D : Addr} {i : Nat} {tb : (St → XK) → TS} {th : Addr → TS} {R : Ends} {σ : St} {H : Hp} : tTryAs K D i tb th R σ H =
  tb (fun σ' cv _ H' => ∃ C, cv = .ref C ∧ Caught K C D ∧ ∀ ea, H' ea = none →
    th ea { nx := fun σ2 H2 => R.nx (σ2.set i none) H2, rt := R.rt, bk := fun σ2 H2 => R.bk (σ2.set i none) H2, ct := fun σ2 H2 => R.ct (σ2.set i none) H2 } (σ'.set i (some (.ref ea))) (upd H' ea (XO C ea))) R σ H := rfl
end L2


set_option linter.all false
namespace L2
open PySem PySem.Spec PyProof.Rows PySem.Builtin PySem.Builtin.Str
/-! ### a text between two places -/
section
variable {X : Cx}
def kSlB : V → Option Int → Option Int → Hp → VK → Prop := fun x lo hi H Q => match x, lo, hi with
  | .str z, some i, some j => z.cps.toList.length ≤ 100000 ∧ 0 ≤ i ∧ i ≤ j ∧ j ≤ z.cps.toList.length ∧ Q (.str (st ((z.cps.toList.drop i.toNat).take (j.toNat - i.toNat)))) H
  | _, _, _ => False
theorem a_kSlB {l : List Nat} {i j : Int} {H : Hp} {Q : VK} : kSlB (.str (st l)) (some i) (some j) H Q = (l.length ≤ 100000 ∧ 0 ≤ i ∧ i ≤ j ∧ j ≤ l.length ∧ Q (.str (st ((l.drop i.toNat).take (j.toNat - i.toNat)))) H) := rfl
end
end L2


set_option linter.all false
namespace L2
open PySem PySem.Spec PyProof.Rows
section
variable {K : PySem.W.Frag} {g : TG} {tc : TT} {te : TE} {σc : St} {D : Addr} {Q : VK} {H : Hp}
theorem paired_snoc' {α β : Type} {F : α → β → Prop} {l : List α} {m : List β} {x : α} {y : β} (h : Paired F l m) (r : F x y) : Paired F (l ++ [x]) (m ++ [y]) := by
  induction h with
  | nil => exact .cons r .nil
  | cons r' _ ih => exact .cons r' ih
end
end L2


set_option linter.all false
set_option maxRecDepth 100000
namespace L2
open PySem PySem.Spec PyProof.Rows
/-! ### defs that are called while an exception is handled -/
structure RoomH (k : Nat) (A : Around) : Prop where
  dp : A.depth + 3 * k + 5 < recursionLimit
  un : A.units + 16 * k + 200 < cLine
theorem Room.h {k : Nat} {A : Around} (r : Room k A) : RoomH k A := ⟨r.dp, r.un⟩
theorem RoomH.mono {j k : Nat} {A : Around} (r : RoomH k A) (h : j ≤ k) : RoomH j A := ⟨by have := r.dp; omega, by have := r.un; omega⟩
/-- a def by its body, whatever is handled around the call -/
structure FnOkH (P : Program) (w : World) (K : PySem.W.Frag) (mg : Str → Option Value) (base : Heap) (k : Nat) (f : Addr) (fd : FuncData) (ps : List Str) (sp : Sp) : Prop where
  len : ∀ vs H Q E, sp vs H Q E → vs.length = ps.length
  run : ∀ (A : Around) (outer : List Env) (s : Shared) (H : Hp) (args : Args) (us : List Value) (vs : List V) (Q : VK) (E : XK), RoomH k A → Env0 P w K mg base A outer s H → BindsTo s fd args (ps.zip us) → Vals vs us → sp vs H Q E →
    codeAny (model P w) A (.call (.ref f) args) (CR CX0 outer P w H s Q E) s
section
variable {X : Cx} {k : Nat} {x : Str} {ps : List Str} {sp : Sp} {p pos : Pos} {e : Expr} {es : List Expr} {t : TA}
end
end L2


set_option linter.all false
set_option maxRecDepth 100000
namespace L2
open PySem PySem.Spec PyProof.Rows

/-! ### lists of pairs as tables -/
section
variable {κ : Type} [DecidableEq κ]
def valV (kvs : List (κ × V)) (k : κ) : Option V := (kvs.find? fun kv => decide (kv.1 = k)).map (·.2)
/-- in its place, or at the end -/
def putK (kvs : List (κ × V)) (k : κ) (v : V) : List (κ × V) :=
  if (kvs.any fun kv => decide (kv.1 = k)) = true then kvs.map (fun kv => if kv.1 = k then (kv.1, v) else kv) else kvs ++ [(k, v)]
def dropK (kvs : List (κ × V)) (k : κ) : List (κ × V) := kvs.filter fun kv => decide (kv.1 ≠ k)

theorem valV_pos {p : κ × V} {r : List (κ × V)} {k : κ} (e : p.1 = k) : valV (p :: r) k = some p.2 := by simp [valV, List.find?_cons, e]
theorem valV_neg {p : κ × V} {r : List (κ × V)} {k : κ} (e : ¬ p.1 = k) : valV (p :: r) k = valV r k := by simp [valV, List.find?_cons, e]
theorem valV_any (k : κ) : ∀ kvs : List (κ × V), (kvs.any fun kv => decide (kv.1 = k)) = (valV kvs k).isSome
  | [] => rfl
  | p :: r => by
    rw [List.any_cons]
    by_cases e : p.1 = k
    · simp only [valV_pos e, decide_eq_true e, Bool.true_or, Option.isSome_some]
    · rw [valV_neg e, decide_eq_false e, Bool.false_or]; exact valV_any k r
theorem length_putK (kvs : List (κ × V)) (k : κ) (v : V) : (putK kvs k v).length ≤ kvs.length + 1 := by
  unfold putK
  split
  · rw [List.length_map]; omega
  · rw [List.length_append, List.length_cons, List.length_nil]; omega
theorem putK_new {kvs : List (κ × V)} {k : κ} (v : V) (h : valV kvs k = none) : putK kvs k v = kvs ++ [(k, v)] := by
  unfold putK
  rw [valV_any, h]
  exact if_neg (by decide)

theorem RelO.isSome_eq {o : Option V} {u : Option Value} (r : RelO o u) : o.isSome = u.isSome := by
  cases o with
  | none => cases u with
    | none => rfl
    | some _ => exact (show False from r).elim
  | some _ => cases u with
    | none => exact (show False from r).elim
    | some _ => rfl
theorem RelO.getD {o : Option V} {u : Option Value} {d : V} {d' : Value} (r : RelO o u) (rd : RelV d d') : RelV (o.getD d) (u.getD d') := by
  cases o with
  | none => cases u with
    | none => exact rd
    | some _ => exact (show False from r).elim
  | some _ => cases u with
    | none => exact (show False from r).elim
    | some _ => exact r

/-- raw tables of the same keys -/
theorem KV.val {kvs : List (κ × V)} {vs : List (κ × Value)} (r : KV kvs vs) (k : κ) : RelO (valV kvs k) (valueAt vs k) := by
  unfold KV at r
  induction r with
  | nil => exact True.intro
  | @cons p q ps qs h t ih =>
    obtain ⟨h1, h2⟩ := h
    by_cases e : p.1 = k
    · have e' : q.1 = k := h1.symm.trans e
      have b : valueAt (q :: qs) k = some q.2 := by simp [valueAt, List.find?_cons, e']
      rw [valV_pos e, b]; exact h2
    · have e' : ¬ q.1 = k := fun z => e (h1.trans z)
      have b : valueAt (q :: qs) k = valueAt qs k := by simp [valueAt, List.find?_cons, e']
      rw [valV_neg e, b]; exact ih
theorem KV.any {kvs : List (κ × V)} {vs : List (κ × Value)} (r : KV kvs vs) (k : κ) : (kvs.any fun kv => decide (kv.1 = k)) = vs.any fun kv => decide (kv.1 = k) := by
  unfold KV at r
  induction r with
  | nil => rfl
  | cons h t ih => rw [List.any_cons, List.any_cons, ih, h.1]
theorem KV.repl {kvs : List (κ × V)} {vs : List (κ × Value)} (r : KV kvs vs) (k : κ) {y : V} {u : Value} (ry : RelV y u) :
    KV (kvs.map fun kv => if kv.1 = k then (kv.1, y) else kv) (vs.map fun kv => if kv.1 = k then (kv.1, u) else kv) := by
  unfold KV at r ⊢
  induction r with
  | nil => exact .nil
  | @cons p q ps qs h t ih =>
    rw [List.map_cons, List.map_cons]
    refine .cons ?_ ih
    obtain ⟨h1, h2⟩ := h
    by_cases e : p.1 = k
    · rw [if_pos e, if_pos (h1.symm.trans e)]; exact ⟨h1, ry⟩
    · rw [if_neg e, if_neg (fun z => e (h1.trans z))]; exact ⟨h1, h2⟩
theorem KV.put {kvs : List (κ × V)} {vs : List (κ × Value)} (r : KV kvs vs) (k : κ) {y : V} {u : Value} (ry : RelV y u) : KV (putK kvs k y) (stored vs k u) := by
  unfold putK stored
  rw [r.any k]
  by_cases e : (vs.any fun kv => decide (kv.1 = k)) = true
  · rw [if_pos e, if_pos e]; exact r.repl k ry
  · rw [if_neg e, if_neg e]; exact Paired.snoc r ⟨rfl, ry⟩
theorem KV.drop {kvs : List (κ × V)} {vs : List (κ × Value)} (r : KV kvs vs) (k : κ) : KV (dropK kvs k) (without vs k) := by
  unfold KV at r ⊢
  unfold dropK without
  induction r with
  | nil => exact .nil
  | @cons p q ps qs h t ih =>
    obtain ⟨h1, h2⟩ := h
    rw [List.filter_cons, List.filter_cons]
    by_cases e : p.1 = k
    · have a : ¬ decide (p.1 ≠ k) = true := by simp [e]
      have b : ¬ decide (q.1 ≠ k) = true := by simp [h1.symm.trans e]
      rw [if_neg a, if_neg b]; exact ih
    · have e' : ¬ q.1 = k := fun z => e (h1.trans z)
      have a : decide (p.1 ≠ k) = true := by simp [e]
      have b : decide (q.1 ≠ k) = true := by simp [e']
      rw [if_pos a, if_pos b]; exact .cons ⟨h1, h2⟩ ih
theorem KV.keys {kvs : List (κ × V)} {vs : List (κ × Value)} (r : KV kvs vs) : kvs.map (·.1) = vs.map (·.1) := by
  unfold KV at r
  induction r with
  | nil => rfl
  | cons h t ih => rw [List.map_cons, List.map_cons, ih, h.1]
theorem KV.length {kvs : List (κ × V)} {vs : List (κ × Value)} (r : KV kvs vs) : kvs.length = vs.length := Paired.length r
end


/-! ### a tracked dict, its keys ints and texts or tuples of these -/
theorem kV_is {P : Program} {w : World} {k : Key} {u : Value} (r : RelV (kV k) u) : (mixKind P w).is k u = true := by
  cases k with
  | inl i => obtain ⟨t, e⟩ := (show ∃ t, u = Value.int i t from r); subst e; exact mixKind_int P w i t
  | inr x => obtain ⟨t, e⟩ := (show ∃ t, u = Value.str x t from r); subst e; exact mixKind_str P w x t
theorem items_are {P : Program} {w : World} : ∀ {ks : List Key} {us : List Value}, Vals (ks.map kV) us → ItemsAre (mixKind P w) ks us
  | [], _, r => by rw [List.map_nil] at r; cases r; exact .nil
  | k :: ks, _, r => by
    rw [List.map_cons] at r
    cases r with
    | cons h t => exact .cons (kV_is h) (items_are t)

/-- raw entries of a dict with tuple keys -/
abbrev KT (H : Hp) : List (List Key × V) → List (List Key × Addr × Value) → Prop := Paired fun p q => p.1 = q.1 ∧ H q.2.1 = some (.tup (p.1.map kV)) ∧ RelV p.2 q.2.2
theorem KT.val {H : Hp} {kvs : List (List Key × V)} {xs : List (List Key × Addr × Value)} (r : KT H kvs xs) (k : List Key) : RelO (valV kvs k) ((atKey xs k).map (·.2)) := by
  induction r with
  | nil => exact True.intro
  | @cons p q ps qs h t ih =>
    obtain ⟨h1, _, h2⟩ := h
    by_cases e : p.1 = k
    · have e' : q.1 = k := h1.symm.trans e
      have b : atKey (q :: qs) k = some q.2 := by simp [atKey, List.find?_cons, e']
      rw [valV_pos e, b]; exact h2
    · have e' : ¬ q.1 = k := fun z => e (h1.trans z)
      have b : atKey (q :: qs) k = atKey qs k := by simp [atKey, List.find?_cons, e']
      rw [valV_neg e, b]; exact ih
theorem KT.repl {H : Hp} {kvs : List (List Key × V)} {xs : List (List Key × Addr × Value)} (r : KT H kvs xs) (k : List Key) {y : V} {u : Value} (ry : RelV y u) :
    KT H (kvs.map fun kv => if kv.1 = k then (kv.1, y) else kv) (xs.map (putAt k u)) := by
  induction r with
  | nil => exact .nil
  | @cons p q ps qs h t ih =>
    rw [List.map_cons, List.map_cons]
    refine .cons ?_ ih
    obtain ⟨h1, h2, h3⟩ := h
    unfold putAt
    by_cases e : p.1 = k
    · rw [if_pos e, if_pos (h1.symm.trans e)]; exact ⟨h1, h2, ry⟩
    · rw [if_neg e, if_neg (fun z => e (h1.trans z))]; exact ⟨h1, h2, h3⟩
theorem KT.put {H : Hp} {kvs : List (List Key × V)} {xs : List (List Key × Addr × Value)} (r : KT H kvs xs) (k : List Key) {b : Addr} {y : V} {u : Value} (hb : H b = some (.tup (k.map kV))) (ry : RelV y u) :
    KT H (putK kvs k y) (storedH xs k b u) := by
  have e : (kvs.any fun kv => decide (kv.1 = k)) = (atKey xs k).isSome := by
    rw [valV_any, (r.val k).isSome_eq, Option.isSome_map]
  unfold putK storedH
  rw [e]
  by_cases q : (atKey xs k).isSome = true
  · rw [if_pos q, if_pos q]; exact r.repl k ry
  · rw [if_neg q, if_neg q]; exact Paired.snoc r ⟨rfl, hb, ry⟩
theorem KT.keeps {H H' : Hp} {kvs : List (List Key × V)} {xs : List (List Key × Addr × Value)} (r : KT H kvs xs) (ht : ∀ b ys, H b = some (.tup ys) → H' b = some (.tup ys)) : KT H' kvs xs :=
  Paired.mapP r fun _ _ z => ⟨z.1, ht _ _ z.2.1, z.2.2⟩

section
variable {P : Program} {w : World} {H : Hp} {h : Heap} {a : Addr}
theorem rd_of {u : HO} (ok : HOk P w H h) (e : Rd H a u) : ObjOk P w H h a u := e.ok ok
theorem dk_rd {kvs : List (Key × V)} (ok : HOk P w H h) (e : Rd H a (.dK kvs)) : kvs.length ≤ sizeLine ∧ (a == sysModules) = false ∧ ∃ vs, KV kvs vs ∧ h.DictOf (mixKind P w) a vs :=
  show ObjOk P w H h a (.dK kvs) from rd_of ok e
theorem dk_of {kvs : List (Key × V)} (ok : HOk P w H h) (e : H a = some (.dK kvs)) : kvs.length ≤ sizeLine ∧ (a == sysModules) = false ∧ ∃ vs, KV kvs vs ∧ h.DictOf (mixKind P w) a vs := dk_rd ok (.inl e)
/-- a tracked tuple of ints and texts is a key -/
theorem key_of {ks : List Key} (ok : HOk P w H h) (e : H a = some (.tup (ks.map kV))) : (tupleKind (mixKind P w)).is h ks a := by
  obtain ⟨_, its, r, o, h1, h2, n, h3⟩ := (show ObjOk P w H h a (.tup (ks.map kV)) from ok a _ e)
  exact ⟨o, its.toArray, n, h1, h2, h3, by simpa using items_are r⟩
theorem dt_rd {kvs : List (List Key × V)} (ok : HOk P w H h) (e : Rd H a (.dT kvs)) : kvs.length ≤ sizeLine ∧ (a == sysModules) = false ∧
    ∃ xs, KT H kvs xs ∧ h.DictOfH (tupleKind (mixKind P w)) a xs := by
  obtain ⟨z, y, xs, r, o, es, ep, h1, h2, h3, h4, h5⟩ := (show ObjOk P w H h a (.dT kvs) from rd_of ok e)
  refine ⟨z, y, xs, r, o, es, ep, h1, h2, h3, h4, fun x hx => ?_, h5⟩
  have all : ∀ {l : List (List Key × V)} {m : List (List Key × Addr × Value)}, KT H l m → ∀ x ∈ m, (tupleKind (mixKind P w)).is h x.1 x.2.1 := by
    intro l m q
    induction q with
    | nil => intro x hx; exact nomatch hx
    | @cons p q ps qs hq t ih =>
      intro x hx
      rcases List.mem_cons.mp hx with e | hx
      · subst e
        exact key_of ok (by rw [← hq.1]; exact hq.2.1)
      · exact ih x hx
  exact all r x hx
end

/-- what the dict at a holds at the key y -/
def DGet (H : Hp) (a : Addr) (y : V) (r : Option V) : Prop :=
  (∃ kvs k, Rd H a (.dK kvs) ∧ y = kV k ∧ r = valV kvs k) ∨ ∃ kvs k b, Rd H a (.dT kvs) ∧ y = .ref b ∧ H b = some (.tup (k.map kV)) ∧ r = valV kvs k
/-- the heap behind a[y] = v -/
def DPut (H : Hp) (a : Addr) (y v : V) (H' : Hp) : Prop :=
  (∃ kvs k, H a = some (.dK kvs) ∧ y = kV k ∧ kvs.length < sizeLine ∧ H' = upd H a (.dK (putK kvs k v))) ∨
  ∃ kvs k b, H a = some (.dT kvs) ∧ y = .ref b ∧ H b = some (.tup (k.map kV)) ∧ kvs.length < sizeLine ∧ H' = upd H a (.dT (putK kvs k v))
theorem DGet.k {H : Hp} {a : Addr} {kvs : List (Key × V)} {k : Key} (e : H a = some (.dK kvs)) : DGet H a (kV k) (valV kvs k) := .inl ⟨kvs, k, .inl e, rfl, rfl⟩
theorem DGet.t {H : Hp} {a b : Addr} {kvs : List (List Key × V)} {k : List Key} (e : H a = some (.dT kvs)) (eb : H b = some (.tup (k.map kV))) : DGet H a (.ref b) (valV kvs k) := .inr ⟨kvs, k, b, .inl e, rfl, eb, rfl⟩
theorem DPut.k {H : Hp} {a : Addr} {kvs : List (Key × V)} {k : Key} {v : V} (e : H a = some (.dK kvs)) (hl : kvs.length < sizeLine) : DPut H a (kV k) v (upd H a (.dK (putK kvs k v))) := .inl ⟨kvs, k, e, rfl, hl, rfl⟩
theorem DPut.t {H : Hp} {a b : Addr} {kvs : List (List Key × V)} {k : List Key} {v : V} (e : H a = some (.dT kvs)) (eb : H b = some (.tup (k.map kV))) (hl : kvs.length < sizeLine) :
    DPut H a (.ref b) v (upd H a (.dT (putK kvs k v))) := .inr ⟨kvs, k, b, e, rfl, eb, hl, rfl⟩


section
variable {X : Cx} {pins : List (Addr × Obj)} {σ : St} {H : Hp} {s : Shared} {a : Addr} {y v : V} {u r : Value} {o : Option V} {A : Around} {E : Value → Shared → Prop}

theorem Inv.big (I : Inv X pins σ H s) : sysModules < s.heap.objs.size := by
  have h : mainGlobals < s.heap.objs.size := (I.mod.glob.keeps I.bk).lt
  exact Nat.lt_trans (by decide) h

/-- d[y], there -/
theorem d_getItem {Q : Value → Shared → Prop} (hu : A.units + 1 < cLine) (I : Inv X pins σ H s) (g : DGet H a y (some v)) (ry : RelV y u) (h : ∀ w' s', Inv X pins σ H s' → RelV v w' → Q w' s') :
    wpAny (model X.prog X.w) A (getItem (.ref a) u) Q E s := by
  rcases g with ⟨kvs, k, e, ey, l⟩ | ⟨kvs, k, b, e, ey, eb, l⟩
  · subst ey
    obtain ⟨z, hd, vs, rel, dd⟩ := dk_rd I.hok e
    obtain ⟨w', hw, rw'⟩ := RelO.some_of (v := v) (o := valueAt vs k) (by rw [l]; exact rel.val k)
    exact wpAny_getItem_of (kV_is ry) dd.mapOf hw (h w' _ (I.tok _) rw')
  · subst ey
    cases (show u = Value.ref b from ry)
    obtain ⟨z, hd, xs, rel, dd⟩ := dt_rd I.hok e
    obtain ⟨w', hw, rw'⟩ := RelO.some_of (v := v) (o := (atKey xs k).map (·.2)) (by rw [l]; exact rel.val k)
    obtain ⟨p, hp, hp2⟩ := Option.map_eq_some_iff.mp hw
    refine wpAny_getItem_heap (tupleKind_room_in1 hu) (key_of I.hok eb) dd hp ?_
    rw [hp2]
    exact h w' _ (I.tok _) rw'
/-- a dict's object is replaced -/
theorem d_write {h' : Heap} {t' : Nat} {ob : HO} (I : Inv X pins σ H s) (mu : Mut (H a)) (hs : Heap.SameBut a s.heap h') (he : ∃ q, h'.get? a = some q) (new : ObjOk X.prog X.w (upd H a ob) h' a ob) (ht : 0 < t' := by first | assumption | exact Nat.succ_pos _ | (apply Inv.tk; assumption) | omega) :
    Inv X pins σ (upd H a ob) { s with heap := h', toks := t' } :=
  I.write (x := a) (e := a) mu (.inl rfl) (fun b q hb z => (hs.2 b hb).trans z) he new
theorem dk_new {P : Program} {w : World} {H' : Hp} {h' : Heap} {kvs : List (Key × V)} {vs : List (Key × Value)} (z : kvs.length ≤ sizeLine) (hd : (a == sysModules) = false) (rel : KV kvs vs) (dd : h'.DictOf (mixKind P w) a vs) :
    ObjOk P w H' h' a (.dK kvs) := ⟨z, hd, vs, rel, dd⟩
end

section
variable {X : Cx} {pins : List (Addr × Obj)} {σ : St} {H : Hp} {s : Shared} {a : Addr} {kvs : List (Key × V)} {k : Key} {u : Value} {A : Around} {E : Value → Shared → Prop}
/-- len(d) -/
theorem d_len {Q : Value → Shared → Prop} (I : Inv X pins σ H s) (e : Rd H a (.dK kvs)) (h : ∀ t s', Inv X pins σ H s' → Q (.int kvs.length t) s') : wpAny (model X.prog X.w) A (call (.builtin "len") [.ref a]) Q E s := by
  obtain ⟨z, hd, vs, rel, dd⟩ := dk_rd I.hok e
  refine call_len_dict hd dd (by rw [← rel.length]; rw [sizeLine_eq] at z; omega) ?_
  rw [← rel.length]
  exact h _ _ (I.tok _)
end


/-! ### readings and rules -/
/-- the element of a subscription, not a slice -/
def NoSl (i : Expr) : Prop := ∀ ov iv, subscripted i false ov iv = operate [ov, iv] (getItem ov iv)
theorem subD_of {prog : Program} {w : World} {A : Around} {E : Value → Shared → Prop} {s : Shared} {env : Env} {value slice : Expr} {pos : Pos} {T id : String} {Q : Value → Shared → Prop}
    (hl : typeLookup (.type T) "__getitem__" = pure (some (.builtin id))) (hs : NoSl slice)
    (h : wpAny (model prog w) A (eval value env) (fun o s₁ => wpAny (model prog w) A (eval slice env) (fun i s₂ => s₂.TypeIs o T ∧ wpAny (model prog w) A (getItem o i) Q E s₂) E s₁) E s) :
    wpAny (model prog w) A (eval (.Subscript value slice pos) env) Q E s := by
  refine Subscript_ (wpAny_mono h (fun o s₁ h₁ => wpAny_mono h₁ (fun i s₂ h₂ => ?_) fun _ _ x => x) fun _ _ x => x)
  obtain ⟨hT, h₂⟩ := h₂
  unfold subscriptTail
  refine wpAny_bind ?_
  rw [getitemInPython_of_ne hT.not_modules]
  refine wpAny_bind (wpAny_specialOf hT hl ?_)
  have fin : wpAny (model prog w) A (subscripted slice false o i) (fun r s₃ => wpAny (model prog w) A (letTemporaryGo value o r >>= fun _ => pure r) Q E s₃) E s₂ := by
    rw [hs o i]
    exact wpAny_operating (wpAny_mono h₂ (fun r s₃ h₃ => wpAny_bind (wpAny_letTemporaryGo (wpAny_pure h₃))) fun _ _ x => x)
  first
    | exact wpAny_pure (wpAny_bind fin)
    | exact wpAny_bind (wpAny_pure (wpAny_bind fin))
    | exact wpAny_bind fin

theorem dict_typeIs {X : Cx} {pins : List (Addr × Obj)} {σ : St} {H : Hp} {s : Shared} {a : Addr} {y : V} {o : Option V} (I : Inv X pins σ H s) (g : DGet H a y o) : s.TypeIs (.ref a) "dict" := by
  rcases g with ⟨kvs, k, e, _, _⟩ | ⟨kvs, k, b, e, _, _, _⟩
  · obtain ⟨_, _, vs, _, dd⟩ := dk_rd I.hok e
    exact dd.typeIs
  · obtain ⟨_, _, xs, _, dd⟩ := dt_rd I.hok e
    exact dd.typeIs
/-- d[y] -/
def tDGet (td ty : TE) : TE := fun σ H Q => td σ H fun x H1 => ty σ H1 fun y H2 => ∃ a v, x = .ref a ∧ DGet H2 a y (some v) ∧ Q v H2
section
variable {X : Cx} {o i e value : Expr} {pos pos' tpos : Pos} {td ty tv : TE}
theorem pe_dget (hu : X.A.units + 1 < cLine) (ho : PE X o td) (hi : PE X i ty) (hs : NoSl i) : PE X (.Subscript o i pos) (tDGet td ty) := by
  intro pins s σ H Q I h
  refine subD_of PySem.F.slot_dict_getitem.lookup hs (thn (ho pins s σ H _ I h) fun u s1 ⟨x, H1, I1, rx, q1⟩ => thn (hi pins s1 σ H1 _ I1 q1) fun iv s2 ⟨y, H2, I2, ry, a, v, ex, g, q2⟩ => ?_)
  subst ex
  obtain rfl : u = Value.ref a := rx
  exact ⟨dict_typeIs I2 g, d_getItem hu I2 g ry fun w' s3 I3 rw' => ⟨v, H2, I3, rw', q2⟩⟩
end


/-! ### displays -/
theorem dk_empty {P : Program} {w : World} {H : Hp} (h : Heap) (hb : sysModules < h.objs.size) : ObjOk P w H (h.push { cls := .type "dict", data := .dict #[] }) h.objs.size (.dK []) :=
  ⟨Nat.zero_le _, beq_eq_false_iff_ne.mpr (Ne.symm (Nat.ne_of_lt hb)), [], .nil, Heap.DictOf.new h⟩
/-- {}, to be a dict of the kind that is wanted -/
def tDNewK : TE := fun _ H Q => ∀ p, H p = none → Q (.ref p) (upd H p (.dK []))
def tDNewT : TE := fun _ H Q => ∀ p, H p = none → Q (.ref p) (upd H p (.dT []))
section
variable {X : Cx} {pos : Pos}
theorem pe_dnewK : PE X (.Dict [] [] pos) tDNewK := fun pins s σ H Q I h =>
  wpAny_Dict_empty ⟨.ref s.heap.objs.size, _, I.laid (a := s.heap.objs.size) (o := .dK []) (t' := s.toks) (fun _ _ q => Heap.get?_push_of_some _ q) (Nat.le_refl _) (dk_empty s.heap I.big), rfl, h _ (I.hok.fresh (Nat.le_refl _))⟩
end

/-! ### methods -/
/-- a method call o.m(e) of a built-in, with one argument: what must be seen of the text -/
structure M1 (X : Cx) (o : Expr) (m : Str) (apos : Pos) (e : Expr) (cpos : Pos) : Prop where
  base : attributeBase o m X.env (eval o X.env) = eval o X.env
  few : ((backTo cpos (starEach [e] X.env)).all (fun x => !x.1) && (backToKw cpos (keywordEach [] X.env)).all (fun x => x.1.isSome)
    && decide (([e] : List Expr).length + ([] : List Keyword).length + (if ([] : List Keyword).isEmpty then 0 else 1) < 30)) = true
  line : (apos.endLine == cpos.line) = true
  trees : backTo cpos (starEach [e] X.env) = [(false, eval e X.env)]
structure M2 (X : Cx) (o : Expr) (m : Str) (apos : Pos) (e f : Expr) (cpos : Pos) : Prop where
  base : attributeBase o m X.env (eval o X.env) = eval o X.env
  few : ((backTo cpos (starEach [e, f] X.env)).all (fun x => !x.1) && (backToKw cpos (keywordEach [] X.env)).all (fun x => x.1.isSome)
    && decide (([e, f] : List Expr).length + ([] : List Keyword).length + (if ([] : List Keyword).isEmpty then 0 else 1) < 30)) = true
  line : (apos.endLine == cpos.line) = true
  trees : backTo cpos (starEach [e, f] X.env) = [(false, eval e X.env), (false, eval f X.env)]

/-- a is a dict, whatever its keys -/
def IsD (H : Hp) (a : Addr) : Prop := (∃ kvs, Rd H a (.dK kvs)) ∨ ∃ kvs, Rd H a (.dT kvs)
theorem isD_at {X : Cx} {pins : List (Addr × Obj)} {σ : St} {H : Hp} {s : Shared} {a : Addr} (I : Inv X pins σ H s) (d : IsD H a) :
    s.TypeIs (.ref a) "dict" ∧ (∀ b, Value.ref a = .ref b → ∃ ob, s.heap.get? b = some ob ∧ ob.dict = none) ∧ (a == sysModules) = false := by
  rcases d with ⟨kvs, e⟩ | ⟨kvs, e⟩
  · obtain ⟨_, hd, vs, _, dd⟩ := dk_rd I.hok e
    refine ⟨dd.typeIs, fun b q => ?_, hd⟩
    cases q
    obtain ⟨ob, _, _, h1, h2, _⟩ := dd
    exact ⟨ob, h1, h2.2.1⟩
  · obtain ⟨_, hd, xs, _, dd⟩ := dt_rd I.hok e
    refine ⟨dd.typeIs, fun b q => ?_, hd⟩
    cases q
    obtain ⟨ob, _, _, h1, h2, _⟩ := dd
    exact ⟨ob, h1, h2.2.1⟩

section
variable {X : Cx} {pins : List (Addr × Obj)} {σ : St} {H : Hp} {s : Shared} {a : Addr} {y d : V} {u r : Value} {o : Option V} {A : Around} {E : Value → Shared → Prop}
end

section
variable {X : Cx} {o e f : Expr} {apos cpos : Pos} {td ty tx : TE}
end

/-! ### dict(d): a copy -/
section
variable {X : Cx} {pins : List (Addr × Obj)} {σ : St} {H : Hp} {s : Shared} {a : Addr} {kvs : List (Key × V)} {A : Around} {E : Value → Shared → Prop}
end


section
variable {X : Cx} {pins : List (Addr × Obj)} {σ : St} {H : Hp} {s : Shared} {a : Addr} {y : V} {u : Value} {A : Around} {E : Value → Shared → Prop}
end
end L2

namespace L2
open PySem PySem.Spec PyProof.Rows
section
variable {X : Cx}
end
end L2
namespace L2
open PySem PySem.Spec PyProof.Rows
/-! ### a dict's pairs: keys that differ -/
section
variable {κ : Type} [DecidableEq κ]
end
end L2


set_option linter.all false
namespace L2
open PySem PySem.Spec PyProof.Rows
/-! ### dicts, fields: readings that compute -/
section
variable {X : Cx} {o i e value : Expr} {pos pos' apos cpos : Pos} {td ty tv ta : TE}
/-- d[y] -/
def cDGet (td ty : TE) : TE := fun σ H Q => td σ H fun x H1 => ty σ H1 fun y H2 => match x with
  | .ref a => ∃ v, DGet H2 a y (some v) ∧ Q v H2
  | _ => False
theorem qe_dget (hu : X.A.units + 1 < cLine) (ho : PE X o td) (hi : PE X i ty) (hs : NoSl i) : PE X (.Subscript o i pos) (cDGet td ty) :=
  (pe_dget hu ho.mono hi.mono hs).imp fun σ H Q q => ⟨_, q, fun x H1 z => ⟨_, z, fun y H2 z => by
    split at z
    · obtain ⟨v, g, q⟩ := z
      exact ⟨_, v, rfl, g, q⟩
    · exact z.elim⟩⟩
/-- y in d, y not in d -/
def cDIn (neg : Bool) (ty td : TE) : TE := fun σ H Q => ty σ H fun y H1 => td σ H1 fun x H2 => match x with
  | .ref a => ∃ v, DGet H2 a y v ∧ Q (.bl (neg ^^ v.isSome)) H2
  | _ => False
/-- d[y] = v -/
def cDPut (td ty tv : TE) : TS := fun D σ H => tv σ H fun v H1 => td σ H1 fun x H2 => ty σ H2 fun y H3 => match x with
  | .ref a => ∃ H4, DPut H3 a y v H4 ∧ D.nx σ H4
  | _ => False
theorem a_cDGet {σ : St} {H : Hp} {Q : VK} : cDGet td ty σ H Q = td σ H fun x H1 => ty σ H1 fun y H2 => match x with
  | .ref a => ∃ v, DGet H2 a y (some v) ∧ Q v H2
  | _ => False := rfl
theorem a_cDIn {neg : Bool} {σ : St} {H : Hp} {Q : VK} : cDIn neg ty td σ H Q = ty σ H fun y H1 => td σ H1 fun x H2 => match x with
  | .ref a => ∃ v, DGet H2 a y v ∧ Q (.bl (neg ^^ v.isSome)) H2
  | _ => False := rfl
theorem a_cDPut {D : Ends} {σ : St} {H : Hp} : cDPut td ty tv D σ H = tv σ H fun v H1 => td σ H1 fun x H2 => ty σ H2 fun y H3 => match x with
  | .ref a => ∃ H4, DPut H3 a y v H4 ∧ D.nx σ H4
  | _ => False := rfl
theorem a_dNewK {σ : St} {H : Hp} {Q : VK} : tDNewK σ H Q = ∀ p, H p = none → Q (.ref p) (upd H p (.dK [])) := rfl
theorem a_dNewT {σ : St} {H : Hp} {Q : VK} : tDNewT σ H Q = ∀ p, H p = none → Q (.ref p) (upd H p (.dT [])) := rfl
end
end L2


set_option linter.all false
set_option maxRecDepth 100000
namespace L2
open PySem PySem.Spec PyProof.Rows
/-! ### {v!r}, v a thing of the law's kinds -/
section
variable {X : Cx} {e : Expr} {te : TE} {pos : Pos}
/-- texts with their signs, not too long -/
def Few (ls : List (List Nat)) : Prop := ls.length ≤ 100 ∧ ∀ l ∈ ls, l.length ≤ 100 ∧ ∀ c ∈ l, c < 16 ^ 8
def cFmtA (tv : TE) : TE := fun σ H Q => tv σ H fun x H1 => match x with
  | .non => ∀ z : Str, z.length ≤ 200000 → Q (.str z) H1
  | .bl _ => ∀ z : Str, z.length ≤ 200000 → Q (.str z) H1
  | .int i => (i = 0 ∨ i = 10) ∧ ∀ z : Str, z.length ≤ 200000 → Q (.str z) H1
  | .str y => (∀ c ∈ y.cps.toList, c < 16 ^ 8) ∧ y.length ≤ 10000 ∧ ∀ z : Str, z.length ≤ 200000 → Q (.str z) H1
  | .ref p => ∃ ls, Few ls ∧ (H1 p = some (.lst (ls.map fun l => V.str (st l))) ∨ H1 p = some (.tup (ls.map fun l => V.str (st l)))) ∧ ∀ z : Str, z.length ≤ 200000 → Q (.str z) H1
  | _ => False
end
end L2


set_option linter.all false
set_option maxRecDepth 100000
namespace L2
open PySem PySem.Spec PyProof.Rows
section
variable {X : Cx}
variable {o e f : Expr} {to te tf : TE} {apos cpos : Pos}
def cIndex (to te : TE) : TE := fun σ H Q => to σ H fun x H1 => match x with
  | .ref l => (∃ xs, H1 l = some (.lst xs)) ∧ te σ H1 fun y H2 => match y with
    | .str z => ∃ (ls : List (List Nat)) (j : Nat), H2 l = some (.lst (ls.map fun l => V.str (st l))) ∧ ls.length ≤ 100000 ∧ ls[j]? = some z.cps.toList ∧ (∀ m, m < j → ls[m]? ≠ some z.cps.toList) ∧ Q (.int j) H2
    | _ => False
  | _ => False
/-- d.get(k, x) -/
def cDGet2 (td ty tx : TE) : TE := fun σ H Q => td σ H fun x H1 => match x with
  | .ref a => IsD H1 a ∧ ty σ H1 fun y H2 => tx σ H2 fun z H3 => ∃ o, DGet H3 a y o ∧ Q (o.getD z) H3
  | _ => False
theorem a_cIndex {σ : St} {H : Hp} {Q : VK} : cIndex to te σ H Q = to σ H fun x H1 => match x with
  | .ref l => (∃ xs, H1 l = some (.lst xs)) ∧ te σ H1 fun y H2 => match y with
    | .str z => ∃ (ls : List (List Nat)) (j : Nat), H2 l = some (.lst (ls.map fun l => V.str (st l))) ∧ ls.length ≤ 100000 ∧ ls[j]? = some z.cps.toList ∧ (∀ m, m < j → ls[m]? ≠ some z.cps.toList) ∧ Q (.int j) H2
    | _ => False
  | _ => False := rfl
theorem a_cDGet2 {td ty tx : TE} {σ : St} {H : Hp} {Q : VK} : cDGet2 td ty tx σ H Q = td σ H fun x H1 => match x with
  | .ref a => IsD H1 a ∧ ty σ H1 fun y H2 => tx σ H2 fun z H3 => ∃ o, DGet H3 a y o ∧ Q (o.getD z) H3
  | _ => False := rfl
theorem a_cFmtA {tv : TE} {σ : St} {H : Hp} {Q : VK} : cFmtA tv σ H Q = tv σ H fun x H1 => match x with
  | .non => ∀ z : Str, z.length ≤ 200000 → Q (.str z) H1
  | .bl _ => ∀ z : Str, z.length ≤ 200000 → Q (.str z) H1
  | .int i => (i = 0 ∨ i = 10) ∧ ∀ z : Str, z.length ≤ 200000 → Q (.str z) H1
  | .str y => (∀ c ∈ y.cps.toList, c < 16 ^ 8) ∧ y.length ≤ 10000 ∧ ∀ z : Str, z.length ≤ 200000 → Q (.str z) H1
  | .ref p => ∃ ls, Few ls ∧ (H1 p = some (.lst (ls.map fun l => V.str (st l))) ∨ H1 p = some (.tup (ls.map fun l => V.str (st l)))) ∧ ∀ z : Str, z.length ≤ 200000 → Q (.str z) H1
  | _ => False := rfl
end
end L2


set_option linter.all false
set_option maxRecDepth 100000
namespace L2
open PySem PySem.Spec PyProof.Rows
section
variable {X : Cx} {e : Expr} {te : TE} {apos cpos : Pos}
/-- ''.join(list of one text at most) -/
def cJoinW (K : PySem.W.Frag) (te : TE) : TE := fun σ H Q => te σ H fun x H1 => match x with
  | .ref l => ∃ ls : List (List Nat), SqL K H1 l (ls.map fun l => V.str (st l)) ∧ ls.length ≤ 1 ∧ (∀ x ∈ ls, x.length ≤ 10000) ∧ Q (.str (st ls.flatten)) H1
  | _ => False
theorem a_cJoinW {K : PySem.W.Frag} {σ : St} {H : Hp} {Q : VK} : cJoinW K te σ H Q = te σ H fun x H1 => match x with
  | .ref l => ∃ ls : List (List Nat), SqL K H1 l (ls.map fun l => V.str (st l)) ∧ ls.length ≤ 1 ∧ (∀ x ∈ ls, x.length ≤ 10000) ∧ Q (.str (st ls.flatten)) H1
  | _ => False := rfl
end
end L2


set_option linter.all false
set_option maxRecDepth 100000
namespace L2
open PySem PySem.Spec PyProof.Rows
section
variable {X : Cx}
/-- z[:-1] of a text -/
def kSlM : V → Option Int → Option Int → Hp → VK → Prop := fun x lo hi H Q => match x, lo, hi with
  | .str z, none, some j => z.cps.toList.length ≤ 100000 ∧ 1 ≤ z.cps.toList.length ∧ j = -1 ∧ Q (.str (st (z.cps.toList.take (z.cps.toList.length - 1)))) H
  | _, _, _ => False
theorem a_kSlM {l : List Nat} {j : Int} {H : Hp} {Q : VK} : kSlM (.str (st l)) none (some j) H Q = (l.length ≤ 100000 ∧ 1 ≤ l.length ∧ j = -1 ∧ Q (.str (st (l.take (l.length - 1)))) H) := rfl
end
end L2



set_option linter.all false
set_option maxRecDepth 100000
namespace L2
open PySem PySem.Spec PyProof.Rows
/-! ### d.setdefault(k, v) -/
section
variable {X : Cx} {pins : List (Addr × Obj)} {σ : St} {H : Hp} {s : Shared} {a : Addr} {y v : V} {u r : Value} {A : Around} {E : Value → Shared → Prop}
theorem d_setdef {Q : Value → Shared → Prop} {kvs : List (Key × V)} {k : Key} (I : Inv X pins σ H s) (e : H a = some (.dK kvs)) (ry : RelV (kV k) u) (rv : RelV v r) (hl : kvs.length < sizeLine)
    (h1 : ∀ v' w' s', valV kvs k = some v' → Inv X pins σ H s' → RelV v' w' → Q w' s') (h2 : ∀ s', valV kvs k = none → Inv X pins σ (upd H a (.dK (putK kvs k v))) s' → Q r s') :
    wpAny (model X.prog X.w) A (call (.builtin "dict.setdefault") [.ref a, u, r]) Q E s := by
  obtain ⟨z, hd, vs, rel, dd⟩ := dk_of I.hok e
  have rv2 := rel.val k
  refine call_meetsIn PySem.F.slot_dict_setdefault dd.typeIs PySem.F.entry_dict_setdefault (PySem.F.args_dict_setdefault_3 _ _ _) (kt_meets_setdefault (mixKind X.prog X.w) a (kV_is ry) hd r) ⟨vs, dd, by rw [← rel.length]; exact z, fun w' hw => ?_, fun hn h' dd' hs => ?_⟩
  · rw [hw] at rv2
    cases q : valV kvs k with
    | none => rw [q] at rv2; exact (show False from rv2).elim
    | some v' => rw [q] at rv2; exact h1 v' w' _ q (I.tok _) rv2
  · have q : valV kvs k = none := by
      cases q : valV kvs k with
      | none => rfl
      | some v' => rw [hn, q] at rv2; exact (show False from rv2).elim
    have he : ∃ q, h'.get? a = some q := let ⟨q, _, _, hq, _⟩ := dd'; ⟨q, hq⟩
    have hl2 : (putK kvs k v).length ≤ sizeLine := by have := length_putK kvs k v; omega
    exact h2 _ q (d_write I (by rw [e]; exact True.intro) hs he (dk_new hl2 hd (rel.put k rv) dd'))
end
def cSetDef (td ty tx : TE) : TE := fun σ H Q => td σ H fun x H1 => match x with
  | .ref a => IsD H1 a ∧ ty σ H1 fun y H2 => tx σ H2 fun z H3 => ∃ kvs k, H3 a = some (.dK kvs) ∧ y = kV k ∧ kvs.length < sizeLine ∧ (∀ v, valV kvs k = some v → Q v H3) ∧ (valV kvs k = none → Q z (upd H3 a (.dK (putK kvs k z))))
  | _ => False
section
variable {X : Cx} {o e f : Expr} {apos cpos : Pos} {td ty tx : TE}
theorem qe_setdef (ho : PE X o td) (he : PE X e ty) (hf : PE X f tx) (m : M2 X o "setdefault" apos e f cpos) : PE X (.Call (.Attribute o "setdefault" apos) [e, f] [] cpos) (cSetDef td ty tx) := by
  intro pins s σ H Q I h
  refine wpAny_Call_method m.base m.few m.line PySem.F.plainAttrs_dict PySem.F.slot_dict_setdefault PySem.F.type_dict_setdefault (thn (ho pins s σ H _ I h) fun u s1 ⟨x, H1, I1, rx, q1⟩ => ?_)
  dsimp only at q1
  split at q1
  · rename_i a
    obtain ⟨d, q1⟩ := q1
    obtain rfl : u = Value.ref a := rx
    obtain ⟨t1, t2, _⟩ := isD_at I1 d
    refine ⟨t1, t2, ?_⟩
    rw [m.trees]
    refine Calls.callWith_builtin rfl (Calls.evalArgs_plain (Calls.spliced_cons (thn (he pins s1 σ H1 _ I1 q1) fun iv s2 ⟨y, H2, I2, ry, q2⟩ =>
      Calls.spliced_cons (thn (hf pins s2 σ H2 _ I2 q2) fun fv s3 ⟨z, H3, I3, rz, kvs, k, e3, ey, hl, q3, q4⟩ => Calls.spliced_nil ?_))))
    subst ey
    exact d_setdef I3 e3 ry rz hl (fun v' w' s4 hv I4 r4 => ⟨v', H3, I4, r4, q3 v' hv⟩) fun s4 hn I4 => ⟨z, _, I4, rz, q4 hn⟩
  · exact q1.elim
theorem a_cSetDef {σ : St} {H : Hp} {Q : VK} : cSetDef td ty tx σ H Q = td σ H fun x H1 => match x with
  | .ref a => IsD H1 a ∧ ty σ H1 fun y H2 => tx σ H2 fun z H3 => ∃ kvs k, H3 a = some (.dK kvs) ∧ y = kV k ∧ kvs.length < sizeLine ∧ (∀ v, valV kvs k = some v → Q v H3) ∧ (valV kvs k = none → Q z (upd H3 a (.dK (putK kvs k z))))
  | _ => False := rfl
/-! ### return d: nobody writes to it from here on -/
def tRetD (te : TE) : TS := fun D σ H => te σ H fun x H1 => match x with
  | .ref a => ∃ kvs, H1 a = some (.dK kvs) ∧ ∀ ob, D.rt (.ref a) (upd H1 a (.frz ob (.dK kvs)))
  | _ => False
theorem Inv.frozen {pins : List (Addr × Obj)} {σ : St} {H : Hp} {s : Shared} {a : Addr} {kvs : List (Key × V)} (I : Inv X pins σ H s) (e : H a = some (.dK kvs)) : ∃ ob, Inv X pins σ (upd H a (.frz ob (.dK kvs))) s := by
  obtain ⟨z, hd, vs, rel, dd⟩ := dk_of I.hok e
  obtain ⟨ob, es, ep, hq, r⟩ := id dd
  refine ⟨ob, ?_⟩
  exact d_write (h' := s.heap) (t' := s.toks) I (by rw [e]; exact True.intro) ⟨rfl, fun _ _ => rfl⟩ ⟨ob, hq⟩ ⟨hq, dk_new z hd rel dd⟩
theorem ps_retD {pos : Pos} (he : PE X e ty) : PS X (.Return (some e) pos) (tRetD ty) := by
  intro pins s σ H D I h
  refine wpAny_Return_some (thn (he pins s σ H _ I h) fun v s1 ⟨x, H1, I1, r1, q1⟩ => ?_)
  dsimp only at q1
  split at q1
  · rename_i a
    obtain ⟨kvs, e1, q1⟩ := q1
    obtain ⟨ob, I2⟩ := I1.frozen e1
    exact ⟨.ref a, σ, _, I2, r1, q1 ob⟩
  · exact q1.elim
theorem a_tRetD {D : Ends} {σ : St} {H : Hp} : tRetD ty D σ H = ty σ H fun x H1 => match x with
  | .ref a => ∃ kvs, H1 a = some (.dK kvs) ∧ ∀ ob, D.rt (.ref a) (upd H1 a (.frz ob (.dK kvs)))
  | _ => False := rfl
end
end L2


set_option linter.all false
set_option maxRecDepth 100000
namespace L2
open PySem PySem.Spec PyProof.Rows
/-! ### for k, v in d.items() -/
def epOf (o : Obj) : Nat := match o.data with | .dict _ ep => ep | _ => 0
def Itm (a : Addr) (o : Obj) (kvs : List (Key × V)) : It := ⟨fun i H => H a = some (.frz o (.dK kvs)) ∧ i < kvs.length, fun i H v H' => ∃ T k x, v = .ref T ∧ H T = none ∧ kvs[i]? = some (k, x) ∧ H' = upd H T (.tup [kV k, x]), fun i H => H a = some (.frz o (.dK kvs)) ∧ i = kvs.length⟩
theorem key_rel {P : Program} {w : World} {k : Key} {v : Value} (h : (mixKind P w).is k v = true) : RelV (kV k) v := by
  rcases keyIs_shape h with ⟨i, t, rfl, rfl⟩ | ⟨x, t, rfl, rfl⟩
  · exact ⟨t, rfl⟩
  · exact ⟨t, rfl⟩
theorem dict_at {X : Cx} {pins : List (Addr × Obj)} {σ : St} {H : Hp} {s : Shared} {a : Addr} {o : Obj} {kvs : List (Key × V)} (I : Inv X pins σ H s) (e : H a = some (.frz o (.dK kvs))) :
    ∃ vs, KV kvs vs ∧ s.heap.DictAt (mixKind X.prog X.w) a vs (epOf o) ∧ (a == sysModules) = false := by
  obtain ⟨h1, _, hd, vs, rel, ob, es, ep, hq, he, hdt, r⟩ := (show ObjOk X.prog X.w H s.heap a (.frz o (.dK kvs)) from I.hok a _ e)
  rw [h1] at hq
  cases hq
  refine ⟨vs, rel, ⟨o, es, h1, he, ?_, r⟩, hd⟩
  unfold epOf
  rw [hdt]
theorem turn_items {P : Program} {w : World} {K : PySem.W.Frag} {elts : List Expr} {kk : Nat} {pos : Pos} (a it : Addr) (hne : a ≠ it) (o : Obj) (kvs : List (Key × V)) :
    Turn P w K (.Tuple elts kk pos) (Itm a o kvs) [it] it (fun i h => ∃ ok ov, IsItemIter h it a i kvs.length (epOf o) ok ov) where
  mem := by simp
  obj := fun i h st b hb => by
    obtain ⟨ok, ov, he⟩ := st
    have e : b = it := by simpa using hb
    subst e
    exact ⟨_, he, fun v z => by
      have z' : Data.fields _ = Data.cell v := z
      cases z'⟩
  keep := fun i h h' st k => by
    obtain ⟨ok, ov, he⟩ := st
    exact ⟨ok, ov, k it (by simp) _ he⟩
  item := by
    intro X hP hw hK hc i pins s σ H E I hf st hg
    subst hP hw hK
    obtain ⟨ok, ov, he⟩ := st
    obtain ⟨hq, hi⟩ := hg
    obtain ⟨vs, rel, hm, hd⟩ := dict_at I hq
    have hl := rel.length
    obtain ⟨⟨k, x⟩, hx⟩ : ∃ p, kvs[i]? = some p := ⟨kvs[i], by simp [hi]⟩
    obtain ⟨⟨k', u⟩, hu, hkk, ru⟩ := paired_at rel hx
    obtain rfl : k = k' := hkk
    rw [hl] at he
    refine wpAny_pyNext_items_item he hm hu fun key h' hkey ho hT hsz hk => ⟨_, rfl, ?_⟩
    refine wpAny_letOwnedTupleGo_items ho fun h'' he'' hs => ?_
    have ti : s.heap.objs.size ≠ it := Nat.ne_of_gt (Heap.lt_size he)
    have hT2 : h''.IsTuple s.heap.objs.size #[key, u] := ⟨_, hs.extBut _ _ ti hT, rfl, _, rfl⟩
    have I1 : Inv X pins σ (upd H s.heap.objs.size (.tup [kV k, x])) { s with heap := h'', toks := s.toks } := by
      refine I.turnedLaid (its := [it]) (fun b ob hb q => hs.extBut b ob (by simpa using hb) (hk b ob (by simpa using hb) q)) hf (Nat.le_refl _) ?_ I.tk
      exact ⟨by show 2 ≤ sizeLine; decide, [key, u], .cons (key_rel hkey) (.cons ru .nil), hT2⟩
    refine ⟨.ref s.heap.objs.size, _, I1, rfl, ⟨_, k, x, rfl, I.hok.fresh (Nat.le_refl _), hx, rfl⟩, ⟨key, u, by rw [hl]; exact he''⟩, fun b hb => ?_⟩
    have e : b = it := by simpa using hb
    subst e
    rw [upd_ne (Ne.symm ti)]
    exact (hf b hb).1
  done := by
    intro X hP hw hK hc i pins s σ H E I hf st hg
    subst hP hw hK
    obtain ⟨ok, ov, he⟩ := st
    obtain ⟨hq, rfl⟩ := hg
    obtain ⟨vs, rel, hm, hd⟩ := dict_at I hq
    have hl := rel.length
    rw [hl] at he
    refine wpAny_pyNext_items_end (I.ok.hd hc) he hm (by simp) fun h' hx => ⟨rfl, I.turnedL (its := [it]) (fun b o hb q => hx b o (by simpa using hb) q) hf I.tk⟩
  self := fun A i s Q E st h => by
    obtain ⟨ok, ov, he⟩ := st
    exact PySem.W.kcp_self he h
section
variable {X : Cx} {o : Expr} {to : TE} {apos cpos : Pos}
def cItems (to : TE) : TI := fun σ H R => to σ H fun x H1 => match x with
  | .ref a => ∃ ob kvs, H1 a = some (.frz ob (.dK kvs)) ∧ R (Itm a ob kvs) H1
  | _ => False
theorem qi_items {elts : List Expr} {kk : Nat} {tpos : Pos} (ho : PE X o to) (hbase : attributeBase o "items" X.env (eval o X.env) = eval o X.env := by rfl) (hline : (apos.endLine == cpos.line) = true := by rfl) :
    PI X (.Tuple elts kk tpos) (.Call (.Attribute o "items" apos) [] [] cpos) (cItems to) := by
  intro pins s σ H R I h
  refine wpAny_Call_method hbase rfl hline PySem.F.plainAttrs_dict PySem.F.slot_dict_items PySem.F.type_dict_items (thn (ho pins s σ H _ I h) fun u s1 ⟨x, H1, I1, rx, q1⟩ => ?_)
  dsimp only at q1
  split at q1
  · rename_i a
    obtain ⟨ob, kvs, e1, q1⟩ := q1
    obtain rfl : u = Value.ref a := rx
    obtain ⟨t1, t2, hd⟩ := isD_at I1 (.inl ⟨kvs, .inr ⟨ob, e1⟩⟩)
    refine ⟨t1, t2, callWith_method0 ?_⟩
    obtain ⟨vs, rel, hm, _⟩ := dict_at I1 e1
    refine call_meetsIn PySem.F.slot_dict_items t1 PySem.F.entry_dict_items (PySem.F.args_dict_items_1 _) (meets_dict_items (mixKind X.prog X.w) a hd) ⟨⟨vs, hm.dictOf⟩, ?_⟩
    have I2 : Inv X pins σ H1 { s1 with heap := s1.heap.push { cls := .type "dict_items", data := .fields #[.ref a] }, toks := s1.toks } := I1.kept fun b o e => Heap.get?_push_of_some _ e
    have hm2 : (s1.heap.push { cls := .type "dict_items", data := .fields #[.ref a] }).DictAt (mixKind X.prog X.w) a vs (epOf ob) := hm.push _
    refine wpAny_pyIter_items (d := a) (kvs := vs) (ep := epOf ob) ⟨_, Heap.get?_push_size _ rfl, rfl, rfl⟩ hm2 ?_
    have hlt : a < (s1.heap.push { cls := .type "dict_items", data := .fields #[.ref a] }).objs.size := hm2.lt_size
    refine ⟨_, [_], _, Itm a ob kvs, H1, rfl, I2.kept (t' := s1.toks) fun b o e => Heap.get?_push_of_some _ e, turn_items a _ (Nat.ne_of_lt hlt) ob kvs, ⟨.none, .none, ?_⟩, fun b hb => ?_, q1⟩
    · rw [rel.length]
      exact Heap.get?_push_size _ rfl
    · have e := List.mem_singleton.mp hb
      subst e
      exact I2.fpOk (Nat.le_refl _) (I2.hok.fresh (Nat.le_refl _))
  · exact q1.elim
theorem a_cItems {σ : St} {H : Hp} {R : It → Hp → Prop} : cItems to σ H R = to σ H fun x H1 => match x with
  | .ref a => ∃ ob kvs, H1 a = some (.frz ob (.dK kvs)) ∧ R (Itm a ob kvs) H1
  | _ => False := rfl
end
/-! ### d == e, values ints -/
def KVal (p : Key × V) : Prop := ∃ i, p.2 = V.int i
def dEq (ka kb : List (Key × V)) : Bool := ka.length == kb.length && ka.all fun p => match p.2, valV kb p.1 with | .int i, some (.int j) => i == j | _, _ => false
section
variable {X : Cx}
theorem hits_of {A : Around} {s : Shared} {kb : List (Key × V)} {vb : List (Key × Value)} (rb : KV kb vb) (hb : ∀ p ∈ kb, KVal p) : ∀ {ka : List (Key × V)} {va : List (Key × Value)}, KV ka va → (∀ p ∈ ka, KVal p) →
    ∃ r, r = (ka.all fun p => match p.2, valV kb p.1 with | .int i, some (.int j) => i == j | _, _ => false) ∧ PySem.W.KeqHits A s vb va r := by
  intro ka va r
  unfold KV at r
  induction r with
  | nil => intro _; exact ⟨true, rfl, .nil⟩
  | @cons p q ps qs h t ih =>
    intro ha
    obtain ⟨r, hr, hh⟩ := ih fun p hp => ha p (List.mem_cons_of_mem _ hp)
    obtain ⟨i, hi⟩ := ha p List.mem_cons_self
    obtain ⟨h1, h2⟩ := h
    rw [hi] at h2
    obtain ⟨t1, ht1⟩ := (show ∃ t, q.2 = Value.int i t from h2)
    have rv := rb.val p.1
    obtain ⟨q1, q2⟩ := q
    obtain rfl : p.1 = q1 := h1
    obtain rfl : q2 = Value.int i t1 := ht1
    rw [List.all_cons, hi]
    cases e : valV kb p.1 with
    | none =>
      rw [e] at rv
      have hn : valueAt vb p.1 = none := RelO.none_of rv
      exact ⟨_, rfl, by dsimp only; rw [Bool.false_and]; exact .miss hn⟩
    | some v =>
      rw [e] at rv
      obtain ⟨m, hm, em⟩ : ∃ m ∈ kb, m.2 = v := by
        unfold valV at e
        obtain ⟨m, hm, em⟩ := Option.map_eq_some_iff.mp e
        exact ⟨m, List.mem_of_find?_eq_some hm, em⟩
      obtain ⟨j, hj⟩ := hb m hm
      rw [em] at hj
      subst hj
      cases ev : valueAt vb p.1 with
      | none => rw [ev] at rv; exact (show False from rv).elim
      | some y =>
        rw [ev] at rv
        obtain ⟨t2, rfl⟩ := (show ∃ t, y = Value.int j t from rv)
        refine ⟨_, rfl, ?_⟩
        dsimp only
        rw [← hr]
        exact .hit ev (SeqAt.EqAt.int_int i t1 j t2) hh
def kEqDict : R2 := fun x y H Q => match x, y with
  | .ref a, .ref b => ∃ ka kb, Rd H a (.dK ka) ∧ Rd H b (.dK kb) ∧ (∀ p ∈ ka, KVal p) ∧ (∀ p ∈ kb, KVal p) ∧ Q (.bl (dEq ka kb)) H
  | _, _ => False
theorem eqDictE {k : Nat} (hr : Room k X.A) : OpR X (compareOp .Eq) kEqDict := by
  intro pins s σ H x y v u Q I rx ry h
  unfold kEqDict at h
  split at h
  · rename_i a b
    obtain ⟨ka, kb, ea, eb, ha, hb, q⟩ := h
    cases rx
    cases ry
    obtain ⟨_, da, va, ra, oa⟩ := dk_rd I.hok ea
    obtain ⟨_, db, vb, rb, ob⟩ := dk_rd I.hok eb
    obtain ⟨r, er, hh⟩ := hits_of (A := X.A.in1) (s := s) rb hb ra ha
    have hu := hr.un
    refine PySem.W.keq_eq da db oa ob (by omega) (fun _ => hh) ?_
    refine ⟨.bl _, H, I, rfl, ?_⟩
    rw [← ra.length, ← rb.length, er]
    exact q
  · exact h.elim
/-! ### ints and tuples of these, whatever they are -/
def kEqF (K : PySem.W.Frag) : R2 := fun x y H Q => match x, y with
  | .int i, .int j => Q (.bl (decide (i = j))) H
  | .int _, .ref b => (∃ ys, SqT K H b ys) ∧ Q (.bl false) H
  | .ref a, .int _ => (∃ xs, SqT K H a xs) ∧ Q (.bl false) H
  | .ref a, .ref b => kEqD K false (.ref a) (.ref b) H Q
  | _, _ => False
theorem eqFE (K : PySem.W.Frag) (hK : X.K = K) {k : Nat} (hr : Room k X.A) : OpR X (compareOp .Eq) (kEqF K) := by
  subst hK
  intro pins s σ H x y v u Q I rx ry h
  have hu := hr.un
  unfold kEqF at h
  split at h
  · exact op_eqK pins s σ H _ _ v u Q I rx ry (by rw [a_kEqI]; simpa using h)
  · obtain ⟨⟨ys, hy⟩, q⟩ := h
    obtain ⟨t, rfl⟩ := rx
    cases ry
    obtain ⟨us, r1, pl, _⟩ := I.tuple hy
    exact SeqAt.RcAt.int_tuple _ _ pl (by omega) _ _ _ _ ⟨.bl _, H, I, rfl, q⟩
  · obtain ⟨⟨ys, hy⟩, q⟩ := h
    obtain ⟨t, rfl⟩ := ry
    cases rx
    obtain ⟨us, r1, pl, _⟩ := I.tuple hy
    exact SeqAt.RcAt.tuple_int _ _ pl (by omega) _ _ _ _ ⟨.bl _, H, I, rfl, q⟩
  · exact eqDE X.K rfl hr pins s σ H _ _ v u Q I rx ry h
  · exact h.elim
theorem call_lenDR : CallR X (.builtin "len") (fun xs H Q => ∃ a kvs, xs = [V.ref a] ∧ Rd H a (.dK kvs) ∧ Q (.int kvs.length) H) := by
  intro pins s σ H xs us Q I r h
  obtain ⟨a, kvs, rfl, ha, q⟩ := h
  obtain ⟨u, rfl, ru⟩ := vals1 r
  cases ru
  exact d_len I ha fun t s' I' => ⟨.int kvs.length, H, I', ⟨t, rfl⟩, q⟩
end
end L2


set_option linter.all false
set_option maxRecDepth 100000
namespace L2
open PySem PySem.Spec PyProof.Rows
section
variable {K : PySem.W.Frag} {g : TG} {tc : TT} {te : TE} {σc : St} {D : Addr} {Q : VK} {H : Hp} {td ty : TE}
theorem a_tBreak {Dn : Ends} {σ : St} : tBreak Dn σ H = Dn.bk σ H := rfl
theorem a_kEqDict {a b : Addr} : kEqDict (.ref a) (.ref b) H Q = ∃ ka kb, Rd H a (.dK ka) ∧ Rd H b (.dK kb) ∧ (∀ p ∈ ka, KVal p) ∧ (∀ p ∈ kb, KVal p) ∧ Q (.bl (dEq ka kb)) H := rfl
/-- a comprehension over a dict's items -/
theorem comp_itemsR {α : Type} (f : α → Key × V) (xs : List α) (keep : α → Bool) (R : α → V → Hp → Prop) {a : Addr} {ob : Obj} (hfree : H D = none) (hl : H a = some (.frz ob (.dK (xs.map f)))) (hn : xs.length ≤ 100000)
    (mono : ∀ x v H1 H2 acc, H1 D = some (.lst acc) → (∀ b o, b ≠ D → H1 b = some o → H2 b = some o) → R x v H1 → R x v H2)
    (hs : ∀ x T H1 (out : VK) (non : Hp → Prop), x ∈ xs → Same H H1 → H1 T = some (.tup [kV (f x).1, (f x).2]) → (∀ v H6, keep x = true → Same H1 H6 → R x v H6 → out v H6) → (∀ H5, keep x = false → Same H1 H5 → non H5) →
      g (.ref T) σc H1 fun σ4 H4 => tc σ4 H4 fun b H5 => if b = true then te σ4 H5 out else non H5)
    (hq : ∀ H' vs, Same H H' → H' D = some (.lst vs) → Paired (fun x v => R x v H') (xs.filter keep) vs → Q (.ref D) H') : compW (Itm a ob (xs.map f)) g tc te σc D Q H := by
  refine ⟨fun i m acc H2 => m = xs.length - i ∧ i ≤ xs.length ∧ Paired (fun x v => R x v H2) ((xs.take i).filter keep) acc ∧ Same H H2 ∧ H2 D = some (.lst acc), ⟨xs.length, by simp, Nat.zero_le _, .nil, same_new hfree _, upd_same⟩, ?_⟩
  rintro i m acc H2 ⟨rfl, hi, pr, sm, hD⟩
  have len : acc.length ≤ i := by
    have a := pr.length
    have b := List.length_filter_le keep (xs.take i)
    rw [List.length_take] at b
    omega
  by_cases hlt : i < xs.length
  · refine .inr ⟨⟨sm _ _ hl, by simpa using hlt⟩, fun x H3 y => ?_⟩
    obtain ⟨T, k, u, rfl, hT, hk, rfl⟩ := y
    rw [List.getElem?_map, List.getElem?_eq_getElem hlt] at hk
    have e2 : f xs[i] = (k, u) := Option.some.inj hk
    have ht : xs.take (i + 1) = xs.take i ++ [xs[i]] := by rw [List.take_add_one, List.getElem?_eq_getElem hlt]; rfl
    have s3 := same_new hT (.tup [kV k, u])
    have hD3 := s3 _ _ hD
    refine hs xs[i] T _ _ _ (List.getElem_mem hlt) (sm.trans s3) (by rw [e2]; exact upd_same) (fun v H6 k s6 r => ?_) fun H5 k s5 => ?_
    · refine ⟨s6 _ _ hD3, Nat.lt_of_le_of_lt len (sizeBig (by omega)), xs.length - (i + 1), by omega, rfl, hlt, ?_, ?_, upd_same⟩
      · have m1 : ∀ x v, R x v H6 → R x v (upd H6 D (.lst (acc ++ [v]))) := fun x v r => mono x v H6 _ acc (s6 _ _ hD3) (fun b o nb q => by rw [upd_ne nb]; exact q) r
        rw [ht, List.filter_append]
        have f1 : [xs[i]].filter keep = [xs[i]] := by simp [k]
        rw [f1]
        have lift : ∀ {l : List α} {vs : List V}, Paired (fun x v => R x v H2) l vs → Paired (fun x v' => R x v' (upd H6 D (.lst (acc ++ [v])))) l vs := by
          intro l vs pp
          induction pp with
          | nil => exact .nil
          | cons r _ ih => exact .cons (mono _ _ H2 _ acc hD (fun b o nb q => by rw [upd_ne nb]; exact s6 _ _ (s3 _ _ q)) r) ih
        have app : ∀ {l : List α} {vs : List V} {x : α} {v' : V} {F : α → V → Prop}, Paired F l vs → F x v' → Paired F (l ++ [x]) (vs ++ [v']) := by
          intro l vs x v' F pp r
          induction pp with
          | nil => exact .cons r .nil
          | cons r' _ ih => exact .cons r' ih
        exact app (lift pr) (m1 _ _ r)
      · exact same_upd (sm.trans (s3.trans s6)) hfree
    · refine ⟨xs.length - (i + 1), by omega, rfl, hlt, ?_, sm.trans (s3.trans s5), s5 _ _ hD3⟩
      rw [ht, List.filter_append]
      have f1 : [xs[i]].filter keep = [] := by simp [k]
      rw [f1, List.append_nil]
      have lift : ∀ {l : List α} {vs : List V}, Paired (fun x v => R x v H2) l vs → Paired (fun x v' => R x v' H5) l vs := by
        intro l vs pp
        induction pp with
        | nil => exact .nil
        | cons r _ ih => exact .cons (mono _ _ H2 _ acc hD (fun b o _ q => s5 _ _ (s3 _ _ q)) r) ih
      exact lift pr
  · have e : i = xs.length := by omega
    subst e
    rw [List.take_length] at pr
    exact .inl ⟨⟨sm _ _ hl, by simp⟩, hq H2 acc sm hD pr⟩
end
end L2


set_option linter.all false
set_option maxRecDepth 100000
namespace L2
open PySem PySem.Spec PyProof.Rows
section
variable {K : PySem.W.Frag} {J : It} {g : TG} {tc : TT} {te : TE} {σc : St} {D : Addr} {Q : VK} {H : Hp}
/-- a comprehension over whatever yields so many things -/
theorem comp_gen {α : Type} (xs : List α) (keep : α → Bool) (R : α → V → Hp → Prop) (hfree : H D = none) (hn : xs.length ≤ 100000) (hgo : ∀ i H1, i < xs.length → Same H H1 → J.go i H1) (hst : ∀ H1, Same H H1 → J.stop xs.length H1)
    (hy : ∀ i H1 v H2, i < xs.length → J.yld i H1 v H2 → Same H1 H2)
    (mono : ∀ x v H1 H2 acc, H1 D = some (.lst acc) → (∀ b o, b ≠ D → H1 b = some o → H2 b = some o) → R x v H1 → R x v H2)
    (hs : ∀ i x v H1 H2 (out : VK) (non : Hp → Prop), xs[i]? = some x → Same H H1 → J.yld i H1 v H2 → (∀ v H6, keep x = true → Same H2 H6 → R x v H6 → out v H6) → (∀ H5, keep x = false → Same H2 H5 → non H5) →
      g v σc H2 fun σ4 H4 => tc σ4 H4 fun b H5 => if b = true then te σ4 H5 out else non H5)
    (hq : ∀ H' vs, Same H H' → H' D = some (.lst vs) → Paired (fun x v => R x v H') (xs.filter keep) vs → Q (.ref D) H') : compW J g tc te σc D Q H := by
  refine ⟨fun i m acc H2 => m = xs.length - i ∧ i ≤ xs.length ∧ Paired (fun x v => R x v H2) ((xs.take i).filter keep) acc ∧ Same H H2 ∧ H2 D = some (.lst acc), ⟨xs.length, by simp, Nat.zero_le _, .nil, same_new hfree _, upd_same⟩, ?_⟩
  rintro i m acc H2 ⟨rfl, hi, pr, sm, hD⟩
  have len : acc.length ≤ i := by
    have a := pr.length
    have b := List.length_filter_le keep (xs.take i)
    rw [List.length_take] at b
    omega
  by_cases hlt : i < xs.length
  · refine .inr ⟨hgo i H2 hlt sm, fun x H3 y => ?_⟩
    have s3 := hy i H2 x H3 hlt y
    have ht : xs.take (i + 1) = xs.take i ++ [xs[i]] := by rw [List.take_add_one, List.getElem?_eq_getElem hlt]; rfl
    have hD3 := s3 _ _ hD
    refine hs i xs[i] x _ _ _ _ (List.getElem?_eq_getElem hlt) sm y (fun v H6 k s6 r => ?_) fun H5 k s5 => ?_
    · refine ⟨s6 _ _ hD3, Nat.lt_of_le_of_lt len (sizeBig (by omega)), xs.length - (i + 1), by omega, rfl, hlt, ?_, ?_, upd_same⟩
      · have m1 : ∀ x v, R x v H6 → R x v (upd H6 D (.lst (acc ++ [v]))) := fun x v r => mono x v H6 _ acc (s6 _ _ hD3) (fun b o nb q => by rw [upd_ne nb]; exact q) r
        rw [ht, List.filter_append]
        have f1 : [xs[i]].filter keep = [xs[i]] := by simp [k]
        rw [f1]
        have lift : ∀ {l : List α} {vs : List V}, Paired (fun x v => R x v H2) l vs → Paired (fun x v' => R x v' (upd H6 D (.lst (acc ++ [v])))) l vs := by
          intro l vs pp
          induction pp with
          | nil => exact .nil
          | cons r _ ih => exact .cons (mono _ _ H2 _ acc hD (fun b o nb q => by rw [upd_ne nb]; exact s6 _ _ (s3 _ _ q)) r) ih
        have app : ∀ {l : List α} {vs : List V} {x : α} {v' : V} {F : α → V → Prop}, Paired F l vs → F x v' → Paired F (l ++ [x]) (vs ++ [v']) := by
          intro l vs x v' F pp r
          induction pp with
          | nil => exact .cons r .nil
          | cons r' _ ih => exact .cons r' ih
        exact app (lift pr) (m1 _ _ r)
      · exact same_upd (sm.trans (s3.trans s6)) hfree
    · refine ⟨xs.length - (i + 1), by omega, rfl, hlt, ?_, sm.trans (s3.trans s5), s5 _ _ hD3⟩
      rw [ht, List.filter_append]
      have f1 : [xs[i]].filter keep = [] := by simp [k]
      rw [f1, List.append_nil]
      have lift : ∀ {l : List α} {vs : List V}, Paired (fun x v => R x v H2) l vs → Paired (fun x v' => R x v' H5) l vs := by
        intro l vs pp
        induction pp with
        | nil => exact .nil
        | cons r _ ih => exact .cons (mono _ _ H2 _ acc hD (fun b o _ q => s5 _ _ (s3 _ _ q)) r) ih
      exact lift pr
  · have e : i = xs.length := by omega
    subst e
    rw [List.take_length] at pr
    exact .inl ⟨hst H2 sm, hq H2 acc sm hD pr⟩
end
end L2


set_option linter.all false
set_option maxRecDepth 100000
namespace L2
open PySem PySem.Spec PyProof.Rows
section
variable {X : Cx} {e : Expr} {te : TE} {pos : Pos}
/-- {v!r}, v a small int -/
def cFmtI (tv : TE) : TE := fun σ H Q => tv σ H fun x H1 => match x with
  | .int i => -100 ≤ i ∧ i ≤ 100 ∧ ∀ z : Str, z.length ≤ 200000 → Q (.str z) H1
  | _ => False
theorem a_cFmtI {tv : TE} {σ : St} {H : Hp} {Q : VK} : cFmtI tv σ H Q = tv σ H fun x H1 => match x with
  | .int i => -100 ≤ i ∧ i ≤ 100 ∧ ∀ z : Str, z.length ≤ 200000 → Q (.str z) H1
  | _ => False := rfl
theorem cut_to (xs : List V) (n : Nat) (h : n ≤ xs.length) : cutV xs none (some (n : Int)) = xs.take n := by
  unfold cutV
  have e1 : HT.sIx xs.length 0 none = 0 := by simp [HT.sIx]
  have e2 : HT.sIx xs.length xs.length (some (n : Int)) = n := by
    simp only [HT.sIx]
    rw [if_neg (by omega)]
    omega
  rw [e1, e2]
  simp
theorem cut_from (xs : List V) (n : Nat) (h : n ≤ xs.length) : cutV xs (some (n : Int)) none = xs.drop n := by
  unfold cutV
  have e1 : HT.sIx xs.length 0 (some (n : Int)) = n := by
    simp only [HT.sIx]
    rw [if_neg (by omega)]
    omega
  have e2 : HT.sIx xs.length xs.length none = xs.length := by simp [HT.sIx]
  rw [e1, e2]
  rw [List.take_of_length_le (by rw [List.length_drop]; omega)]
end
end L2


set_option linter.all false
set_option maxRecDepth 100000
namespace L2
open PySem PySem.Spec PyProof.Rows
section
variable {X : Cx} {o e : Expr} {to te : TE} {apos cpos : Pos}
/-- xs.pop(i) -/
def cPopAt (to te : TE) : TE := fun σ H Q => to σ H fun x H1 => match x with
  | .ref l => (∃ xs, H1 l = some (.lst xs)) ∧ te σ H1 fun y H2 => match y with
    | .int i => ∃ (xs : List V) (k : Nat) (v : V), i = (k : Int) ∧ H2 l = some (.lst xs) ∧ xs.length ≤ 100000 ∧ xs[k]? = some v ∧ Q v (upd H2 l (.lst (xs.eraseIdx k)))
    | _ => False
  | _ => False
theorem qe_popAt (ho : PE X o to) (he : PE X e te) (hbase : attributeBase o "pop" X.env (eval o X.env) = eval o X.env := by rfl)
    (hfew : ((backTo cpos (starEach [e] X.env)).all (fun x => !x.1) && (backToKw cpos (keywordEach [] X.env)).all (fun x => x.1.isSome) && decide ([e].length + ([] : List Keyword).length + (if ([] : List Keyword).isEmpty then 0 else 1) < 30)) = true := by rfl)
    (hline : (apos.endLine == cpos.line) = true := by rfl) (hs : starEach [e] X.env = (false, eval e X.env) :: starEach [] X.env := by rfl) (hplain : (backTo cpos (starEach [] X.env)).any (·.1) = false := by rfl) :
    PE X (.Call (.Attribute o "pop" apos) [e] [] cpos) (cPopAt to te) :=
  (pe_bm PySem.F.plainAttrs_list PySem.F.slot_list_pop PySem.F.type_list_pop mt_popAt ho.mono (pa_cons he.mono pa_nil hs) hbase hfew hline hs hplain).imp fun σ H Q q => ⟨_, q, fun x H1 z => by
    split at z
    · rename_i l
      obtain ⟨⟨xs, h⟩, z⟩ := z
      refine ⟨.inl ⟨rfl, _, SqL.of h⟩, _, z, fun y H2 z2 => ?_⟩
      split at z2
      · obtain ⟨xs2, k, v, rfl, h2, h3, h4, z3⟩ := z2
        have hk : k < xs2.length := (List.getElem?_eq_some_iff.mp h4).1
        exact ⟨l, xs2, k, k, v, rfl, rfl, h2, by omega, by omega, by unfold seqIndex?; simp; omega, h4, z3⟩
      · exact z2.elim
    · exact z.elim⟩
theorem a_cPopAt {σ : St} {H : Hp} {Q : VK} : cPopAt to te σ H Q = to σ H fun x H1 => match x with
  | .ref l => (∃ xs, H1 l = some (.lst xs)) ∧ te σ H1 fun y H2 => match y with
    | .int i => ∃ (xs : List V) (k : Nat) (v : V), i = (k : Int) ∧ H2 l = some (.lst xs) ∧ xs.length ≤ 100000 ∧ xs[k]? = some v ∧ Q v (upd H2 l (.lst (xs.eraseIdx k)))
    | _ => False
  | _ => False := rfl
end
end L2


set_option linter.all false
set_option maxRecDepth 100000
namespace L2
open PySem PySem.Spec PyProof.Rows PySem.W
/-- the class x of the program, as isinstance asks for it -/
def Xt (K : PySem.W.Frag) (mg : Str → Option Value) (x : Str) : Prop := mg x = some (.ref (xA K x)) ∧ typeIn K (.ref (xA K x)) = some (.type "type") ∧ mroIn K (xA K x) (.type "BaseException") = some true
theorem Xn.t {K : PySem.W.Frag} {mg : Str → Option Value} {x : Str} (n : Xn K mg x) : Xt K mg x := ⟨n.1, n.2.ty, n.2.mb⟩
end L2


namespace L2
open PySem PySem.Spec PyProof.Rows
set_option maxRecDepth 100000
section
variable {prog : Program} {w : World} {A : Around} {s : Shared} {E : Value → Shared → Prop}
/-- lambda x: len(x[0]), called with a tuple whose first thing is a text -/
theorem lam_len {name qual x : Str} {params : Arguments} {scope : Scope} {p1 p2 p3 p4 p5 : Pos} {j : Nat} {pm ctv : Value} {f c' r : Addr} {its : Array Value} {y : Str} {t : Tok} {mg mb : Str → Option Value} {Q : Value → Shared → Prop}
    (hroom : A.depth < recursionLimit)
    (ho : s.heap.get? f = some (PySem.W.kla_obj name qual params (.Call (.Name "len" p1) [.Subscript (.Name x p2) (.Constant (.int 0) j p3) p4] [] p5) scope [] pm c' ctv))
    (hcd : s.heap.CodeRec (.ref c') qual) (hk : scope.kind = .function) (hco : scope.isCoroutine = false) (hgen : scope.isGenerator = false) (hcell : ∀ x ∈ scope.names, x.2 ≠ .cell)
    (hx : scope.names.lookup x = some .local) (hlen : scope.names.lookup ("len" : Str) = some .globalImplicit) (hxd : (x == ("__debug__" : Str)) = false)
    (hbind : bindArgs (PySem.W.kla_fn name qual params (.Call (.Name "len" p1) [.Subscript (.Name x p2) (.Constant (.int 0) j p3) p4] [] p5) scope [] pm (.ref c') ctv) ⟨[.ref r], []⟩ = pure [(x, .ref r)])
    (hr : IsTup s.heap r its) (h0 : its[0]? = some (.str y t)) (hy : y.length ≤ sizeLine)
    (hg : s.heap.Ns mainGlobals mg) (hm : mg "len" = none) (hb : s.heap.Ns builtinsNs mb) (hbb : mb "len" = some (.builtin "len")) (hlim : s.heap.NoLimit)
    (h : ∀ h' tk t', (∀ b o, s.heap.get? b = some o → h'.get? b = some o) → Q (.int y.length t') { s with heap := h', toks := tk }) :
    wpAny (model prog w) A (call (.ref f) [.ref r]) Q E s := by
  refine wpAny_call (PySem.W.kla_callFunE hroom ho rfl hco hgen rfl hcd ?_)
  rw [hbind]
  refine wpAny_pure (wpAny_newFunctionEnv hcell (fun z hz => by have := List.mem_singleton.mp hz; subst this; exact hx) (fun h₁ hns hsb => ?_) hk)
  have kp : ∀ b o, s.heap.get? b = some o → h₁.get? b = some o := fun b o e => hsb.extBut b o (Nat.ne_of_lt (Heap.lt_size e)) (Heap.get?_push_of_some _ e)
  refine ⟨hlim.keeps kp, PySem.W.kla_codeExpr ?_⟩
  refine wpAny_Call_Name_kw (Calls.Name_function_global hk hlen (Calls.loadGlobal_builtin (hg.keeps kp) hm (hb.keeps kp) hbb ?_))
  refine PyProof.Rows.callWith_builtin1 ?_ rfl rfl
  have e1 : ([(x, Value.ref r)].reverse).lookup x = some (.ref r) := by simp
  refine Calls.spliced_cons (Subscript_ (wpAny_Name (wpAny_loadName_local hk hx hns e1 (wpAny_Constant_int ?_)) hxd))
  have hr1 : IsTup h₁ r its := by obtain ⟨o, ho, r'⟩ := hr; exact ⟨o, kp _ _ ho, r'⟩
  have sz : 0 < its.size := (Array.getElem?_eq_some_iff.mp h0).1
  refine subscriptTail_builtinR (x := .str y t) hr1.typeIs slot_tuple_getitem.lookup
    (getItem_tuple (j := 0) hr1 (by decide) (by decide) ?_ h0 ⟨rfl, ?_⟩)
  · exact seqIndex_of (by decide) (by simpa using sz)
  have hl := line63
  exact Calls.spliced_nil (len_str (by omega) (h _ _ _ kp))
end

theorem ObjOk.there {P : Program} {w : World} {H : Hp} {h : Heap} {a : Addr} {o : HO} (x : ObjOk P w H h a o) : ∃ ob, h.get? a = some ob := by
  induction o with
  | lst xs => obtain ⟨_, _, _, _, e⟩ := x; exact ⟨_, e⟩
  | tup xs => obtain ⟨_, _, _, _, e, _⟩ := x; exact ⟨_, e⟩
  | dK kvs => obtain ⟨_, _, _, _, _, _, _, e, _⟩ := x; exact ⟨_, e⟩
  | dT kvs => obtain ⟨_, _, _, _, _, _, _, e, _⟩ := x; exact ⟨_, e⟩
  | set S n => obtain ⟨_, _, _, _, e, _⟩ := x; exact ⟨_, e⟩
  | ins C dx fs => obtain ⟨_, _, _, e, _⟩ := x; exact ⟨_, e⟩
  | own y => exact x
  | xd fs => obtain ⟨_, ⟨_, _, _, e, _⟩, _⟩ := x; exact ⟨_, e⟩
  | rng lo hi => obtain ⟨_, _, _, e⟩ := x; exact ⟨_, e⟩
  | frz ob u ih => obtain ⟨e, _⟩ := x; exact ⟨_, e⟩
  | tbl ps => exact ⟨_, x⟩
  | met f y => exact ⟨_, x⟩
  | ext φ => obtain ⟨_, e, _⟩ := x; exact e
/-! ### a table grows -/
section
variable {X : Cx} {pins : List (Addr × Obj)} {σ : St} {H : Hp} {s : Shared}
theorem Inv.tabled {P : Addr} {ps more : Array Value} {h' : Heap} {t' : Nat} (I : Inv X pins σ H s) (hP : H P = some (.tbl ps)) (k : ∀ b u, b ≠ P → s.heap.get? b = some u → h'.get? b = some u)
    (new : h'.get? P = some { cls := .none, data := .fields (ps ++ more) }) (ht : 0 < t') : Inv X pins σ (upd H P (.tbl (ps ++ more))) { s with heap := h', toks := t' } := by
  have ne : ∀ b, H b = none → b ≠ P := fun b n z => by rw [z, hP] at n; cases n
  have neo : ∀ b u, H b = some u → (∀ qs, u ≠ .tbl qs) → b ≠ P := fun b u e n z => by rw [z, hP] at e; cases e; exact n _ rfl
  refine I.un ⟨fun b o e n _ _ => k b o (ne b n) e, fun b o e n _ _ => ⟨o.slots, k b o (ne b n) e⟩, fun b o e n _ => by rw [upd_ne (ne b n)]; exact n, fun b o e _ => ?_,
    fun b xs e => by rw [upd_ne (neo b _ e fun _ z => by cases z)]; exact e, fun b o u e => by rw [upd_ne (neo b _ e fun _ z => by cases z)]; exact e, fun b qs e => ?_⟩ (fun b u e => ?_) ht
  · by_cases hb : b = P
    · exact ⟨_, by rw [hb]; exact new⟩
    · exact ⟨o, k b o hb e⟩
  · by_cases hb : b = P
    · subst hb
      rw [hP] at e
      cases e
      exact ⟨more, upd_same⟩
    · exact ⟨#[], by rw [upd_ne hb, e]; simp⟩
  · by_cases hb : b = P
    · subst hb
      rw [upd_same] at e
      cases e
      exact new
    · rw [upd_ne hb] at e
      refine (I.hok b u e).stay (fun c v hc q => k c v ?_ q) (fun c q => by rw [upd_ne (neo c _ q fun _ z => by cases z)]; exact q) fun c xs q => by rw [upd_ne (neo c _ q fun _ z => by cases z)]; exact q
      rcases hc with z | z
      · rw [z]; exact hb
      · exact neo c _ z fun _ z => by cases z
end
/-- a new object laid; the frame's own object may have changed, its names not -/
theorem Inv.laidFr {X : Cx} {pins : List (Addr × Obj)} {σ : St} {H : Hp} {s : Shared} {a : Addr} {o : HO} {m : Str → Option Value} {h' : Heap} {t' : Nat} (I : Inv X pins σ H s) (hm : s.heap.Ns X.env.locals m) (hm' : h'.Ns X.env.locals m)
    (k : ∀ b u, b ≠ X.env.locals → s.heap.get? b = some u → h'.get? b = some u) (hf : s.heap.get? a = none) (hn : H a = none) (new : ObjOk X.prog X.w (upd H a o) h' a o) (ht : 0 < t') : Inv X pins σ (upd H a o) { s with heap := h', toks := t' } := by
  have ne : ∀ b ob, s.heap.get? b = some ob → b ≠ a := fun b ob e z => by rw [z, hf] at e; cases e
  have neH : ∀ b u, H b = some u → b ≠ a := fun b u e z => by rw [z, hn] at e; cases e
  have neL : ∀ b u, H b = some u → b ≠ X.env.locals := fun b u e z => by rw [z, I.free] at e; cases e
  refine I.step (g' := s.gens) (d' := s.drawn) (ch := []) (fun _ z => nomatch z) (fun b ob hL _ _ e _ => k b ob hL e) (fun b ob hL _ _ e _ => ⟨ob.slots, k b ob hL e⟩) (fun b ob _ e n => by rw [upd_ne (ne b ob e)]; exact n)
    (fun b ob _ e => ?_) (fun b xs e => by rw [upd_ne (neH b _ e)]; exact e) (fun b ob u e => by rw [upd_ne (neH b _ e)]; exact e) (fun b ps e => ⟨#[], by rw [upd_ne (neH b _ e), e]; simp⟩) (fun m2 hm2 => ?_) (fun b u e => ?_) I.bare ht
  · by_cases hb : b = X.env.locals
    · obtain ⟨o', es, ep, e', _⟩ := hm'
      exact ⟨o', by rw [hb]; exact e'⟩
    · exact ⟨ob, k b ob hb e⟩
  · have : m2 = m := funext fun x => hm2.agree hm x
    rw [this]; exact hm'
  · by_cases hb : b = a
    · subst hb
      rw [upd_same] at e
      cases e
      exact new
    · rw [upd_ne hb] at e
      refine (I.hok b u e).stay (fun c v hc q => k c v ?_ q) (fun c q => by rw [upd_ne (neH c _ q)]; exact q) fun c xs q => by rw [upd_ne (neH c _ q)]; exact q
      rcases hc with z | z
      · rw [z]; exact neL b u e
      · exact neL c _ z
/-- what sorted by whole numbers, the greatest first, may give -/
def Desc {α : Type} (g : α → Nat) (xs xs' : List α) : Prop := xs'.Perm xs ∧ xs'.Pairwise fun a b => g b ≤ g a

theorem paired_perm {α β : Type} {R : α → β → Prop} {l l' : List α} (p : l'.Perm l) : ∀ {m : List β}, Paired R l m → ∃ m' : List β, m'.Perm m ∧ Paired R l' m' := by
  induction p with
  | nil => exact fun {m} h => ⟨m, .refl _, h⟩
  | cons x _ ih =>
    intro m h
    cases h with
    | cons a r =>
      obtain ⟨m', q1, q2⟩ := ih r
      exact ⟨_ :: m', q1.cons _, .cons a q2⟩
  | swap x y l =>
    intro m h
    cases h with
    | cons a r =>
      cases r with
      | cons b r => exact ⟨_, .swap _ _ _, .cons b (.cons a r)⟩
  | trans _ _ ih1 ih2 =>
    intro m h
    obtain ⟨m1, q1, q2⟩ := ih2 h
    obtain ⟨m2, q3, q4⟩ := ih1 q2
    exact ⟨m2, q3.trans q1, q4⟩
theorem paired_memr {α β : Type} {R : α → β → Prop} : ∀ {l : List α} {m : List β}, Paired R l m → ∀ b ∈ m, ∃ a ∈ l, R a b
  | _, _, .nil, b, h => absurd h List.not_mem_nil
  | _, _, .cons q r, b, h => by
    rcases List.mem_cons.mp h with e | h
    · rw [e]; exact ⟨_, List.mem_cons_self .., q⟩
    · obtain ⟨a, h1, h2⟩ := paired_memr r b h
      exact ⟨a, List.mem_cons_of_mem _ h1, h2⟩
theorem paired_pairwise {α β : Type} {R : α → β → Prop} {S : α → α → Prop} {S' : β → β → Prop} (f : ∀ a b c d, R a b → R c d → S a c → S' b d) : ∀ {l : List α} {m : List β}, Paired R l m → l.Pairwise S → m.Pairwise S'
  | _, _, .nil, _ => .nil
  | _, _, .cons a r, h => by
    obtain ⟨h1, h2⟩ := List.pairwise_cons.mp h
    refine List.pairwise_cons.mpr ⟨fun d hd => ?_, paired_pairwise f r h2⟩
    obtain ⟨c, hc, rc⟩ := paired_memr r d hd
    exact f _ _ _ _ a rc (h1 c hc)
theorem paired_zip {key : V → Nat} : ∀ {xs : List V} {vs : List Value}, Vals xs vs → Paired (fun (p : Int × Value) x => p.1 = key x ∧ RelV x p.2) ((xs.map fun x => (key x : Int)).zip vs) xs
  | _, _, .nil => .nil
  | _, _, .cons a r => .cons ⟨rfl, a⟩ (paired_zip r)
theorem paired_vals {key : V → Nat} : ∀ {ps : List (Int × Value)} {xs : List V}, Paired (fun (p : Int × Value) x => p.1 = key x ∧ RelV x p.2) ps xs → Vals xs (ps.map Prod.snd)
  | _, _, .nil => .nil
  | _, _, .cons a r => .cons a.2 (paired_vals r)
theorem ksk_desc {key : V → Nat} {xs : List V} {vs out : List Value} (r : Vals xs vs) (h : KskOut true (xs.map fun x => (key x : Int)) vs out) : ∃ xs', Desc key xs xs' ∧ Vals xs' out := by
  obtain ⟨ps, hp, rfl, hs⟩ := h
  obtain ⟨xs', q1, q2⟩ := paired_perm hp (paired_zip (key := key) r)
  exact ⟨xs', ⟨q1, paired_pairwise (fun a b c d ra rc q => by
    have q' : c.1 ≤ a.1 := by simpa using q
    rw [ra.1, rc.1] at q'
    omega) q2 hs⟩, paired_vals q2⟩

/-- the code at c (its table at P) and the module of the built-ins -/
structure LamAt (K : PySem.W.Frag) (mg : Str → Option Value) (c P : Addr) : Prop where
  code : ∃ od vs sl file tf flags tg inF text tt, K.lookup c = some ⟨.type "code", od, .fields vs, sl⟩ ∧ vs[11]? = some (.ref P) ∧ vs.getD 11 .none = .ref P ∧ vs.getD 18 .none = .str file tf ∧
    vs.getD 7 .none = .int flags tg ∧ vs.getD 9 .none = .bool inF ∧ vs.getD 10 .none = .int text tt
  ne : c ≠ P
  bm : ∃ b sl, mg "__builtins__" = some (.ref b) ∧ b ≠ builtinsNs ∧ b ≠ mainGlobals ∧ K.lookup b = some ⟨.type "module", some builtinsNs, .plain, sl⟩
theorem LamAt.hd {K : PySem.W.Frag} {mg : Str → Option Value} {c P : Addr} {h : Heap} (L : LamAt K mg c P) (X : K.In h) : PySem.W.CodeHd h c P := by
  obtain ⟨od, vs, sl, file, tf, flags, tg, inF, text, tt, e1, e2, e3, e4, e5, e6, e7⟩ := L.code
  exact ⟨_, vs, file, tf, flags, tg, inF, text, tt, X _ _ e1, rfl, rfl, e2, e3, e4, e5, e6, e7, L.ne⟩
section
variable {X : Cx}
/-- sorted(e, key=lambda x: len(x[0]), reverse=True), where no lambda of the def was made yet -/
def cSortLen (K : PySem.W.Frag) (P : Addr) (te : TE) : TE := fun σ H Q => te σ H fun v H1 => match v with
  | .ref p => ∃ (xs : List V) (key : V → Nat), SqL K H1 p xs ∧ xs.length < 64 ∧ (∀ x ∈ xs, ∃ r y rest, x = .ref r ∧ SqT K H1 r (.str y :: rest) ∧ y.length ≤ sizeLine ∧ key x = y.length) ∧ H1 P = some (.tbl #[]) ∧
      ∀ q more xs', H1 q = none → q ≠ P → Desc key xs xs' → Q (.ref q) (upd (upd H1 P (.tbl more)) q (.lst xs'))
  | _ => False
theorem qe_sortlen {K : PySem.W.Frag} {P c : Addr} {te : TE} {x y : Str} {py : Pos} {params : Arguments} {scope : Scope} {k j j2 : Nat} {p pos p1 p2 p3 p4 p5 lp kp rp p6 : Pos} (hK : X.K = K) (hr : Room k X.A) (hg : Gl X "sorted") (hm : X.mg "sorted" = none) (hml : X.mg "len" = none)
    (hcode : X.env.code = .ref c) (hL : LamAt K X.mg c P) (he : PE X (.Name y py) te)
    (hk : scope.kind = .function) (hco : scope.isCoroutine = false) (hgen : scope.isGenerator = false) (hcell : ∀ x ∈ scope.names, x.2 ≠ .cell)
    (hx : scope.names.lookup x = some .local) (hlen : scope.names.lookup ("len" : Str) = some .globalImplicit) (hxd : (x == ("__debug__" : Str)) = false)
    (hdef : defaultsOf params X.env = ([], [])) (hcl : closureFor scope X.env = pure [])
    (hbind : ∀ (qual : Str) (body : Expr) (pm cv ctv u : Value), bindArgs (PySem.W.kla_fn "<lambda>" qual params body scope [] pm cv ctv) ⟨[u], []⟩ = pure [(x, u)]) :
    PE X (.Call (.Name "sorted" p) [.Name y py] [{ arg := some "key", value := .Lambda params (.Call (.Name "len" p1) [.Subscript (.Name x p2) (.Constant (.int 0) j p3) p4] [] p5) scope lp, pos := kp },
      { arg := some "reverse", value := .Constant (.bool true) j2 p6, pos := rp }] pos) (cSortLen K P te) := by
  subst hK
  intro pins s σ H Q I h
  refine wpAny_Call_Name_kw (ld_blt I hg hm bb_sorted ?_ (by decide) (by decide))
  refine callWith_kw (e := .Name y py) (rest := []) ?_
  refine Calls.spliced_cons (thn (he pins s σ H _ I h) fun u s1 ⟨v, H1, I1, r1, q1⟩ => Calls.spliced_nil ?_)
  match v, r1, q1 with
  | .ref l, rfl, ⟨xs, key, a1, a2, a3, a4, a5⟩ =>
    have kin := I1.kIn
    have hgP : mainGlobals ≠ P := fun z => by
      obtain ⟨o, es, ep, e1, _⟩ := I1.mod.glob
      have := (I1.bs _ _ e1).2
      rw [z, a4] at this; cases this
    have hb : s1.heap.BuiltinsAt X.mg P := by
      obtain ⟨b, sl, b1, b2, b3, b4⟩ := hL.bm
      refine ⟨b, _, b1, b2, b3, fun z => ?_, kin _ _ b4, rfl, rfl, rfl⟩
      have := (I1.bs _ _ (I1.ok.mod.kin _ _ b4)).2
      rw [z, a4] at this; cases this
    have hP : s1.heap.get? P = some (PySem.W.tabObj #[]) := I1.hok P _ a4
    refine evalAll_cons (wpAny_bind (tokQ I1.tk (PySem.W.kla_eval hdef (PySem.W.kla_makeFunction hcl I1.ok.glob (I1.mod.glob.keeps I1.bk) hcode (hL.hd kin) hP trivial rfl hgP hb fun c' ctv h' tk hx1 hge hlt hrec htb (htk : 0 < tk) => wpAny_bind (wpAny_standAt (wpAny_pure ?_))))))
    refine evalAll_cons (wpAny_bind (Constant_bool (wpAny_bind (wpAny_standAt (wpAny_pure (evalAll_nil ?_))))))
    have neP : ∀ {b : Addr} {o : Obj}, s1.heap.get? b = some o → o.cls ≠ .none → b ≠ P := fun {b o} e hc z => by rw [z, hP] at e; cases e; exact hc rfl
    have hLs : X.env.locals < s1.heap.objs.size := I1.lt
    generalize hfo : PySem.W.kla_obj (Str.ofString "<lambda>") (X.env.qual ++ Str.ofString "<lambda>") params
            ((Expr.Name (Str.ofString "len") p1).Call [(Expr.Name x p2).Subscript (Expr.Constant (Const.int 0) j p3) p4] [] p5) scope [] ((X.mg (Str.ofString "__name__")).getD Value.none) c' ctv = fo
    have hsz : s1.heap.objs.size ≤ h'.objs.size := Nat.le_of_lt (Nat.lt_of_le_of_lt hge hlt)
    have kp2 : ∀ b u, b ≠ P → s1.heap.get? b = some u → (h'.push fo).get? b = some u := fun b u hb e => Heap.get?_push_of_some _ (hx1 b u hb e)
    have I2 := I1.tabled (h' := h'.push fo) (t' := tk) a4 kp2 (Heap.get?_push_of_some _ htb) htk
    obtain ⟨m, F⟩ := I2.fr
    obtain ⟨its, rv, pl, hz⟩ := I1.list a1
    have hl := rv.length
    have pl2 : (h'.push fo).IsList l its.toArray := by
      obtain ⟨o, e, hc, hd⟩ := pl.isList
      exact ⟨o, kp2 l o (neP e (by rw [hc]; nofun)) e, hc, hd⟩
    have kept2 : ∀ {h : Heap} {own : List (Addr × Obj)}, Fr X.base X.env.locals h m → News X.base X.env.locals h (allNews X.base (h'.push fo) X.env.locals ++ own) → ∀ b o, b ≠ X.env.locals → (h'.push fo).get? b = some o → h.get? b = some o := by
      intro h own F' N' b o hb e
      cases q : X.base.get? b with
      | some u =>
        have := I2.bk b u q
        rw [show ({ s1 with heap := h'.push fo, toks := tk } : Shared).heap.get? b = some o from e] at this
        cases this
        exact F'.keep b _ q
      | none => exact (N' (b, o) (List.mem_append_left _ (mem_allNews hb q e))).1
    refine tokQ (s := { s1 with heap := h'.push fo, toks := tk }) htk (ksk_sorted (s := { s1 with heap := h'.push fo, toks := tk }) (b := true) (kz := xs.map fun x => (key x : Int)) F news_all pl2 (by rw [List.length_map]; exact hl) (by omega) (ksk_s2 _ _ _) (fun _ => ksk_l2 _ _ _) (fun x => ksk_t2 _ x true) ?turn ?done)
    case turn =>
      intro i v k2 hv hk2 h tk2 own F' N'
      rw [List.getElem?_map] at hk2
      obtain ⟨z, hzi, hzk⟩ : ∃ z, xs[i]? = some z ∧ (key z : Int) = k2 := by
        cases q : xs[i]? with
        | none => rw [q] at hk2; simp at hk2
        | some z => rw [q] at hk2; exact ⟨z, rfl, by simpa using hk2⟩
      obtain ⟨v', hv', rz⟩ := rv.get hzi
      rw [hv] at hv'
      cases hv'
      obtain ⟨r, y', rest, rfl, ht, hy, hky⟩ := a3 z (List.mem_of_getElem? hzi)
      cases rz
      obtain ⟨its2, rv2, pl3, hz2⟩ := I1.tuple ht
      obtain ⟨u0, hu0, r0⟩ := rv2.get (i := 0) rfl
      obtain ⟨t0, rfl⟩ := r0
      have kp3 := kept2 F' N'
      have hrL : r ≠ X.env.locals := fun e => by
        obtain ⟨m0, ⟨o, es, ep, e1, e2, _⟩, _⟩ := I1.loc
        obtain ⟨o', e3, _, n, e4⟩ := pl3
        rw [e, e1] at e3
        cases e3
        rw [e2] at e4
        cases e4
      have pl4 : IsTup h r its2.toArray := by
        obtain ⟨o, e, hc, hd⟩ := pl3
        exact ⟨o, kp3 r o hrL (kp2 r o (neP e (by rw [hc]; nofun)) e), hc, hd⟩
      obtain ⟨c2, oc, ws, tq, e2, hoc, hrest⟩ := hrec
      cases e2
      have hcL : c' ≠ X.env.locals := Nat.ne_of_gt (Nat.lt_of_lt_of_le hLs hge)
      have hfL : h'.objs.size ≠ X.env.locals := Nat.ne_of_gt (Nat.lt_of_lt_of_le hLs hsz)
      obtain ⟨mb, hb1, hb2⟩ := I1.mod.blt
      have hrd := hr.dp
      subst hfo
      refine lam_len (s := { s1 with heap := h, toks := tk2 }) (mg := X.mg) (mb := mb) (by show X.A.depth < _; omega) (kp3 _ _ hfL (Heap.get?_push_size _ rfl)) ⟨c', oc, ws, tq, rfl, kp3 _ _ hcL (Heap.get?_push_of_some _ hoc), hrest⟩ hk hco hgen hcell hx hlen hxd (hbind _ _ _ _ _ _) pl4
        (by simpa using hu0) hy (I1.mod.glob.keeps F'.keep) hml (hb1.keeps F'.keep) (hb2 "len" (by decide)) (I1.mod.nolimit.keeps F'.keep) fun h4 tk4 t4 kp4 => ?_
      rw [← hky, hzk]
      exact KskEnd.intro (F'.kept kp4) (N'.grown kp4) fun p hp => hp
    case done =>
      intro D h3 tk3 out c3 F3 N3 l1 ko (ht3 : 0 < tk3)
      obtain ⟨xs', hd, rv'⟩ := ksk_desc rv ko
      have nD := N3 (D, seqObj "list" out c3) (.head _)
      have hDn : (h'.push fo).get? D = none := by
        cases q : (h'.push fo).get? D with
        | none => rfl
        | some o => exact absurd (l1 (D, o) (mem_allNews nD.2.1 nD.2.2 q)) (Nat.lt_irrefl _)
      have hH2 : upd H1 P (.tbl (#[] ++ #[rawInt lp.line, rawInt lp.col, Value.ref c'])) D = none := by
        cases q : upd H1 P (.tbl (#[] ++ #[rawInt lp.line, rawInt lp.col, Value.ref c'])) D with
        | none => rfl
        | some u =>
          obtain ⟨o, e⟩ := (I2.hok D u q).there
          rw [show ({ s1 with heap := h'.push fo, toks := tk } : Shared).heap.get? D = none from hDn] at e
          cases e
      have hDP : D ≠ P := fun z => by rw [z, upd_same] at hH2; cases hH2
      have hH1 : H1 D = none := by rw [upd_ne hDP] at hH2; exact hH2
      have hlx : xs'.length ≤ sizeLine := by rw [hd.1.length_eq, sizeLine_eq]; omega
      have I3 := I2.laidFr (a := D) (o := .lst xs') (m := m) (h' := h3) (t' := tk3) F.ns F3.ns (kept2 (own := []) F3 (fun p hp => N3 p (by rw [List.append_nil] at hp; exact .tail _ hp))) hDn hH2 ⟨hlx, out.toList, c3, rv', by simpa using nD.1⟩ ht3
      exact ⟨.ref D, _, I3, rfl, a5 D _ xs' hH1 hDP hd⟩
end
end L2


namespace L2
open PySem PySem.Spec PyProof.Rows
set_option maxRecDepth 100000
/-! ### the module's objects without the empty tables of codes -/
def isTab (o : Obj) : Bool := match o.cls, o.data with
  | .none, .fields vs => vs.isEmpty
  | _, _ => false
def cut (K : PySem.W.Frag) : PySem.W.Frag := K.filter fun p => !isTab p.2
theorem cut_lookup : ∀ {K : PySem.W.Frag} {a : Addr} {o : Obj}, K.lookup a = some o → isTab o = false → (cut K).lookup a = some o
  | [], _, _, e, _ => by cases e
  | (b, x) :: K, a, o, e, h => by
    unfold cut
    rw [List.lookup_cons] at e
    rw [List.filter_cons]
    cases hb : a == b with
    | true =>
      rw [hb] at e
      cases e
      rw [if_pos (by simp [h]), List.lookup_cons, hb]
    | false =>
      rw [hb] at e
      have := cut_lookup e h
      by_cases hx : (!isTab x) = true
      · rw [if_pos hx, List.lookup_cons, hb]; exact this
      · rw [if_neg hx]; exact this
theorem mem_cut {K : PySem.W.Frag} {a : Addr} {o : Obj} (e : (cut K).lookup a = some o) : (a, o) ∈ K ∧ isTab o = false := by
  have := List.mem_filter.mp (PySem.W.mem_of_lookupK e)
  exact ⟨this.1, by simpa using this.2⟩
theorem cut_ns {K : PySem.W.Frag} {n : Addr} {x : Str} {r : Option Value} (h : PySem.W.nsIn K n x = some r) : PySem.W.nsIn (cut K) n x = some r := by
  unfold PySem.W.nsIn at h ⊢
  cases q : K.lookup n with
  | none => rw [q] at h; cases h
  | some o =>
    rw [q] at h
    obtain ⟨cl, od, da, sl⟩ := o
    cases da with
    | dict es ep => rw [cut_lookup q (by unfold isTab; cases cl <;> rfl)]; exact h
    | _ => cases h
theorem cut_code {K : PySem.W.Frag} {cd : Value} {q : Str} (h : PySem.W.codeIn K cd q = true) : PySem.W.codeIn (cut K) cd q = true := by
  unfold PySem.W.codeIn at h ⊢
  cases cd with
  | ref c =>
    cases e : K.lookup c with
    | none => simp only [e] at h; cases h
    | some o =>
      obtain ⟨cl, od, da, sl⟩ := o
      cases da with
      | fields vs =>
        simp only [e] at h
        have hv : isTab ⟨cl, od, .fields vs, sl⟩ = false := by
          unfold isTab
          cases cl <;> try rfl
          show vs.isEmpty = false
          cases z : vs.isEmpty with
          | false => rfl
          | true =>
            have : vs = #[] := by simpa using z
            rw [this] at h
            simp at h
        simp only [cut_lookup e hv]; exact h
      | _ => simp only [e] at h; cases h
  | _ => cases h
theorem cut_keep {K : PySem.W.Frag} {f : Addr} {cl : Value} {od : Option Addr} {fd : FuncData} {sl : Array (Option Value)} (h : (cut K).lookup f = some ⟨cl, od, .func fd, sl⟩) : PySem.W.keepIn (cut K) (.ref f) = true := by
  unfold PySem.W.keepIn
  simp only [h]
theorem cut_tab {K : PySem.W.Frag} {x : Str} {c P : Addr} (h : PySem.W.tabIn K x = some (c, P)) : PySem.W.tabIn (cut K) x = some (c, P) := by
  unfold PySem.W.tabIn at h ⊢
  split at h
  · rename_i f hf
    simp only [cut_ns hf]
    split at h
    · rename_i hfo
      simp only [cut_lookup hfo (by unfold isTab; split <;> first | rfl | (rename_i q; cases q))]
      split at h
      · rename_i c₂ hc
        split at h
        · rename_i vs _ hco
          split at h
          · rename_i P₂ hv
            have hn : ∀ cl od sl, isTab ⟨cl, od, .fields vs, sl⟩ = false := fun cl od sl => by
              unfold isTab
              cases cl <;> try rfl
              show vs.isEmpty = false
              cases z : vs.isEmpty with
              | false => rfl
              | true =>
                have z : vs = #[] := by simpa using z
                rw [z] at hv
                cases hv
            simp only [cut_lookup hco (hn _ _ _), hv]
            exact h
          · cases h
        · cases h
      · cases h
    · cases h
  · cases h
/-- a def in whose body a lambda is made -/
structure LamFn (K : PySem.W.Frag) (mg : Str → Option Value) (x : Str) (c P : Addr) : Prop where
  tb : PySem.W.tabIn K x = some (c, P)
  cd : ∀ f fd oc od sl, mg x = some (.ref f) → K.lookup f = some ⟨oc, od, .func fd, sl⟩ → fd.code = .ref c
  lam : LamAt K mg c P
theorem lamfn_mk {K : PySem.W.Frag} {h : Heap} {mg : Str → Option Value} {x : Str} {c P b : Addr} {od : Option Addr} {vs : Array Value} {sl sl2 : Array (Option Value)} {file : Str} {tf tg tt : Tok} {flags text : Int} {inF : Bool} (X : K.In h) (G : h.Ns mainGlobals mg)
    (tb : PySem.W.tabIn K x = some (c, P)) (e1 : K.lookup c = some ⟨.type "code", od, .fields vs, sl⟩) (e2 : vs[11]? = some (.ref P)) (e4 : vs.getD 18 .none = .str file tf) (e5 : vs.getD 7 .none = .int flags tg) (e6 : vs.getD 9 .none = .bool inF) (e7 : vs.getD 10 .none = .int text tt) (ne : c ≠ P)
    (b1 : PySem.W.nsIn K mainGlobals "__builtins__" = some (some (.ref b))) (b2 : b ≠ builtinsNs) (b3 : b ≠ mainGlobals) (b4 : K.lookup b = some ⟨.type "module", some builtinsNs, .plain, sl2⟩) : LamFn K mg x c P where
  tb := tb
  cd := fun f fd oc od sl hm ho => PySem.W.law_code X G tb hm (X _ _ ho) rfl
  lam := ⟨⟨od, vs, sl, file, tf, flags, tg, inF, text, tt, e1, e2, by
      have : vs.getD 11 .none = (vs[11]?).getD .none := by simp [Array.getD_eq_getD_getElem?]
      rw [this, e2]; rfl, e4, e5, e6, e7⟩, ne, b, sl2, PySem.W.mg_of X G b1, b2, b3, b4⟩
/-- a def's promise, its code known -/
theorem Fn.calC {P : Program} {w : World} {K : PySem.W.Frag} {mg : Str → Option Value} {base : Heap} {x : Str} {st : Stmt} {N ps : List Str} {k : Nat} {sp : Sp} {c P' : Addr} (F : Fn K mg x st) (L : LamFn K mg x c P') (S : FnScope N ps (defScope st)) (len : ∀ vs H Q E, sp vs H Q E → vs.length = ps.length)
    (hb : ∀ (kV doc pm : Value) (an : Option Addr) (cdv ct : Value) (us : List Value), us.length = ps.length → bindArgs (PySem.W.fnOf x x (defArgs st) (defBody st) (defScope st) .none kV doc pm an cdv ct) ⟨us, []⟩ = pure (ps.zip us))
    (hbody : ∀ (f : Addr) (A : Around) (outer : List Env) (s : Shared) (H : Hp) (vs : List V) (Q : VK) (E : XK), Room k (A.deeper (envOfC x (defScope st) s.heap.objs.size f (.ref c))) → sp vs H Q E →
      ∃ t, PSs (cxOf CX0 P w K mg base N x (defScope st) f (.ref c) A outer s H E).nox (defBody st) t ∧ t { nx := fun _ H' => Q .non H', rt := Q } (start N vs) H) : Callee P w K mg base (k + 1) x ps sp := by
  obtain ⟨f, fd, F, m⟩ := F
  obtain ⟨oc, od, kV, doc, pm, an, cdv, ct, osl, rfl, lk, hcd⟩ := id F.ex
  have hc : cdv = .ref c := L.cd f _ _ _ _ m lk
  subst hc
  refine ⟨f, _, fn_of lk hcd S len fun A outer s H vs Q E hr hsp => ?_, F.binds hb, F.kp, m⟩
  obtain ⟨t, h, q⟩ := hbody f A outer s H vs Q E hr hsp
  exact ⟨t, h.nox, q⟩

theorem law_callT {P : Program} {w : World} {K : PySem.W.Frag} {mg mb : Str → Option Value} {CX : CXT} {k : Nat} {fa a c T : Addr} {fd : FuncData} {x : Str} {sp : Sp} {s₁ : Shared} {vs : List Value} {ns : List Int}
    (KX : K.In s₁.heap) (hns : s₁.heap.Ns mainGlobals mg) (hb : s₁.heap.Ns builtinsNs mb) (hbb : ∀ x : Str, x ≠ "__name__" → mb x = bootBuiltins x) (hlim : s₁.heap.NoLimit) (hg : s₁.gens = #[]) (htk : 0 < s₁.toks)
    (ha : s₁.heap.get? a = some { cls := .type "list", data := .seq vs.toArray }) (hi : IntsAre vs ns) (hl : ns.length ≤ sizeLine) (hr : Room k callerA)
    (hT : s₁.heap.get? T = some (PySem.W.tabObj #[])) (hC : PySem.W.CodeHd s₁.heap c T) (hKT : K.lookup T = none)
    (F : ∀ base : Heap, K.In base → base.Ns mainGlobals mg → FnOk P w K mg base CX k fa fd [x] sp) (hbind : ∀ (s : Shared) (u : Value), BindsTo s fd ⟨[u], []⟩ [(x, u)])
    (hsp : ∀ H : Hp, H T = some (.tbl #[]) → SqL K H a (ns.map V.int) → sp [.ref a] H (fun v _ => v = .bl true) fun _ _ _ => False)
    (hCX : ∀ H e s', CX [] H s₁ (fun _ _ _ => False) e s' → False) :
    codeAny (model P w) callerA (.call (.ref fa) ⟨[.ref a], []⟩) (fun r s' => r = .ok (.ret (.bool true)) ∧ OldK s₁.heap s'.heap ∧ s'.os = s₁.os ∧ AllBare s'.gens) s₁ := by
  have rv := vals_ints hi
  have lenV := hi.length
  have haT : a ≠ T := fun z => by rw [z, hT] at ha; cases ha
  have core : ∀ H : Hp, (∀ b, H b = none ∨ b = T ∨ (b = a ∧ ∃ o xs, H b = some (.frz o (.lst xs)))) → H T = some (.tbl #[]) → SqL K H a (ns.map V.int) → HOk P w H s₁.heap → (H a ≠ none → K.lookup a = none) →
      codeAny (model P w) callerA (.call (.ref fa) ⟨[.ref a], []⟩) (fun r s' => r = .ok (.ret (.bool true)) ∧ OldK s₁.heap s'.heap ∧ s'.os = s₁.os ∧ AllBare s'.gens) s₁ := by
    intro H hO hHT hS hok hK
    have base_of : ∀ {b : Addr} {o : Obj}, s₁.heap.get? b = some o → H b = none → (hidT s₁.heap H).get? b = some o := fun e n => hidT_get e n
    have noA : ∀ {b : Addr} {o : Obj} {es : Array DictEntry} {ep : Nat}, s₁.heap.get? b = some o → o.data = .dict es ep → H b = none := fun {b o es ep} e d => by
      rcases hO b with z | z | ⟨z, _⟩
      · exact z
      · rw [z, hT] at e; cases e; cases d
      · rw [z, ha] at e; cases e; cases d
    have nsK : ∀ {b : Addr} {m : Str → Option Value}, s₁.heap.Ns b m → (hidT s₁.heap H).Ns b m := fun {b m} ⟨o, es, ep, e, d, r⟩ => ⟨o, es, ep, base_of e (noA e d), d, r⟩
    have hKb : K.In (hidT s₁.heap H) := fun b o e => base_of (KX b o e) (by
      rcases hO b with z | z | ⟨z, o', xs, q⟩
      · exact z
      · rw [z, hKT] at e; cases e
      · rw [z] at e q
        rw [hK (by rw [q]; simp)] at e; cases e)
    have hM : Mod K mg (hidT s₁.heap H) := ⟨hKb, nsK hns, ⟨mb, nsK hb, hbb⟩, let ⟨mc, h1, h2⟩ := hlim; ⟨mc, nsK h1, h2⟩⟩
    have e0 : Env0 P w K mg (hidT s₁.heap H) callerA [] s₁ H := ⟨rfl, hM, fun b o e => of_hidT e, Nat.le_of_eq (hidT_size _ _), trivial, fun b hb => absurd (show b ∈ ([] : List Addr) from hb) (by simp), hok, .of_eq hg, htk⟩
    refine codeAny_mono ((F _ hKb (nsK hns)).run callerA [] s₁ H ⟨[.ref a], []⟩ [.ref a] [.ref a] _ _ hr e0 (hbind s₁ (.ref a)) (.cons rfl .nil) (hsp H hHT hS)) fun r s' h => ?_
    cases r with
    | error e => exact (hCX H e s' h).elim
    | ok fl =>
      cases fl with
      | next => exact False.elim h
      | brk => exact False.elim h
      | cont => exact False.elim h
      | ret u =>
        obtain ⟨v, H', _, os, bare, un, hok', r', q⟩ := h
        have q' : v = .bl true := q
        subst q'
        obtain rfl : u = Value.bool true := r'
        have kept : ∀ b o, b ≠ T → s₁.heap.get? b = some o → s'.heap.get? b = some o := fun b o hbT e => by
          rcases hO b with z | z | ⟨z, ob, xs, z1⟩
          · exact un.keep b o e z (by intro z; exact absurd (show b ∈ ([] : List Addr) from z) (by simp)) (by simp)
          · exact absurd z hbT
          · have z2 := un.frzs b ob _ z1
            obtain ⟨e1, _⟩ := hok b _ z1
            obtain ⟨e2, _⟩ := hok' b _ z2
            rw [e] at e1; cases e1
            exact e2
        obtain ⟨more, hm⟩ := un.tbls T #[] hHT
        have hT' : s'.heap.get? T = some (PySem.W.tabObj (#[] ++ more)) := hok' T _ hm
        refine ⟨rfl, ⟨fun b o e => ?_, fun b o e => ?_⟩, os, bare⟩
        · by_cases hbT : b = T
          · subst hbT
            rw [hT] at e
            cases e
            exact .inr (.inl ⟨(hC.tab hT).isCodeTable, rfl, #[], more, rfl, hT'⟩)
          · exact .inl (kept b o hbT e)
        · by_cases hbT : b = T
          · exact ⟨_, by rw [hbT]; exact hT'⟩
          · exact ⟨o, kept b o hbT e⟩
  have okT : ObjOk P w (fun _ => none) s₁.heap T (.tbl #[]) := hT
  cases hk : K.lookup a with
  | some o =>
    have e := KX a o hk
    rw [ha] at e
    cases e
    refine core (fun b => if b = T then some (.tbl #[]) else none) (fun b => ?_) (if_pos rfl) (.inr ⟨_, vs.toArray, _, hk, rfl, rfl, rfl, by rw [List.size_toArray, lenV]; exact hl, by simpa using rv⟩) (fun b u z => ?_) fun z => absurd (if_neg haT) z
    · by_cases hb : b = T
      · exact .inr (.inl hb)
      · exact .inl (if_neg hb)
    · by_cases hb : b = T
      · have z' := (if_pos hb).symm.trans z
        cases z'
        subst hb
        exact hT
      · have z' := (if_neg hb).symm.trans z
        cases z'
  | none =>
    refine core (fun b => if b = T then some (.tbl #[]) else if b = a then some (.frz { cls := .type "list", data := .seq vs.toArray } (.lst (ns.map V.int))) else none) (fun b => ?_) (if_pos rfl) (.inl (.inr ⟨{ cls := .type "list", data := .seq vs.toArray }, ?_⟩)) (fun b u z => ?_) fun _ => hk
    · by_cases hb : b = T
      · exact .inr (.inl hb)
      · by_cases hba : b = a
        · exact .inr (.inr ⟨hba, _, _, by rw [if_neg hb, if_pos hba]⟩)
        · exact .inl (by rw [if_neg hb, if_neg hba])
    · show (if a = T then _ else _) = _
      rw [if_neg haT, if_pos rfl]
    · by_cases hb : b = T
      · have z' := (if_pos hb).symm.trans z
        cases z'
        subst hb
        exact hT
      · have z := (if_neg hb).symm.trans z
        by_cases hba : b = a
        · have z' := (if_pos hba).symm.trans z
          cases z'
          subst hba
          exact ⟨ha, by rw [List.length_map]; exact hl, vs, _, rv, ha⟩
        · have z' := (if_neg hba).symm.trans z
          cases z'
theorem walk_ofXT {l : PySem.W.OpenLaw} {n k : Nat} {q : Program} {loose : List Str} {XP : (Str → Option Value) → Heap → Prop} {α : Type} {Yf : Shared → α} {Ya : World → α} {d : DefRec} {K : Params → PySem.W.Frag} {c T : Addr} {CX : World → CXT} {sp : World → Sp} {x : Str}
    (hn : l.most = some n) (hn2 : n ≤ sizeLine) (hdf : d.params.defaults = []) (hr : Room k callerA)
    (hY : ∀ (w : World) (s : Shared), Yf s = Ya w → (K w.params).In s.heap ∧ 0 < s.toks ∧ s.heap.get? T = some (PySem.W.tabObj #[]) ∧ PySem.W.CodeHd s.heap c T ∧ (K w.params).lookup T = none)
    (F : ∀ (w : World) (mg : Str → Option Value) (fa : Addr) (h : Heap), (K w.params).In h → h.Ns mainGlobals mg → mg d.name = some (.ref fa) →
      ∃ fd : FuncData, (∀ (s : Shared) (u : Value), BindsTo s fd ⟨[u], []⟩ [(x, u)]) ∧
        ∀ base : Heap, (K w.params).In base → base.Ns mainGlobals mg → FnOk l.prog w (K w.params) mg base (CX w) k fa fd [x] (sp w))
    (hsp : ∀ (w : World) (H : Hp) (a : Addr) (ns : List Int), ns.length ≤ n → H T = some (.tbl #[]) → SqL (K w.params) H a (ns.map V.int) → sp w [.ref a] H (fun v _ => v = .bl true) fun _ _ _ => False)
    (hCX : ∀ (w : World) (H : Hp) (s : Shared) (e : Value) (s' : Shared), CX w [] H s (fun _ _ _ => False) e s' → False) :
    PySem.W.WalkX q loose XP Yf Ya l.row.toRowW d [] (fun f vs => PySem.call f vs) := by
  refine attach_callX hn hdf fun w s₀ s₁ mg mb fa a vs ns G Y kp ht hmg hobj hints hlen hg => ?_
  obtain ⟨K0, t0, eT, eC, eK⟩ := hY w s₀ Y
  have KX : (K w.params).In s₁.heap := fun b o e => kp b o (K0 b o e)
  obtain ⟨fd, hb, hF⟩ := F w mg fa _ KX G.T.g hmg
  exact law_callT KX G.T.g G.T.b G.T.builtins G.T.nolimit hg (Nat.lt_of_lt_of_le t0 ht) hobj hints (Nat.le_trans hlen hn2) hr (kp _ _ eT) (eC.keeps kp) eK hF hb (fun H hO hS => hsp w H a ns hlen hO hS) fun H e s' => hCX w H s₁ e s'
theorem allIn_mem {h : Heap} : ∀ {K : PySem.W.Frag}, PySem.W.X.AllIn h K → ∀ p ∈ K, h.get? p.1 = some p.2
  | [], _, p, hp => absurd hp List.not_mem_nil
  | q :: K, al, p, hp => by
    rcases List.mem_cons.mp hp with e | hp
    · rw [e]; exact al.1
    · exact allIn_mem al.2 p hp
theorem z_tab {K : Params → PySem.W.Frag} {as : List Addr} {n t : Nat} {w : World} {s : Shared} {c T : Addr} {od : Option Addr} {vs : Array Value} {sl : Array (Option Value)} {file : Str} {tf tg tt : Tok} {flags text : Int} {inF : Bool} (y : PySem.W.X.obsZ as s = PySem.W.X.valZ K n t w) (e : ∀ P, as = (K P).map (·.1)) (ht : 0 < t)
    (e1 : (K w.params).lookup c = some ⟨.type "code", od, .fields vs, sl⟩) (e2 : vs[11]? = some (.ref T)) (e4 : vs.getD 18 .none = .str file tf) (e5 : vs.getD 7 .none = .int flags tg) (e6 : vs.getD 9 .none = .bool inF) (e7 : vs.getD 10 .none = .int text tt) (ne : c ≠ T)
    (eT : (K w.params).lookup T = some (PySem.W.tabObj #[])) :
    (cut (K w.params)).In s.heap ∧ 0 < s.toks ∧ s.heap.get? T = some (PySem.W.tabObj #[]) ∧ PySem.W.CodeHd s.heap c T ∧ (cut (K w.params)).lookup T = none := by
  obtain ⟨al, h, _, q⟩ := PySem.W.X.z_facts e y
  have mem : ∀ p ∈ K w.params, s.heap.get? p.1 = some p.2 := allIn_mem al
  refine ⟨fun a o z => mem _ (mem_cut z).1, by rw [q]; exact ht, h _ _ eT, ⟨_, vs, file, tf, flags, tg, inF, text, tt, h _ _ e1, rfl, rfl, e2, by
      have : vs.getD 11 .none = (vs[11]?).getD .none := by simp [Array.getD_eq_getD_getElem?]
      rw [this, e2]; rfl, e4, e5, e6, e7, ne⟩, ?_⟩
  cases z : (cut (K w.params)).lookup T with
  | none => rfl
  | some o =>
    have z1 := mem_cut z
    have z2 := mem _ z1.1
    rw [h _ _ eT] at z2
    cases z2
    exact absurd z1.2 (by decide)
end L2


namespace L2
open PySem PySem.Spec PyProof.Rows
set_option maxRecDepth 100000
section
variable {X : Cx}
/-- all kept; the frame's own object may have changed, its names not -/
theorem Inv.keptFr {pins : List (Addr × Obj)} {σ : St} {H : Hp} {s : Shared} {m : Str → Option Value} {h' : Heap} {t' : Nat} (I : Inv X pins σ H s) (hm : s.heap.Ns X.env.locals m) (hm' : h'.Ns X.env.locals m)
    (k : ∀ b u, b ≠ X.env.locals → s.heap.get? b = some u → h'.get? b = some u) (ht : 0 < t') : Inv X pins σ H { s with heap := h', toks := t' } := by
  have neL : ∀ b u, H b = some u → b ≠ X.env.locals := fun b u e z => by rw [z, I.free] at e; cases e
  refine I.step (g' := s.gens) (d' := s.drawn) (ch := []) (fun _ z => nomatch z) (fun b ob hL _ _ e _ => k b ob hL e) (fun b ob hL _ _ e _ => ⟨ob.slots, k b ob hL e⟩) (fun b ob _ e n => n)
    (fun b ob _ e => ?_) (fun b xs e => e) (fun b ob u e => e) (fun b ps e => ⟨#[], by rw [e]; simp⟩) (fun m2 hm2 => ?_) (fun b u e => ?_) I.bare ht
  · by_cases hb : b = X.env.locals
    · obtain ⟨o', es, ep, e', _⟩ := hm'
      exact ⟨o', by rw [hb]; exact e'⟩
    · exact ⟨ob, k b ob hb e⟩
  · have : m2 = m := funext fun x => hm2.agree hm x
    rw [this]; exact hm'
  · refine (I.hok b u e).stay (fun c v hc q => k c v ?_ q) (fun c q => q) fun c xs q => q
    rcases hc with z | z
    · rw [z]; exact neL b u e
    · exact neL c _ z
/-- max(e), e a list of whole numbers -/
def kMax (K : PySem.W.Frag) : List V → Hp → VK → Prop := fun xs H Q => match xs with
  | [.ref p] => ∃ ns : List Int, SqL K H p (ns.map V.int) ∧ 0 < ns.length ∧ ∀ M, M ∈ ns → (∀ a ∈ ns, a ≤ M) → Q (.int M) H
  | _ => False
theorem call_maxK (K : PySem.W.Frag) (hK : X.K = K) (hc : X.calm = true) : CallR X (.builtin "max") (kMax K) := by
  subst hK
  intro pins s σ H xs us Q I r q
  unfold kMax at q
  split at q
  · obtain ⟨ns, hq, hn, q⟩ := q
    obtain ⟨u, rfl, ru⟩ := vals1 r
    cases ru
    obtain ⟨its, rv, pl, _⟩ := I.list hq
    obtain ⟨m, F⟩ := I.fr
    refine tokQ I.tk (PySem.W.kso_max F news_all pl.isList (intsAre_of rv) hn (I.ok.hd hc) fun h' M t tk F' N' hM hle (htk : 0 < tk) => ?_)
    refine ⟨.int M, H, I.keptFr F.ns F'.ns (fun b o hb e => ?_) htk, ⟨_, rfl⟩, q M hM hle⟩
    cases z : X.base.get? b with
    | some u =>
      have := I.bk b u z
      rw [e] at this
      cases this
      exact F'.keep b _ z
    | none => exact (N' (b, o) (mem_allNews hb z e)).1
  · exact q.elim
theorem a_kMax {K : PySem.W.Frag} {p : Addr} {H : Hp} {Q : VK} : kMax K [.ref p] H Q = ∃ ns : List Int, SqL K H p (ns.map V.int) ∧ 0 < ns.length ∧ ∀ M, M ∈ ns → (∀ a ∈ ns, a ≤ M) → Q (.int M) H := rfl
theorem a_cSortLen {K : PySem.W.Frag} {P : Addr} {te : TE} {σ : St} {H : Hp} {Q : VK} : cSortLen K P te σ H Q = te σ H fun v H1 => match v with
  | .ref p => ∃ (xs : List V) (key : V → Nat), SqL K H1 p xs ∧ xs.length < 64 ∧ (∀ x ∈ xs, ∃ r y rest, x = .ref r ∧ SqT K H1 r (.str y :: rest) ∧ y.length ≤ sizeLine ∧ key x = y.length) ∧ H1 P = some (.tbl #[]) ∧
      ∀ q more xs', H1 q = none → q ≠ P → Desc key xs xs' → Q (.ref q) (upd (upd H1 P (.tbl more)) q (.lst xs'))
  | _ => False := rfl
end
end L2
namespace L2
open PySem PySem.Spec PyProof.Rows
/-- what of the module's objects a lambda's making reads -/
structure LamOk (K : PySem.W.Frag) (x : Str) (c T : Addr) : Prop where
  tb : PySem.W.tabIn K x = some (c, T)
  code : ∃ od vs sl file tf flags tg inF text tt, K.lookup c = some ⟨.type "code", od, .fields vs, sl⟩ ∧ vs[11]? = some (.ref T) ∧ vs.getD 18 .none = .str file tf ∧ vs.getD 7 .none = .int flags tg ∧ vs.getD 9 .none = .bool inF ∧ vs.getD 10 .none = .int text tt
  ne : c ≠ T
  bm : ∃ b sl, PySem.W.nsIn K mainGlobals "__builtins__" = some (some (.ref b)) ∧ b ≠ builtinsNs ∧ b ≠ mainGlobals ∧ K.lookup b = some ⟨.type "module", some builtinsNs, .plain, sl⟩
  tab : K.lookup T = some (PySem.W.tabObj #[])
theorem lamok_mk {K : PySem.W.Frag} {x : Str} {c T b f : Addr} {od od1 : Option Addr} {oc : Value} {fd : FuncData} {vs : Array Value} {sl sl1 sl2 : Array (Option Value)} {file : Str} {tf tg tt : Tok} {flags text : Int} {inF : Bool}
    (a : PySem.W.nsIn K mainGlobals x = some (some (.ref f))) (l : K.lookup f = some ⟨oc, od1, .func fd, sl1⟩) (hc : fd.code = .ref c) (e1 : K.lookup c = some ⟨.type "code", od, .fields vs, sl⟩) (e2 : vs[11]? = some (.ref T)) (e4 : vs.getD 18 .none = .str file tf) (e5 : vs.getD 7 .none = .int flags tg) (e6 : vs.getD 9 .none = .bool inF) (e7 : vs.getD 10 .none = .int text tt) (ne : c ≠ T)
    (b1 : PySem.W.nsIn K mainGlobals "__builtins__" = some (some (.ref b))) (b2 : b ≠ builtinsNs) (b3 : b ≠ mainGlobals) (b4 : K.lookup b = some ⟨.type "module", some builtinsNs, .plain, sl2⟩) (eT : K.lookup T = some (PySem.W.tabObj #[])) : LamOk K x c T :=
  ⟨by unfold PySem.W.tabIn; simp only [a, l, hc, e1, e2], ⟨od, vs, sl, file, tf, flags, tg, inF, text, tt, e1, e2, e4, e5, e6, e7⟩, ne, ⟨b, sl2, b1, b2, b3, b4⟩, eT⟩
theorem LamOk.zz {K : Params → PySem.W.Frag} {x : Str} {as : List Addr} {n t : Nat} {w : World} {s : Shared} {c T : Addr} (L : LamOk (K w.params) x c T) (y : PySem.W.X.obsZ as s = PySem.W.X.valZ K n t w) (e : ∀ P, as = (K P).map (·.1)) (ht : 0 < t) :
    (cut (K w.params)).In s.heap ∧ 0 < s.toks ∧ s.heap.get? T = some (PySem.W.tabObj #[]) ∧ PySem.W.CodeHd s.heap c T ∧ (cut (K w.params)).lookup T = none := by
  obtain ⟨od, vs, sl, file, tf, flags, tg, inF, text, tt, e1, e2, e4, e5, e6, e7⟩ := L.code
  exact z_tab y e ht e1 e2 e4 e5 e6 e7 L.ne L.tab
theorem not_tab {o : Obj} (h : o.cls ≠ .none) : isTab o = false := by
  unfold isTab
  split
  · rename_i a b; exact absurd a h
  · rfl
/-- the same, of the objects that are left -/
theorem LamOk.fn {K : PySem.W.Frag} {x : Str} {c T : Addr} {h : Heap} {mg : Str → Option Value} (L : LamOk K x c T) (X : (cut K).In h) (G : h.Ns mainGlobals mg) : LamFn (cut K) mg x c T := by
  obtain ⟨od, vs, sl, file, tf, flags, tg, inF, text, tt, e1, e2, e4, e5, e6, e7⟩ := L.code
  obtain ⟨b, sl2, b1, b2, b3, b4⟩ := L.bm
  exact lamfn_mk X G (cut_tab L.tb) (cut_lookup e1 (not_tab (by nofun))) e2 e4 e5 e6 e7 L.ne (cut_ns b1) b2 b3 (cut_lookup b4 (not_tab (by nofun)))
theorem cut_keepF {K : PySem.W.Frag} {f : Addr} (h : PySem.W.fnIn K f = true) : PySem.W.keepIn (cut K) (.ref f) = true := by
  unfold PySem.W.fnIn at h
  split at h
  · rename_i fd _ e
    exact cut_keep (cut_lookup e (by unfold isTab; split <;> first | rfl | (rename_i q; cases q)))
  · cases h
end L2


namespace L2
open PySem PySem.Spec PyProof.Rows
set_option maxRecDepth 100000
/-! ### a tuple of flat things in a list of such tuples -/
def tupEq (H : Hp) (zs : List V) (y : V) : Bool := match y with
  | .ref t => match H t with
    | some (.tup ys) => eqDs (ys.map D.f) (zs.map D.f)
    | _ => false
  | _ => false
def tupEqU (H : Hp) (zs : List V) (u : Value) : Bool := match u with
  | .ref t => tupEq H zs (.ref t)
  | _ => false
def FlatT (H : Hp) (y : V) : Prop := ∃ t ys, y = .ref t ∧ H t = some (.tup ys) ∧ ys.all flatV = true
theorem deep_flats {K : PySem.W.Frag} {H : Hp} : ∀ {ys : List V}, ys.all flatV = true → Paired (Deep K H 0) ys (ys.map D.f)
  | [], _ => .nil
  | y :: ys, h => by
    rw [List.all_cons, Bool.and_eq_true] at h
    exact .cons ⟨rfl, h.1⟩ (deep_flats h.2)
theorem any_tupEqU {H : Hp} {zs : List V} : ∀ {xs : List V} {us : List Value}, Vals xs us → (∀ y ∈ xs, FlatT H y) → us.any (tupEqU H zs) = xs.any (tupEq H zs)
  | _, _, .nil, _ => rfl
  | y :: xs, u :: us, .cons r t, f => by
    obtain ⟨a, ys, rfl, _⟩ := f _ List.mem_cons_self
    cases r
    rw [List.any_cons, List.any_cons, any_tupEqU t fun z hz => f z (List.mem_cons_of_mem _ hz)]
    rfl
section
variable {X : Cx}
def kInT (K : PySem.W.Frag) : R2 := fun x y H Q => match x, y with
  | .ref r, .ref p => ∃ zs xs, SqL K H p xs ∧ H r = some (.tup zs) ∧ zs.all flatV = true ∧ (∀ y ∈ xs, FlatT H y) ∧ Q (.bl (xs.any (tupEq H zs))) H
  | _, _ => False
theorem op_inT (K : PySem.W.Frag) (hK : X.K = K) {k : Nat} (hr : Room k X.A) : OpR X (compareOp .In) (kInT K) := by
  subst hK
  intro pins s σ H x y v u Q I rx ry q
  unfold kInT at q
  split at q
  · rename_i r p
    obtain ⟨zs, xs, hq, hz, fz, fs, q⟩ := q
    cases rx
    cases ry
    obtain ⟨its, rv, pl, _⟩ := I.list hq
    refine SeqAt.in_listAt (tupEqU H zs) pl.isList (fun w hw => ?_) ⟨.bl _, H, I, rfl, ?_⟩
    · have hw : w ∈ its := by simpa using hw
      obtain ⟨y, hy, ry⟩ := paired_memr rv w hw
      obtain ⟨t, ys, rfl, ht, fy⟩ := fs y hy
      cases ry
      have := deep_eqAt I 1 X.A.in1 (.ref t) (.ref r) (.t (ys.map D.f)) (.t (zs.map D.f)) (.ref t) (.ref r) (by have := hr.un; show X.A.units + 1 + 1 < _; omega) (.inr (.inr ⟨t, ys, _, rfl, rfl, SqT.of ht, deep_flats fy⟩)) (.inr (.inr ⟨r, zs, _, rfl, rfl, SqT.of hz, deep_flats fz⟩)) rfl rfl
      have e : tupEqU H zs (.ref t) = eqD (.t (ys.map D.f)) (.t (zs.map D.f)) := by
        show tupEq H zs (.ref t) = _
        unfold tupEq
        simp only [ht]
        rw [eqD]
      rw [e]
      exact this
    · rw [show its.toArray.any (tupEqU H zs) = its.any (tupEqU H zs) by simp, any_tupEqU rv fs]
      exact q
  · exact q.elim
theorem a_kInT {K : PySem.W.Frag} {r p : Addr} {H : Hp} {Q : VK} : kInT K (.ref r) (.ref p) H Q = ∃ zs xs, SqL K H p xs ∧ H r = some (.tup zs) ∧ zs.all flatV = true ∧ (∀ y ∈ xs, FlatT H y) ∧ Q (.bl (xs.any (tupEq H zs))) H := rfl
end
end L2


namespace L2
open PySem PySem.Spec PyProof.Rows
set_option maxRecDepth 100000
/-! ### own classes -/
structure ClsT (K : PySem.W.Frag) (mg : Str → Option Value) (x : Str) : Prop where
  m : mg x = some (.ref (xA K x))
  c : Cls K (xA K x)
def MethT (K : PySem.W.Frag) (x m qual : Str) (st : Stmt) : Prop := ∃ f fd, Meth K (xA K x) m f ∧ Fun K m qual st f fd
def MkT (K : PySem.W.Frag) (x qual : Str) (st : Stmt) : Prop := ∃ f fd, Mk K (xA K x) f ∧ Fun K "__init__" qual st f fd
def MCal (P : Program) (w : World) (K : PySem.W.Frag) (mg : Str → Option Value) (base : Heap) (k : Nat) (x m : Str) (ps : List Str) (sp : Sp) : Prop :=
  ∃ f fd, FnOk P w K mg base CX0 k f fd ps sp ∧ Binds K fd ps [] ∧ Meth K (xA K x) m f
def KCal (P : Program) (w : World) (K : PySem.W.Frag) (mg : Str → Option Value) (base : Heap) (k : Nat) (x : Str) (ps : List Str) (sp : Sp) : Prop :=
  ∃ f fd, FnOk P w K mg base CX0 k f fd ps sp ∧ Binds K fd ps [] ∧ Mk K (xA K x) f
theorem MethT.cal {P : Program} {w : World} {K : PySem.W.Frag} {mg : Str → Option Value} {base : Heap} {x m qual : Str} {st : Stmt} {N ps : List Str} {k : Nat} {sp : Sp} (F : MethT K x m qual st) (S : FnScope N ps (defScope st)) (len : ∀ vs H Q E, sp vs H Q E → vs.length = ps.length)
    (hb : ∀ (kV doc pm : Value) (an : Option Addr) (cdv ct : Value) (us : List Value), us.length = ps.length → bindArgs (PySem.W.fnOf m qual (defArgs st) (defBody st) (defScope st) .none kV doc pm an cdv ct) ⟨us, []⟩ = pure (ps.zip us))
    (hbody : ∀ (f : Addr) (cdv : Value) (A : Around) (outer : List Env) (s : Shared) (H : Hp) (vs : List V) (Q : VK) (E : XK), Room k (A.deeper (envOfC qual (defScope st) s.heap.objs.size f cdv)) → sp vs H Q E →
      ∃ t, PSs (cxOf CX0 P w K mg base N qual (defScope st) f cdv A outer s H E).nox (defBody st) t ∧ t { nx := fun _ H' => Q .non H', rt := Q } (start N vs) H) : MCal P w K mg base (k + 1) x m ps sp := by
  obtain ⟨f, fd, M, F⟩ := F
  exact ⟨f, fd, F.ok S len (hbody f), F.binds hb, M⟩
theorem MkT.cal {P : Program} {w : World} {K : PySem.W.Frag} {mg : Str → Option Value} {base : Heap} {x qual : Str} {st : Stmt} {N ps : List Str} {k : Nat} {sp : Sp} (F : MkT K x qual st) (S : FnScope N ps (defScope st)) (len : ∀ vs H Q E, sp vs H Q E → vs.length = ps.length)
    (hb : ∀ (kV doc pm : Value) (an : Option Addr) (cdv ct : Value) (us : List Value), us.length = ps.length → bindArgs (PySem.W.fnOf "__init__" qual (defArgs st) (defBody st) (defScope st) .none kV doc pm an cdv ct) ⟨us, []⟩ = pure (ps.zip us))
    (hbody : ∀ (f : Addr) (cdv : Value) (A : Around) (outer : List Env) (s : Shared) (H : Hp) (vs : List V) (Q : VK) (E : XK), Room k (A.deeper (envOfC qual (defScope st) s.heap.objs.size f cdv)) → sp vs H Q E →
      ∃ t, PSs (cxOf CX0 P w K mg base N qual (defScope st) f cdv A outer s H E).nox (defBody st) t ∧ t { nx := fun _ H' => Q .non H', rt := Q } (start N vs) H) : KCal P w K mg base (k + 1) x ps sp := by
  obtain ⟨f, fd, M, F⟩ := F
  exact ⟨f, fd, F.ok S len (hbody f), F.binds hb, M⟩
section
variable {X : Cx} {k : Nat} {x m : Str} {ps : List Str} {sp : Sp} {p pos apos : Pos} {e o : Expr} {es : List Expr} {ta : TE} {t : TA}
theorem a_tMeth {C : Addr} {E : XK} {dvs : List V} {σ : St} {H : Hp} {Q : VK} : tMeth C m sp dvs E ta t σ H Q = ta σ H fun x H1 => ∃ a dx fs, x = .ref a ∧ H1 a = some (.ins C dx fs) ∧ fs.lookup m = none ∧ t σ H1 fun vs H2 => sp (x :: (vs ++ dvs)) H2 Q E := rfl
theorem a_tMake {C : Addr} {E : XK} {dvs : List V} {σ : St} {H : Hp} {Q : VK} : tMake C sp dvs E t σ H Q = t σ H fun vs H1 => ∀ x dx, H1 x = none → H1 dx = none → dx ≠ x → sp (.ref x :: (vs ++ dvs)) (upd (upd H1 dx (.own x)) x (.ins C dx [])) (fun v H2 => v = .non ∧ Q (.ref x) H2) E := rfl
theorem a_tFld {K : PySem.W.Frag} {f : Str} {σ : St} {H : Hp} {Q : VK} : tFld K ta f σ H Q = ta σ H fun x H1 => ∃ a C dx fs v, x = .ref a ∧ H1 a = some (.ins C dx fs) ∧ Cls K C ∧ NoAttr K C f ∧ fs.lookup f = some v ∧ Q v H1 := rfl
theorem a_sFld {K : PySem.W.Frag} {tv : TE} {f : Str} {D : Ends} {σ : St} {H : Hp} : sFld K ta tv f D σ H = tv σ H fun y H1 => ta σ H1 fun x H2 => ∃ a C dx fs, x = .ref a ∧ H2 a = some (.ins C dx fs) ∧ Cls K C ∧ NoAttr K C f ∧ fs.length < 1000 ∧ D.nx σ (upd H2 a (.ins C dx (putF f y fs))) := rfl
/-- tuple(e), e a list -/
def kTupL (K : PySem.W.Frag) : List V → Hp → VK → Prop := fun xs H Q => match xs with
  | [.ref p] => ∃ ys, SqL K H p ys ∧ ∀ l, H l = none → Q (.ref l) (upd H l (.tup ys))
  | _ => False
theorem a_kTupL {K : PySem.W.Frag} {p : Addr} {H : Hp} {Q : VK} : kTupL K [.ref p] H Q = ∃ ys, SqL K H p ys ∧ ∀ l, H l = none → Q (.ref l) (upd H l (.tup ys)) := rfl
end
end L2


namespace L2
open PySem PySem.Spec PyProof.Rows
set_option maxRecDepth 100000
section
variable {X : Cx}
/-- max(a, b), min(a, b) of whole numbers -/
def kMax2 : List V → Hp → VK → Prop := fun xs H Q => match xs with
  | [.int a, .int b] => Q (.int (if a < b then b else a)) H
  | _ => False
def kMin2 : List V → Hp → VK → Prop := fun xs H Q => match xs with
  | [.int a, .int b] => Q (.int (if b < a then b else a)) H
  | _ => False
theorem a_kMax2 {a b : Int} {H : Hp} {Q : VK} : kMax2 [.int a, .int b] H Q = Q (.int (if a < b then b else a)) H := rfl
theorem a_kMin2 {a b : Int} {H : Hp} {Q : VK} : kMin2 [.int a, .int b] H Q = Q (.int (if b < a then b else a)) H := rfl
theorem a_tChain {r r' : R2} {ta tb tc : TE} {σ : St} {H : Hp} {Q : VK} : tChain r r' ta tb tc σ H Q = ta σ H fun x H1 => tb σ H1 fun y H2 => r x y H2 fun z H3 => ∃ k, z = .bl k ∧ (if k = true then tc σ H3 fun w' H4 => r' y w' H4 Q else Q (.bl false) H3) := rfl
/-- list(range(a, b)) -/
def cListRng2 (te tf : TE) : TE := fun σ H Q => te σ H fun x H1 => tf σ H1 fun y H2 => match x, y with
  | .int i, .int j => -1000 ≤ i ∧ i ≤ 1000 ∧ -1000 ≤ j ∧ j ≤ 100000 ∧ ∀ p, H2 p = none → Q (.ref p) (upd H2 p (.lst ((List.range (j - i).toNat).map fun (k : Nat) => V.int (i + k))))
  | _, _ => False
theorem a_cListRng2 {te tf : TE} {σ : St} {H : Hp} {Q : VK} : cListRng2 te tf σ H Q = te σ H fun x H1 => tf σ H1 fun y H2 => match x, y with
  | .int i, .int j => -1000 ≤ i ∧ i ≤ 1000 ∧ -1000 ≤ j ∧ j ≤ 100000 ∧ ∀ p, H2 p = none → Q (.ref p) (upd H2 p (.lst ((List.range (j - i).toNat).map fun (k : Nat) => V.int (i + k))))
  | _, _ => False := rfl
end
end L2
namespace L2
open PySem PySem.Spec PyProof.Rows
section
variable {X : Cx} {a b c : Expr} {ta tb tc : TE} {pos : Pos}
theorem a_tTest {te : TE} {σ : St} {H : Hp} {Q : Bool → Hp → Prop} : tTest te σ H Q = te σ H fun z H3 => ∃ k, z = .bl k ∧ Q k H3 := rfl
end
end L2
namespace L2
open PySem PySem.Spec PyProof.Rows
section
variable {K : PySem.W.Frag} {α : Type} {xs : List α} {item : α → V} {h : α → List V} {H : Hp} {D : Addr} {σc : St} {Q : VK}
end
end L2


set_option Elab.async false
set_option linter.all false
namespace L2
open PySem
section
variable {K : PySem.W.Frag} {h : Heap} {mg : Str → Option Value} {x m qual : Str} {C f : Addr} {fd : FuncData} {st : Stmt}
end
end L2

set_option Elab.async false
set_option linter.all false
set_option maxRecDepth 100000
set_option maxHeartbeats 4000000
namespace Law
open PySem L2 Mir
def top (i : Nat) : Stmt := PySem.Challenge.pw_throng_k23_ways_thinned.main.body.getD i (.Pass ⟨0, 0, 0, 0⟩)
abbrev s_row_meet : Stmt := top 1
theorem sc_row_meet : FnScope ["one", "other", "signs", "mine", "its"] ["one", "other"] (defScope s_row_meet) := ⟨rfl, rfl, rfl, by decide +kernel, rfl, by decide +kernel, by decide +kernel⟩
abbrev s_row_with : Stmt := top 2
theorem sc_row_with : FnScope ["row", "place", "sign"] ["row", "place", "sign"] (defScope s_row_with) := ⟨rfl, rfl, rfl, by decide +kernel, rfl, by decide +kernel, by decide +kernel⟩
abbrev s_row_narrowed : Stmt := top 3
theorem sc_row_narrowed : FnScope ["row", "places"] ["row", "places"] (defScope s_row_narrowed) := ⟨rfl, rfl, rfl, by decide +kernel, rfl, by decide +kernel, by decide +kernel⟩
abbrev s_heap_width : Stmt := top 5
theorem sc_heap_width : FnScope ["heap"] ["heap"] (defScope s_heap_width) := ⟨rfl, rfl, rfl, by decide +kernel, rfl, by decide +kernel, by decide +kernel⟩
abbrev s_heap_places : Stmt := top 6
theorem sc_heap_places : FnScope ["heap", "places", "place"] ["heap"] (defScope s_heap_places) := ⟨rfl, rfl, rfl, by decide +kernel, rfl, by decide +kernel, by decide +kernel⟩
abbrev s_fork_of : Stmt := top 8
theorem sc_fork_of : FnScope ["heap", "row", "rows", "met", "places"] ["heap", "row"] (defScope s_fork_of) := ⟨rfl, rfl, rfl, by decide +kernel, rfl, by decide +kernel, by decide +kernel⟩
abbrev s_firsts_of : Stmt := top 9
theorem sc_firsts_of : FnScope ["pairs", "width", "firsts", "signs", "number"] ["pairs", "width"] (defScope s_firsts_of) := ⟨rfl, rfl, rfl, by decide +kernel, rfl, by decide +kernel, by decide +kernel⟩
abbrev s_fork_below : Stmt := top 10
theorem sc_fork_below : FnScope ["firsts", "places", "no_firsts", "yes_firsts", "no", "yes"] ["firsts", "places"] (defScope s_fork_below) := ⟨rfl, rfl, rfl, by decide +kernel, rfl, by decide +kernel, by decide +kernel⟩
abbrev s_firsts_side : Stmt := top 11
theorem sc_firsts_side : FnScope ["firsts", "sign", "width"] ["firsts", "sign", "width"] (defScope s_firsts_side) := ⟨rfl, rfl, rfl, by decide +kernel, rfl, by decide +kernel, by decide +kernel⟩
abbrev s_fork_parts : Stmt := top 12
theorem sc_fork_parts : FnScope ["fork", "row", "over", "place", "sign", "no_parts"] ["fork", "row", "over"] (defScope s_fork_parts) := ⟨rfl, rfl, rfl, by decide +kernel, rfl, by decide +kernel, by decide +kernel⟩
abbrev s_heap_shares : Stmt := top 13
theorem sc_heap_shares : FnScope ["heap", "row"] ["heap", "row"] (defScope s_heap_shares) := ⟨rfl, rfl, rfl, by decide +kernel, rfl, by decide +kernel, by decide +kernel⟩
abbrev s_longest_first : Stmt := top 15
theorem sc_longest_first : FnScope ["ways"] ["ways"] (defScope s_longest_first) := ⟨rfl, rfl, rfl, by decide +kernel, rfl, by decide +kernel, by decide +kernel⟩
abbrev s_way_row : Stmt := top 16
theorem sc_way_row : FnScope ["way", "size"] ["way", "size"] (defScope s_way_row) := ⟨rfl, rfl, rfl, by decide +kernel, rfl, by decide +kernel, by decide +kernel⟩
abbrev s_door_at : Stmt := top 17
theorem sc_door_at : FnScope ["ways", "number"] ["ways", "number"] (defScope s_door_at) := ⟨rfl, rfl, rfl, by decide +kernel, rfl, by decide +kernel, by decide +kernel⟩
abbrev s_ways_thinned : Stmt := top 18
theorem sc_ways_thinned : FnScope ["ways", "size", "kept", "number"] ["ways", "size"] (defScope s_ways_thinned) := ⟨rfl, rfl, rfl, by decide +kernel, rfl, by decide +kernel, by decide +kernel⟩
abbrev s_is_way_needed : Stmt := top 19
theorem sc_is_way_needed : FnScope ["ordered", "number", "size", "way", "others", "rows", "row", "first"] ["ordered", "number", "size"] (defScope s_is_way_needed) := ⟨rfl, rfl, rfl, by decide +kernel, rfl, by decide +kernel, by decide +kernel⟩
abbrev s__law_cell_at : Stmt := top 21
theorem sc__law_cell_at : FnScope ["_law_script", "_law_k"] ["_law_script", "_law_k"] (defScope s__law_cell_at) := ⟨rfl, rfl, rfl, by decide +kernel, rfl, by decide +kernel, by decide +kernel⟩
abbrev s__law_stream : Stmt := top 22
theorem sc__law_stream : FnScope ["_law_cell", "_law_many", "_law_found", "_law_number", "_law_k"] ["_law_cell", "_law_many"] (defScope s__law_stream) := ⟨rfl, rfl, rfl, by decide +kernel, rfl, by decide +kernel, by decide +kernel⟩
abbrev s__law_names : Stmt := top 23
theorem sc__law_names : FnScope ["_law_cell", "_law_many", "_law_abc", "_law_base", "_law_at"] ["_law_cell", "_law_many"] (defScope s__law_names) := ⟨rfl, rfl, rfl, by decide +kernel, rfl, by decide +kernel, by decide +kernel⟩
abbrev s__law_choices : Stmt := top 24
theorem sc__law_choices : FnScope ["_law_many", "_law_found", "_law_k"] ["_law_many"] (defScope s__law_choices) := ⟨rfl, rfl, rfl, by decide +kernel, rfl, by decide +kernel, by decide +kernel⟩
abbrev s__law_ways : Stmt := top 25
theorem sc__law_ways : FnScope ["_law_cells", "_law_most", "_law_doors_here", "_law_found", "_law_known", "_law_cell", "_law_size", "_law_signs", "_law_at"] ["_law_cells", "_law_most", "_law_doors_here"] (defScope s__law_ways) := ⟨rfl, rfl, rfl, by decide +kernel, rfl, by decide +kernel, by decide +kernel⟩
abbrev s__law_door : Stmt := top 26
theorem sc__law_door : FnScope ["_law_ways_here", "_law_signs", "_law_size", "_law_beginning", "_law_door_here"] ["_law_ways_here", "_law_signs"] (defScope s__law_door) := ⟨rfl, rfl, rfl, by decide +kernel, rfl, by decide +kernel, by decide +kernel⟩
abbrev s__law_doors : Stmt := top 27
theorem sc__law_doors : FnScope ["_law_ways_here", "_law_choices_here"] ["_law_ways_here", "_law_choices_here"] (defScope s__law_doors) := ⟨rfl, rfl, rfl, by decide +kernel, rfl, by decide +kernel, by decide +kernel⟩
abbrev s__law_left : Stmt := top 28
theorem sc__law_left : FnScope ["_law_ways_here", "_law_found", "_law_k", "_law_way"] ["_law_ways_here", "_law_found"] (defScope s__law_left) := ⟨rfl, rfl, rfl, by decide +kernel, rfl, by decide +kernel, by decide +kernel⟩
abbrev s__law_with_both : Stmt := top 29
theorem sc__law_with_both : FnScope ["_law_ways_here", "_law_cell", "_law_beginning", "_law_door_here", "_law_known", "_law_found", "_law_sign"] ["_law_ways_here", "_law_cell"] (defScope s__law_with_both) := ⟨rfl, rfl, rfl, by decide +kernel, rfl, by decide +kernel, by decide +kernel⟩
abbrev s_law : Stmt := top 30
theorem sc_law : FnScope ["_law_script", "_law_doors_here", "_law_ways_here", "_law_many", "_law_size", "_law_handed", "_law_found", "_law_choices_here", "_law_due", "_law_k"] ["_law_script"] (defScope s_law) := ⟨rfl, rfl, rfl, by decide +kernel, rfl, by decide +kernel, by decide +kernel⟩
structure Top (K : PySem.W.Frag) (mg : Str → Option Value) : Prop where
  f_row_meet : Fn K mg "row_meet" s_row_meet
  f_row_with : Fn K mg "row_with" s_row_with
  f_row_narrowed : Fn K mg "row_narrowed" s_row_narrowed
  f_heap_width : Fn K mg "heap_width" s_heap_width
  f_heap_places : Fn K mg "heap_places" s_heap_places
  f_fork_of : Fn K mg "fork_of" s_fork_of
  f_firsts_of : Fn K mg "firsts_of" s_firsts_of
  f_fork_below : Fn K mg "fork_below" s_fork_below
  f_firsts_side : Fn K mg "firsts_side" s_firsts_side
  f_fork_parts : Fn K mg "fork_parts" s_fork_parts
  f_heap_shares : Fn K mg "heap_shares" s_heap_shares
  f_longest_first : Fn K mg "longest_first" s_longest_first
  f_way_row : Fn K mg "way_row" s_way_row
  f_door_at : Fn K mg "door_at" s_door_at
  f_ways_thinned : Fn K mg "ways_thinned" s_ways_thinned
  f_is_way_needed : Fn K mg "is_way_needed" s_is_way_needed
  f__law_cell_at : Fn K mg "_law_cell_at" s__law_cell_at
  f__law_stream : Fn K mg "_law_stream" s__law_stream
  f__law_names : Fn K mg "_law_names" s__law_names
  f__law_choices : Fn K mg "_law_choices" s__law_choices
  f__law_ways : Fn K mg "_law_ways" s__law_ways
  f__law_door : Fn K mg "_law_door" s__law_door
  f__law_doors : Fn K mg "_law_doors" s__law_doors
  f__law_left : Fn K mg "_law_left" s__law_left
  f__law_with_both : Fn K mg "_law_with_both" s__law_with_both
  f_law : Fn K mg "law" s_law
  b_zip : mg "zip" = none
  b_len : mg "len" = none
  b_range : mg "range" = none
  b_any : mg "any" = none
  b_enumerate : mg "enumerate" = none
  b_isinstance : mg "isinstance" = none
  b_int : mg "int" = none
  b_sorted : mg "sorted" = none
  b_tuple : mg "tuple" = none
  b_list : mg "list" = none
  b_max : mg "max" = none
  lam_longest_first : ∃ c T, LamFn K mg "longest_first" c T
local macro_rules | `(tactic| walk_at "rd") => `(tactic| try simp only [a_cVar, a_tC, a_tOp, a_kAddI, a_kAddS, a_kAddL, a_kI, a_kI0, a_kMulI, a_kMulS, a_kEqI, a_kEqS, a_kEqB, a_kEqNS, a_kEqSN, a_kEqNN, a_kIs, a_kIsB, a_kInS, a_kInL, a_kIxS, a_kIxL, a_kLenS, a_kLenL, a_kIntI, a_kIntB, a_kIntS, a_kSlTo, a_kSlFrom, a_kSlL, a_tSl, a_tNoPart, a_cPart, a_cNeg, a_kEqNil, a_cIsI, Ty.isBl, Ty.isInt, Ty.isStr, Ty.isLst, Ty.isTup, a_cTest, a_blK, a_cAndV, a_cOrV, a_cNotV, a_tAnd, a_tOr, a_tNot, a_tYes, a_tIf, a_cApp, a_cJoin1, a_tNil, a_tCons, a_tCall, a_tCB, a_tLst, a_tTup, a_tNext, a_tSeq, a_tDrop, a_tRet, a_tRetN, a_tIfS, a_tAsg, a_gName, a_tJoin, a_cFor, a_cIter, a_cRng1, a_cRng2, a_cZip, a_srcKS, a_srcKL, a_cComp, compσ, L2.start, a_cxK, a_cxCK, CDiv, CPow,
  List.map_cons, List.map_nil, List.length_cons, List.length_nil, List.replicate_succ, List.replicate_zero, List.cons_append, List.nil_append, List.getElem?_cons_zero, List.getElem?_cons_succ, List.set_cons_zero, List.set_cons_succ, Option.getD_some, Option.getD_none, Nat.reduceAdd, Nat.reduceSub, Bool.false_bne, Bool.true_bne, Bool.false_xor, Bool.true_xor, Bool.not_eq_true', decide_eq_true_eq, decide_eq_false_iff_not, Bool.not_true, Bool.not_false, if_true, if_false, true_and, and_true, Int.reduceLT, Int.reduceLE, Nat.reduceLeDiff,  Bool.false_eq_true, a_gCons, a_gNil, a_gSeq, a_cRepl, a_cCount, a_kListS, a_kListL, a_kTupleS, a_cEnum, a_kSum, a_cSortSet, a_cStarts, a_cRng3, a_cEnumL, a_cListRev, a_kSlF, a_cListRng, a_kAny, a_kSorted, a_kNeNil, a_kEqD, a_kMulL, a_gSub, a_rSetL, a_tPar, a_tCallT, a_tRaise, a_cFS, a_jNil, a_jCons, a_cFmtR, a_cIsX, a_cIsXT, a_tTryAs, a_kSlB, a_cDGet, a_cDIn, a_cDPut, a_dNewK, a_cIndex, a_cDGet2, a_cFmtA, a_cJoinW, a_kSlM, a_cSetDef, a_tRetD, a_cItems, a_tBreak, a_kEqDict, a_cFmtI, a_cPopAt, a_one, a_cSortLen, a_kMax, a_kInT, a_tMeth, a_tMake, a_tFld, a_sFld, a_dNewT, a_kTupL, a_kMax2, a_kMin2, a_tChain, a_cListRng2, a_tTest, ite_not, st_cps, Bool.true_eq_false, Int.zero_add, reduceIte, ite_true, ite_false])
section
variable {P : Program} {w : World} {K : PySem.W.Frag} {mg : Str → Option Value} {base : Heap}
def sp__law_cell_at (K : PySem.W.Frag) : Sp := fun vs H Q _ => match vs with
  | [.ref a, .int k] => ∃ ns : List Int, SqL K H a (ns.map V.int) ∧ 0 ≤ k ∧ Q (.int (cell ns k.toNat)) H
  | _ => False
theorem cell_here {H : Hp} {a : Addr} {ns : List Int} {k : Int} {Q : VK} {E : XK} (hS : SqL K H a (ns.map V.int)) (hk : 0 ≤ k) (q : Q (.int (cell ns k.toNat)) H) : sp__law_cell_at K [.ref a, .int k] H Q E := ⟨ns, hS, hk, q⟩
theorem ok__law_cell_at (T : Top K mg) : Callee P w K mg base 1 "_law_cell_at" ["_law_script", "_law_k"] (sp__law_cell_at K) := by
  refine T.f__law_cell_at.cal sc__law_cell_at (by intro vs H Q E h; unfold sp__law_cell_at at h; split at h <;> first | rfl | exact h.elim) (fun _ _ _ _ _ _ us hl => match us, hl with | [_, _], _ => rfl) (fun f cdv A outer s H vs Q E hr h => ?_)
  unfold sp__law_cell_at at h
  split at h
  case h_2 => exact h.elim
  refine ⟨_, (pss_cons (ps_if (qt_cmp op_ltK (qv 1) (pe_callB (lenE K rfl) rfl T.b_len bb_len (pa_cons (qv 0) pa_nil))) (pss_one (ps_ret (pe_ix (ixE K rfl) (qv 0) (qv 1) (fun _ _ => rfl)))) pss_nil)
      (pss_one (ps_ret pe_int))), ?_⟩
  rename_i a k
  obtain ⟨ns, hS, hk, q⟩ := h
  walk_at "rd"
  refine ⟨_, .inl hS, ?_⟩
  walk_at "rd"
  rw [List.length_map]
  refine ite2 (fun hlt => ?_) (fun hge => ?_)
  · exact ⟨_, _, .inl hS, cell_lt hk hlt, q⟩
  · rw [← cell_ge hge]
    exact q
def sp__law_stream (K : PySem.W.Frag) : Sp := fun vs H Q _ => match vs with
  | [.int c, .int n] => 0 ≤ n ∧ n ≤ 1000 ∧ ∀ p H', H p = none → Same H H' → H' p = some (.lst ((stream c n.toNat).map V.int)) → Q (.ref p) H'
  | _ => False
theorem ok__law_stream (T : Top K mg) : Callee P w K mg base 1 "_law_stream" ["_law_cell", "_law_many"] (sp__law_stream K) := by
  refine T.f__law_stream.cal sc__law_stream (by intro vs H Q E h; unfold sp__law_stream at h; split at h <;> first | rfl | exact h.elim) (fun _ _ _ _ _ _ us hl => match us, hl with | [_, _], _ => rfl) (fun f cdv A outer s H vs Q E hr h => ?_)
  unfold sp__law_stream at h
  split at h
  case h_2 => exact h.elim
  refine ⟨_, (pss_cons (ps_set (i := 2) sc__law_stream.nd rfl (by first | exact Or.inl rfl | exact Or.inr rfl) (pe_lst pa_nil))
      (pss_cons (ps_set (i := 3) sc__law_stream.nd rfl (by first | exact Or.inl rfl | exact Or.inr rfl) (pe_op op_addK (pe_op op_modK (qv 0) pe_int) pe_int))
      (pss_cons (qs_for PassesOwn.never rfl (qi_range1 rfl T.b_range (qv 1)) (pg_name (i := 4) sc__law_stream.nd rfl (by first | exact Or.inl rfl | exact Or.inr rfl)) (pss_cons (ps_set (i := 3) sc__law_stream.nd rfl (by first | exact Or.inl rfl | exact Or.inr rfl) (pe_op op_modK (pe_op op_addK (pe_op op_addK (pe_op op_mulK (qv 3) pe_int) (pe_op op_mulK (pe_op op_mulK pe_int (qv 4)) (qv 4))) pe_int) pe_int))
      (pss_one (ps_expr (qe_append (qv 2) (pe_op op_fdivK (qv 3) pe_int))))))
      (pss_one (ps_ret (qv 2)))))), ?_⟩
  rename_i c n
  obtain ⟨h0, h1, q⟩ := h
  walk_at "rd"
  refine ⟨by decide, fun p hp => ⟨by omega, by omega, ?_⟩⟩
  refine loop_range (fun i σ H' => ∃ k, σ = [some (.int c), some (.int n), some (.ref p), some (.int (num c i)), k] ∧ Same H H' ∧ H' p = some (.lst ((stream c i).map V.int))) ⟨none, rfl, same_new hp _, upd_same⟩ ?_ ?_
  · rintro i σ H1 hi ⟨k, rfl, s1, e1⟩
    walk_at "rd"
    have hb1 := num_lo c i
    have hb2 := num_hi c i
    refine ⟨.inl ⟨by omega, by omega⟩, .inl ⟨by omega, by omega⟩, .inr ⟨by omega, by omega⟩, ?_⟩
    refine ⟨⟨_, e1⟩, _, e1, sizeBig (by simp [stream_len]; omega), ?_⟩
    refine ⟨_, rfl, same_upd s1 hp, ?_⟩
    rw [upd_same, stream_snoc]
    simp [num]
  · rintro σ H1 ⟨k, rfl, s1, e1⟩
    walk_at "rd"
    exact q p H1 hp s1 e1
abbrev sgn (c : Nat) : V := V.str (st [c])
theorem flat_one' {α β : Type} (f : α → β) (l : List α) : (l.flatMap fun x => [f x]) = l.map f := by
  induction l with
  | nil => rfl
  | cons x l ih => rw [List.flatMap_cons, ih]; rfl
def abcL : List Nat := [97, 98, 99, 100, 101, 102, 103, 104, 105, 106, 107, 108, 109, 110, 111, 112, 113, 114, 115, 116, 117, 118, 119, 120, 121, 122]
def abcAt (k : Int) : Nat := (abcL[(k % 26).toNat]?).getD 0
theorem abc_at (k : Int) : atI [97, 98, 99, 100, 101, 102, 103, 104, 105, 106, 107, 108, 109, 110, 111, 112, 113, 114, 115, 116, 117, 118, 119, 120, 121, 122] (k % 26) = some (abcAt k) := by
  obtain ⟨j, hj⟩ : ∃ j : Nat, k % 26 = j := ⟨(k % 26).toNat, by omega⟩
  have h26 : j < 26 := by omega
  have hl : j < abcL.length := h26
  unfold abcAt
  rw [hj, Int.toNat_natCast, List.getElem?_eq_getElem hl]
  exact atI_nat (xs := abcL) (List.getElem?_eq_getElem hl)
def nameBase (c : Int) : List Nat := (stream (c / 3) 8).map abcAt
theorem nameBase_len (c : Int) : (nameBase c).length = 8 := by simp [nameBase, stream_len]
def nameShort (c : Int) : List Nat := (nameBase c).take (1 + c / 3 % 8).toNat
theorem nameShort_len (c : Int) : ((nameShort c).length : Int) = 1 + c / 3 % 8 := by
  unfold nameShort
  rw [List.length_take, nameBase_len]
  omega
def nameA (c : Int) (k : Nat) : List Nat := (nameBase c).take (k + 1)
def nameB (c : Int) (k : Nat) : List Nat := (nameShort c).take (c / 24 % (nameShort c).length).toNat ++ [abcAt (c / 3 + 7 * k)] ++ (nameShort c).drop ((c / 24 % (nameShort c).length).toNat + 1)
def nameL (c : Int) (m : Nat) : List (List Nat) := (List.range m).map fun k => if c % 3 = 1 ∧ m ≤ 8 then nameA c k else nameB c k
def sp__law_names : Sp := fun vs H Q _ => match vs with
  | [.int c, .int m] => 0 ≤ m ∧ m ≤ 100 ∧ ∀ p H', H p = none → Same H H' → H' p = some (.lst ((nameL c m.toNat).map tx)) → Q (.ref p) H'
  | _ => False
theorem ok__law_names (T : Top K mg) : Callee P w K mg base 2 "_law_names" ["_law_cell", "_law_many"] sp__law_names := by
  refine T.f__law_names.cal sc__law_names (by intro vs H Q E h; unfold sp__law_names at h; split at h <;> first | rfl | exact h.elim) (fun _ _ _ _ _ _ us hl => match us, hl with | [_, _], _ => rfl) (fun f cdv A outer s H vs Q E hr h => ?_)
  unfold sp__law_names at h
  split at h
  case h_2 => exact h.elim
  refine ⟨_, (pss_cons (ps_set (i := 2) sc__law_names.nd rfl (by first | exact Or.inl rfl | exact Or.inr rfl) (qs [97, 98, 99, 100, 101, 102, 103, 104, 105, 106, 107, 108, 109, 110, 111, 112, 113, 114, 115, 116, 117, 118, 119, 120, 121, 122]))
      (pss_cons (ps_set (i := 3) sc__law_names.nd rfl (by first | exact Or.inl rfl | exact Or.inr rfl) (joinE K rfl (qe_comp (nt := 1) (fi := [2]) (N' := ["_law_number", "_law_abc"]) rfl (cscope rfl (by decide +kernel)) (cnames (N := ["_law_cell", "_law_many", "_law_abc", "_law_base", "_law_at"]) (sc := defScope s__law_names) rfl rfl (by decide +kernel)) (gk_name (by decide)) (iterE K rfl (pe_fn (ok__law_stream T) (hr.mono (by first | decide | omega)) rfl (pa_cons (pe_op op_fdivK (qv 0) pe_int) (pa_cons pe_int pa_nil)))) (fun _ _ _ _ _ => (pg_name (i := 0) (by show (["_law_number", "_law_abc"] : List Str).Nodup; decide +kernel) rfl (by first | exact Or.inl rfl | exact Or.inr rfl))) (fun _ _ _ _ _ => pif_nil) (fun _ _ _ _ _ => (pe_ix (ixE K rfl) (qv 1) (pe_op op_modK (qv 0) pe_int) (fun _ _ => rfl))))))
      (pss_cons (ps_if (PW.pt (pw_and (qt_cmp op_eqK (pe_op op_modK (qv 0) pe_int) pe_int) (pw_and1 (qt_cmp op_leK (qv 1) pe_int)))) (pss_one (ps_ret (qe_comp (nt := 1) (fi := [3]) (N' := ["_law_k", "_law_base"]) rfl (cscope rfl (by decide +kernel)) (cnames (N := ["_law_cell", "_law_many", "_law_abc", "_law_base", "_law_at"]) (sc := defScope s__law_names) rfl rfl (by decide +kernel)) (gk_name (by decide)) (qi_range1 rfl T.b_range (qv 1)) (fun _ _ _ _ _ => (pg_name (i := 0) (by show (["_law_k", "_law_base"] : List Str).Nodup; decide +kernel) rfl (by first | exact Or.inl rfl | exact Or.inr rfl))) (fun _ _ _ _ _ => pif_nil) (fun _ _ _ _ _ => (pe_slice (slE K rfl) (qv 1) po_none (qo_some (pe_op op_addK (qv 0) pe_int))))))) pss_nil)
      (pss_cons (ps_set (i := 3) sc__law_names.nd rfl (by first | exact Or.inl rfl | exact Or.inr rfl) (pe_slice (slE K rfl) (qv 3) po_none (qo_some (pe_op op_addK pe_int (pe_op op_modK (pe_op op_fdivK (qv 0) pe_int) pe_int)))))
      (pss_cons (ps_set (i := 4) sc__law_names.nd rfl (by first | exact Or.inl rfl | exact Or.inr rfl) (pe_op op_modK (pe_op op_fdivK (qv 0) pe_int) (pe_callB (lenE K rfl) rfl T.b_len bb_len (pa_cons (qv 3) pa_nil))))
      (pss_one (ps_ret (qe_comp (nt := 1) (fi := [3, 2, 4, 0]) (N' := ["_law_k", "_law_base", "_law_abc", "_law_at", "_law_cell"]) rfl (cscope rfl (by decide +kernel)) (cnames (N := ["_law_cell", "_law_many", "_law_abc", "_law_base", "_law_at"]) (sc := defScope s__law_names) rfl rfl (by decide +kernel)) (gk_name (by decide)) (qi_range1 rfl T.b_range (qv 1)) (fun _ _ _ _ _ => (pg_name (i := 0) (by show (["_law_k", "_law_base", "_law_abc", "_law_at", "_law_cell"] : List Str).Nodup; decide +kernel) rfl (by first | exact Or.inl rfl | exact Or.inr rfl))) (fun _ _ _ _ _ => pif_nil) (fun _ _ _ _ _ => (pe_op op_addK (pe_op op_addK (pe_slice (slE K rfl) (qv 1) po_none (qo_some (qv 3))) (pe_ix (ixE K rfl) (qv 2) (pe_op op_modK (pe_op op_addK (pe_op op_fdivK (qv 4) pe_int) (pe_op op_mulK pe_int (qv 0))) pe_int) (fun _ _ => rfl))) (pe_slice (slE K rfl) (qv 1) (qo_some (pe_op op_addK (qv 3) pe_int)) po_none))))))))))), ?_⟩
  rename_i c m
  obtain ⟨h1, h2, q⟩ := h
  walk_at "rd"
  refine ⟨by omega, by omega, fun p H1 hp s1 e1 => .inl ⟨⟨_, SqL.of e1⟩, fun D hD => ?_⟩⟩
  refine comp_list (item := V.int) (xs := stream (c / 3) 8) (h := fun e => [sgn (abcAt e)]) hD (SqL.of e1) (by simp [stream_len]) (fun _ => by simp) ?_ ?_
  · intro e H2 out non he s2 ho hn
    walk_at "rd"
    exact ⟨_, abc_at e, ho _ _ rfl (Same.refl _)⟩
  intro H2 s2 e2
  have eb : (stream (c / 3) 8).flatMap (fun e => [sgn (abcAt e)]) = (nameBase c).map sgn := by
    rw [flat_one' (fun e => sgn (abcAt e))]
    unfold nameBase
    rw [List.map_map]
    rfl
  rw [eb] at e2
  have hb := nameBase_len c
  have hs := nameShort_len c
  have s12 := s1.trans s2
  refine ⟨nameBase c, SqL.of e2, by omega, ?_⟩
  refine ite2 (fun g1 => ite2 (fun g2 => ?a) fun g2 => ?b) fun g1 => ?b'
  case a =>
    have g : c % 3 = 1 ∧ m.toNat ≤ 8 := ⟨g1, by omega⟩
    refine ⟨by omega, by omega, fun D2 hD2 => ?_⟩
    refine comp_range (h := fun k => [tx (nameA c k)]) hD2 (by omega) (fun _ => by simp) ?_ ?_
    · intro k H3 out non hk s3 ho hn
      walk_at "rd"
      refine ⟨by omega, by omega, by omega, ?_⟩
      rw [show ((k : Int) + 1).toNat = k + 1 by omega]
      exact ho _ _ rfl (Same.refl _)
    · intro H3 s3 e3
      refine q D2 H3 (s12.free hD2) (s12.trans s3) ?_
      rw [e3, flat_one' (fun k => tx (nameA c k))]
      unfold nameL
      rw [List.map_map]
      simp only [if_pos g]
      rfl
  case' b => have g : ¬ (c % 3 = 1 ∧ m.toNat ≤ 8) := by omega
  case' b' => have g : ¬ (c % 3 = 1 ∧ m.toNat ≤ 8) := by omega
  all_goals (
    have hsn : (nameBase c).take (1 + c / 3 % 8).toNat = nameShort c := rfl
    rw [hsn]
    have hat : 0 ≤ c / 24 % ((nameShort c).length : Int) := Int.emod_nonneg _ (by omega)
    have hat2 : c / 24 % ((nameShort c).length : Int) < (nameShort c).length := Int.emod_lt_of_pos _ (by omega)
    refine ⟨by omega, by omega, by omega, by omega, by omega, by omega, by omega, fun D2 hD2 => ?_⟩
    refine comp_range (h := fun k => [tx (nameB c k)]) hD2 (by omega) (fun _ => by simp) ?_ ?_
    · intro k H3 out non hk s3 ho hn
      walk_at "rd"
      refine ⟨by omega, by omega, by omega, .inr ⟨by omega, by omega⟩, _, abc_at _, by rw [List.length_take]; omega, by omega, by omega, by omega, by simp only [List.length_append, List.length_take, List.length_drop, List.length_singleton]; omega, ?_⟩
      rw [show (c / 24 % ((nameShort c).length : Int) + 1).toNat = (c / 24 % ((nameShort c).length : Int)).toNat + 1 by omega]
      exact ho _ _ rfl (Same.refl _)
    · intro H3 s3 e3
      refine q D2 H3 (s12.free hD2) (s12.trans s3) ?_
      rw [e3, flat_one' (fun k => tx (nameB c k))]
      unfold nameL
      rw [List.map_map]
      simp only [if_neg g]
      rfl)
def okS (m i : Nat) : Bool := m == 45 || i == 45 || m == i
def meetS (m i : Nat) : Nat := if m = 45 then i else m
def okL (x y : List Nat) : Bool := (x.zip y).all fun p => okS p.1 p.2
def meetL (x y : List Nat) : List Nat := (x.zip y).map fun p => meetS p.1 p.2
def meetV (x y : List Nat) : V := if okL x y = true then .str (st (meetL x y)) else .non
theorem take_zip_succ {x y : List Nat} {i c d : Nat} (hc : x[i]? = some c) (hd : y[i]? = some d) : (x.take (i + 1)).zip (y.take (i + 1)) = (x.take i).zip (y.take i) ++ [(c, d)] := by
  have h1 := (List.getElem?_eq_some_iff.mp hc).1
  have h2 := (List.getElem?_eq_some_iff.mp hd).1
  rw [List.take_succ, List.take_succ, hc, hd, List.zip_append (by simp; omega)]
  rfl
theorem okL_succ {x y : List Nat} {i c d : Nat} (hc : x[i]? = some c) (hd : y[i]? = some d) : okL (x.take (i + 1)) (y.take (i + 1)) = (okL (x.take i) (y.take i) && okS c d) := by
  unfold okL
  rw [take_zip_succ hc hd]
  simp
theorem meetL_succ {x y : List Nat} {i c d : Nat} (hc : x[i]? = some c) (hd : y[i]? = some d) : meetL (x.take (i + 1)) (y.take (i + 1)) = meetL (x.take i) (y.take i) ++ [meetS c d] := by
  unfold meetL
  rw [take_zip_succ hc hd]
  simp
theorem okL_bad {x y : List Nat} {i c d : Nat} (hc : x[i]? = some c) (hd : y[i]? = some d) (h : okS c d = false) : okL x y = false := by
  unfold okL
  rw [Bool.eq_false_iff]
  intro z
  rw [List.all_eq_true] at z
  have := z (c, d) (List.mem_of_getElem? (List.getElem?_zip_eq_some.mpr ⟨hc, hd⟩))
  rw [h] at this
  cases this
theorem take_min : ∀ {x y : List Nat}, (x.take (min x.length y.length)).zip (y.take (min x.length y.length)) = x.zip y
  | [], y => by simp
  | _ :: _, [] => by simp
  | a :: x, b :: y => by
    have ih := take_min (x := x) (y := y)
    rw [List.length_cons, List.length_cons, Nat.add_min_add_right, List.take_succ_cons, List.take_succ_cons, List.zip_cons_cons, ih, List.zip_cons_cons]
def sp_row_meet : Sp := fun vs H Q _ => match vs with
  | [.str a, .str b] => a.cps.toList.length ≤ 1000 ∧ ∀ H', Same H H' → Q (meetV a.cps.toList b.cps.toList) H'
  | _ => False
theorem ok_row_meet (T : Top K mg) : Callee P w K mg base 1 "row_meet" ["one", "other"] sp_row_meet := by
  refine T.f_row_meet.cal sc_row_meet (by intro vs H Q E h; unfold sp_row_meet at h; split at h <;> first | rfl | exact h.elim) (fun _ _ _ _ _ _ us hl => match us, hl with | [_, _], _ => rfl) (fun f cdv A outer s H vs Q E hr h => ?_)
  unfold sp_row_meet at h
  split at h
  case h_2 => exact h.elim
  refine ⟨_, (pss_cons (ps_set (i := 2) sc_row_meet.nd rfl (by first | exact Or.inl rfl | exact Or.inr rfl) (pe_lst pa_nil))
      (pss_cons (qs_for PassesOwn.never rfl (zipE K rfl rfl T.b_zip (qv 0) (qv 1)) (tupE K rfl rfl (n := 2) (pgs_cons (pg_name (i := 3) sc_row_meet.nd rfl (by first | exact Or.inl rfl | exact Or.inr rfl)) (pgs_cons (pg_name (i := 4) sc_row_meet.nd rfl (by first | exact Or.inl rfl | exact Or.inr rfl)) pgs_nil))) (pss_cons (ps_if (PW.pt (pw_and (qt_cmp op_neK (qv 3) (qs [45])) (pw_and (qt_cmp op_neK (qv 4) (qs [45])) (pw_and1 (qt_cmp op_neK (qv 3) (qv 4)))))) (pss_one (ps_ret pe_non)) pss_nil)
      (pss_one (ps_expr (qe_append (qv 2) (pe_ifExp (qt_cmp op_eqK (qv 3) (qs [45])) (qv 4) (qv 3)))))))
      (pss_one (ps_ret (joinE K rfl (qv 2)))))), ?_⟩
  rename_i a b
  obtain ⟨x, rfl⟩ : ∃ x, a = st x := ⟨_, (st_eta a).symm⟩
  obtain ⟨y, rfl⟩ : ∃ x, b = st x := ⟨_, (st_eta b).symm⟩
  obtain ⟨h1, q⟩ := h
  simp only [st_cps] at h1 q
  walk_at "rd"
  refine ⟨by decide, fun g hg => ?_⟩
  refine loop_zip (xs := x.map fun c => V.str (st [c])) (ys := y.map fun c => V.str (st [c])) (fun i σ H' => ∃ u v, σ = [some (.str (st x)), some (.str (st y)), some (.ref g), u, v] ∧ Same H H' ∧ okL (x.take i) (y.take i) = true ∧ H' g = some (.lst ((meetL (x.take i) (y.take i)).map fun k => V.str (st [k]))))
    ⟨none, none, rfl, same_new hg _, rfl, upd_same⟩ (fun i σ H' _ => ⟨rfl, rfl⟩) ?_ ?_
  · rintro i c d σ H1 t hx hy ⟨u, v, rfl, s1, e1, e2⟩ ht
    rw [List.getElem?_map] at hx hy
    obtain ⟨c, hc, rfl⟩ := Option.map_eq_some_iff.mp hx
    obtain ⟨d, hd, rfl⟩ := Option.map_eq_some_iff.mp hy
    have hi := (List.getElem?_eq_some_iff.mp hc).1
    have ngt : g ≠ t := ne_of_none e2 ht
    have e3 : (upd H1 t (.tup [V.str (st [c]), V.str (st [d])])) g = _ := (upd_ne ngt).trans e2
    have s2 : Same H (upd H1 t (.tup [V.str (st [c]), V.str (st [d])])) := s1.trans (same_new ht _)
    have small : ((meetL (x.take i) (y.take i)).map fun k => V.str (st [k])).length < sizeLine := sizeBig (by simp [meetL]; omega)
    have good : okS c d = true → ∀ k, k = meetS c d → ∃ u v, [some (V.str (st x)), some (V.str (st y)), some (V.ref g), some (V.str (st [c])), some (V.str (st [d]))] = [some (.str (st x)), some (.str (st y)), some (.ref g), u, v] ∧
        Same H (upd (upd H1 t (.tup [V.str (st [c]), V.str (st [d])])) g (.lst (((meetL (x.take i) (y.take i)).map fun k => V.str (st [k])) ++ [V.str (st [k])]))) ∧ okL (x.take (i + 1)) (y.take (i + 1)) = true ∧
        (upd (upd H1 t (.tup [V.str (st [c]), V.str (st [d])])) g (.lst (((meetL (x.take i) (y.take i)).map fun k => V.str (st [k])) ++ [V.str (st [k])]))) g = some (.lst ((meetL (x.take (i + 1)) (y.take (i + 1))).map fun k => V.str (st [k]))) := fun ho k hk => by
      refine ⟨_, _, rfl, same_upd s2 hg, by rw [okL_succ hc hd, e1, ho]; rfl, ?_⟩
      rw [upd_same, meetL_succ hc hd, hk]
      simp
    walk_at "rd"
    refine ite2 (fun g1 => ?_) fun g1 => ite2 (fun g2 => ?_) fun g2 => ite2 (fun g3 => ?_) fun g3 => ?_
    · exact ⟨⟨_, e3⟩, ite2 (fun g4 => ⟨_, e3, small, good (by simp [okS, g1]) _ (by simp [meetS, g4])⟩) fun g4 => absurd g1 g4⟩
    · exact ⟨⟨_, e3⟩, ite2 (fun g4 => absurd g4 g1) fun g4 => ⟨_, e3, small, good (by simp [okS, g2]) _ (by simp [meetS, g4])⟩⟩
    · exact ⟨⟨_, e3⟩, ite2 (fun g4 => absurd g4 g1) fun g4 => ⟨_, e3, small, good (by simp [okS, g3]) _ (by simp [meetS, g4])⟩⟩
    · have e4 := okL_bad hc hd (by simp [okS, g1, g2, g3])
      have := q _ s2
      unfold meetV at this
      rw [e4] at this
      exact this
  · rintro σ H1 ⟨u, v, rfl, s1, e1, e2⟩
    walk_at "rd"
    simp only [List.length_map] at e1 e2
    unfold okL at e1
    unfold meetL at e2
    rw [take_min] at e1 e2
    refine ⟨_, SqL.of e2, by simp; omega, ?_⟩
    have := q _ s1
    unfold meetV okL meetL at this
    rw [if_pos e1] at this
    exact this
abbrev txt (r : List Nat) : V := V.str (st r)
def sp_row_with : Sp := fun vs H Q _ => match vs with
  | [.str z, .int p, .str s] => ∃ c, s.cps.toList = [c] ∧ 0 ≤ p ∧ p < z.cps.toList.length ∧ z.cps.toList.length ≤ 1000 ∧ Q (txt (z.cps.toList.set p.toNat c)) H
  | _ => False
theorem ok_row_with (T : Top K mg) : Callee P w K mg base 1 "row_with" ["row", "place", "sign"] sp_row_with := by
  refine T.f_row_with.cal sc_row_with (by intro vs H Q E h; unfold sp_row_with at h; split at h <;> first | rfl | exact h.elim) (fun _ _ _ _ _ _ us hl => match us, hl with | [_, _, _], _ => rfl) (fun f cdv A outer s H vs Q E hr h => ?_)
  unfold sp_row_with at h
  split at h
  case h_2 => exact h.elim
  refine ⟨_, (pss_one (ps_ret (pe_op op_addK (pe_op op_addK (pe_slice (slE K rfl) (qv 0) po_none (qo_some (qv 1))) (qv 2)) (pe_slice (slE K rfl) (qv 0) (qo_some (pe_op op_addK (qv 1) pe_int)) po_none)))), ?_⟩
  rename_i z p s
  obtain ⟨l, rfl⟩ : ∃ x, z = st x := ⟨_, (st_eta z).symm⟩
  obtain ⟨c, hc, h0, h1, h2, q⟩ := h
  obtain rfl : s = st [c] := by rw [← hc, st_eta]
  simp only [st_cps] at h1 h2 q
  walk_at "rd"
  refine ⟨by omega, by omega, by omega, by simp; omega, by omega, by omega, by omega, by simp; omega, ?_⟩
  have e : l.take p.toNat ++ [c] ++ l.drop (p + 1).toNat = l.set p.toNat c := by
    rw [List.set_eq_take_append_cons_drop, if_pos (by omega), show (p + 1).toNat = p.toNat + 1 by omega]
    simp
  rw [e]
  exact q
abbrev pl (i : Nat) : V := V.int i
def narrow (r : List Nat) (ps : List Nat) : List Nat := ps.map fun i => r.getD i 0
theorem flat_one {α β : Type} (f : α → β) (l : List α) : (l.flatMap fun x => [f x]) = l.map f := by
  induction l with
  | nil => rfl
  | cons x l ih => rw [List.flatMap_cons, ih]; rfl
theorem at_nat {α : Type} {l : List α} {i : Nat} (h : i < l.length) : atI l (i : Int) = some l[i] := by
  have e : ixN l.length (i : Int) = some i := by
    unfold ixN
    simp
    omega
  show ((ixN l.length (i : Int)).bind fun j => l[j]?) = some l[i]
  rw [e]
  exact List.getElem?_eq_getElem h
def sp_row_narrowed (K : PySem.W.Frag) : Sp := fun vs H Q _ => match vs with
  | [.str a, .ref p] => ∃ ps : List Nat, SqL K H p (ps.map pl) ∧ (∀ i ∈ ps, i < a.cps.toList.length) ∧ a.cps.toList.length ≤ 1000 ∧ ps.length ≤ 1000 ∧ ∀ H', Same H H' → Q (.str (st (narrow a.cps.toList ps))) H'
  | _ => False
theorem ok_row_narrowed (T : Top K mg) : Callee P w K mg base 1 "row_narrowed" ["row", "places"] (sp_row_narrowed K) := by
  refine T.f_row_narrowed.cal sc_row_narrowed (by intro vs H Q E h; unfold sp_row_narrowed at h; split at h <;> first | rfl | exact h.elim) (fun _ _ _ _ _ _ us hl => match us, hl with | [_, _], _ => rfl) (fun f cdv A outer s H vs Q E hr h => ?_)
  unfold sp_row_narrowed at h
  split at h
  case h_2 => exact h.elim
  refine ⟨_, (pss_one (ps_ret (joinE K rfl (qe_comp (nt := 1) (fi := [0]) (N' := ["place", "row"]) rfl (cscope rfl (by decide +kernel)) (cnames (N := ["row", "places"]) (sc := defScope s_row_narrowed) rfl rfl (by decide +kernel)) (gk_name (by decide)) (iterE K rfl (qv 1)) (fun _ _ _ _ _ => (pg_name (i := 0) (by show (["place", "row"] : List Str).Nodup; decide +kernel) rfl (by first | exact Or.inl rfl | exact Or.inr rfl))) (fun _ _ _ _ _ => pif_nil) (fun _ _ _ _ _ => (pe_ix (ixE K rfl) (qv 1) (qv 0) (fun _ _ => rfl))))))), ?_⟩
  rename_i a p
  obtain ⟨r, rfl⟩ : ∃ x, a = st x := ⟨_, (st_eta a).symm⟩
  obtain ⟨ps, h1, h2, h3, h4, q⟩ := h
  simp only [st_cps] at h2 h3 q
  walk_at "rd"
  refine .inl ⟨⟨_, h1⟩, fun D hD => ?_⟩
  refine comp_list (item := pl) (xs := ps) (h := fun i => [V.str (st [r.getD i 0])]) hD h1 (by omega) (fun _ => by simp) ?_ ?_
  · intro i H1 out non hi s1 ho hn
    have hi' := h2 i hi
    walk_at "rd"
    refine ⟨by omega, _, at_nat hi', ho _ _ (by simp [hi']) (Same.refl _)⟩
  · intro H1 s1 e1
    rw [flat_one (fun i => V.str (st [r.getD i 0])) ps] at e1
    exact ⟨narrow r ps, SqL.of (by rw [e1]; simp [narrow]), by simp [narrow]; omega, q H1 s1⟩
def sp_heap_width (K : PySem.W.Frag) : Sp := fun vs H Q _ => match vs with
  | [.ref p] => ∃ hs : List (List Nat), SqL K H p (hs.map tx) ∧ (∀ r ∈ hs, r.length ≤ 1000) ∧ ∀ H', Same H H' → Q (.int (hs.headD []).length) H'
  | _ => False
theorem ok_heap_width (T : Top K mg) : Callee P w K mg base 1 "heap_width" ["heap"] (sp_heap_width K) := by
  refine T.f_heap_width.cal sc_heap_width (by intro vs H Q E h; unfold sp_heap_width at h; split at h <;> first | rfl | exact h.elim) (fun _ _ _ _ _ _ us hl => match us, hl with | [_], _ => rfl) (fun f cdv A outer s H vs Q E hr h => ?_)
  unfold sp_heap_width at h
  split at h
  case h_2 => exact h.elim
  refine ⟨_, (pss_one (ps_ret (pe_ifExp (qt_cmp (eqNilE K rfl (hu1 hr)) (qv 0) (pe_lst pa_nil)) pe_int (pe_callB (lenE K rfl) rfl T.b_len bb_len (pa_cons (pe_ix (ixE K rfl) (qv 0) pe_int (fun _ _ => rfl)) pa_nil))))), ?_⟩
  rename_i p
  obtain ⟨hs, h1, h2, q⟩ := h
  walk_at "rd"
  refine ⟨by decide, fun z hz => ⟨_, (same_new hz _).seq h1, SqL.of upd_same, ?_⟩⟩
  cases hs with
  | nil => exact q _ (same_new hz _)
  | cons r hs =>
    refine ⟨_, _, .inl ((same_new hz _).seq h1), at_nat (i := 0) (by simp), ?_⟩
    have := h2 r List.mem_cons_self
    walk_at "rd"
    exact ⟨show r.length ≤ 100000 by omega, q _ (same_new hz _)⟩
/-- some row tells the place -/
def told (hs : List (List Nat)) (i : Nat) : Bool := hs.any fun r => r.getD i 0 != 45
def placesL (hs : List (List Nat)) (w : Nat) : List Nat := (List.range w).filter (told hs)
def sp_heap_places (K : PySem.W.Frag) : Sp := fun vs H Q _ => match vs with
  | [.ref p] => ∃ (hs : List (List Nat)) (w : Nat), SqL K H p (hs.map tx) ∧ (∀ r ∈ hs, r.length = w) ∧ w ≤ 1000 ∧ hs.length ≤ 1000 ∧ ∀ q H', H q = none → Same H H' → H' q = some (.lst ((placesL hs (hs.headD []).length).map pl)) → Q (.ref q) H'
  | _ => False
theorem ok_heap_places (T : Top K mg) : Callee P w K mg base 2 "heap_places" ["heap"] (sp_heap_places K) := by
  refine T.f_heap_places.cal sc_heap_places (by intro vs H Q E h; unfold sp_heap_places at h; split at h <;> first | rfl | exact h.elim) (fun _ _ _ _ _ _ us hl => match us, hl with | [_], _ => rfl) (fun f cdv A outer s H vs Q E hr h => ?_)
  unfold sp_heap_places at h
  split at h
  case h_2 => exact h.elim
  refine ⟨_, (pss_cons (ps_set (i := 1) sc_heap_places.nd rfl (by first | exact Or.inl rfl | exact Or.inr rfl) (pe_lst pa_nil))
      (pss_cons (qs_for PassesOwn.never rfl (qi_range1 rfl T.b_range (pe_fn (ok_heap_width T) (hr.mono (by first | decide | omega)) rfl (pa_cons (qv 0) pa_nil))) (pg_name (i := 2) sc_heap_places.nd rfl (by first | exact Or.inl rfl | exact Or.inr rfl)) (pss_one (ps_if (qt_val (pe_callB (call_anyK K rfl rfl) rfl T.b_any bb_any (pa_cons (qe_comp (nt := 1) (fi := [2]) (N' := ["row", "place"]) rfl (cscope rfl (by decide +kernel)) (cnames (N := ["heap", "places", "place"]) (sc := defScope s_heap_places) rfl rfl (by decide +kernel)) (gk_name (by decide)) (iterE K rfl (qv 0)) (fun _ _ _ _ _ => (pg_name (i := 0) (by show (["row", "place"] : List Str).Nodup; decide +kernel) rfl (by first | exact Or.inl rfl | exact Or.inr rfl))) (fun _ _ _ _ _ => pif_nil) (fun _ _ _ _ _ => (qe_cmp op_neK (pe_ix (ixE K rfl) (qv 0) (qv 1) (fun _ _ => rfl)) (qs [45])))) pa_nil))) (pss_one (ps_expr (qe_append (qv 1) (qv 2)))) pss_nil)))
      (pss_one (ps_ret (qv 1))))), ?_⟩
  rename_i p
  obtain ⟨hs, w, h1, h2, h3, h4, q⟩ := h
  walk_at "rd"
  have hw : ∀ r ∈ hs, r.length ≤ 1000 := fun r hr => by rw [h2 r hr]; exact h3
  have hh : (hs.headD []).length ≤ 1000 := by
    cases hs with
    | nil => simp
    | cons r hs => exact hw r List.mem_cons_self
  refine ⟨by decide, fun g hg => ⟨hs, (same_new hg _).seq h1, hw, fun H0 s0 => ⟨by omega, by omega, ?_⟩⟩⟩
  refine loop_range (fun i σ H' => ∃ u, σ = [some (.ref p), some (.ref g), u] ∧ (∀ b o, H b = some o → H' b = some o) ∧ H' g = some (.lst ((placesL hs i).map pl))) ⟨none, rfl, fun b o e => s0 b o (same_new hg _ b o e), s0 _ _ upd_same⟩ ?_ ?_
  · rintro i σ H1 hi ⟨u, rfl, s1, e1⟩
    walk_at "rd"
    have hS1 : SqL K H1 p (hs.map tx) := Same.seq s1 h1
    have hi' : ∀ r ∈ hs, i < r.length := fun r hr => by
      cases hs with
      | nil => cases hr
      | cons r0 hs =>
        have a := h2 r0 List.mem_cons_self
        have b := h2 r hr
        have c : i < r0.length := hi
        omega
    refine .inl ⟨⟨_, hS1⟩, fun D hD => ?_⟩
    refine comp_list (item := tx) (xs := hs) (h := fun r => [V.bl (r.getD i 0 != 45)]) hD hS1 (by omega) (fun _ => by simp) ?_ ?_
    · intro r H2 out non hr' s2 ho hn
      have hir := hi' r hr'
      have hlr := hw r hr'
      walk_at "rd"
      refine ⟨by omega, _, at_nat hir, ho _ _ ?_ (Same.refl _)⟩
      rw [List.getD_eq_getElem?_getD, List.getElem?_eq_getElem hir, Option.getD_some]
      simp only [bne]
      congr 3
    · intro H2 s2 e2
      rw [flat_one (fun r : List Nat => V.bl (r.getD i 0 != 45)) hs] at e2
      walk_at "rd"
      refine ⟨hs.map fun r => r.getD i 0 != 45, SqL.of (by rw [e2]; simp), ?_⟩
      have et : (hs.map fun r => r.getD i 0 != 45).any id = told hs i := by unfold told; rw [List.any_map]; rfl
      rw [et]
      have e3 := s2 _ _ e1
      have ep : placesL hs (i + 1) = placesL hs i ++ (if told hs i = true then [i] else []) := by
        unfold placesL
        rw [List.range_succ, List.filter_append]
        simp [List.filter]
        split <;> simp_all
      show if told hs i = true then _ else _
      refine ite2 (fun ht => ?_) fun ht => ?_
      · refine ⟨⟨_, e3⟩, _, e3, ?_, _, rfl, fun b o e => ?_, ?_⟩
        · have a : (placesL hs i).length ≤ i := by
            have := List.length_filter_le (told hs) (List.range i)
            simpa [placesL] using this
          have b : i < 1000 := by omega
          rw [List.length_map]
          exact small1000 (by omega)
        · rw [upd_ne (ne_of_none e hg)]
          exact s2 _ _ (s1 _ _ e)
        · rw [upd_same, ep, if_pos ht, List.map_append]
          rfl
      · refine ⟨_, rfl, fun b o e => s2 _ _ (s1 _ _ e), ?_⟩
        rw [e3, ep, if_neg ht, List.append_nil]
  · rintro σ H1 ⟨u, rfl, s1, e1⟩
    walk_at "rd"
    exact q g H1 hg s1 e1
def dashes (n : Nat) : List Nat := List.replicate n 45
abbrev Tr := List Nat × Bool × Bool
/-- a triple of a text and two truths stands at v -/
def TripAt (K : PySem.W.Frag) (x : Tr) (v : V) (H : Hp) : Prop := ∃ a, v = .ref a ∧ SqT K H a [tx x.1, .bl x.2.1, .bl x.2.2]
def Trips (K : PySem.W.Frag) (H : Hp) (p : Addr) (xs : List Tr) : Prop := ∃ vs, H p = some (.lst vs) ∧ Paired (fun x v => TripAt K x v H) xs vs
theorem seqT_same {H H' : Hp} (s : Same H H') {a : Addr} {vs : List V} (r : SqT K H a vs) : SqT K H' a vs := by
  rcases r with (r | ⟨o, r⟩) | r
  · exact .inl (.inl (s _ _ r))
  · exact .inl (.inr ⟨o, s _ _ r⟩)
  · exact .inr r
theorem TripAt.same {H H' : Hp} (s : Same H H') {x : Tr} {v : V} (r : TripAt K x v H) : TripAt K x v H' := by
  obtain ⟨a, e, r⟩ := r
  exact ⟨a, e, seqT_same s r⟩
theorem Trips.same {H H' : Hp} (s : Same H H') {p : Addr} {xs : List Tr} (r : Trips K H p xs) : Trips K H' p xs := by
  obtain ⟨vs, h, pr⟩ := r
  exact ⟨vs, s _ _ h, L2.Paired.mapP pr fun _ _ q => q.same s⟩
theorem paired_mem {α β : Type} {F : α → β → Prop} : ∀ {l : List α} {m : List β}, Paired F l m → ∀ q ∈ l.zip m, F q.1 q.2
  | _, _, .nil, q, h => by simp at h
  | _, _, .cons p r, q, h => by
    rw [List.zip_cons_cons] at h
    rcases List.mem_cons.mp h with rfl | h
    · exact p
    · exact paired_mem r q h
theorem paired_zip {α β γ : Type} {F : α → γ → Prop} : ∀ {l : List α} {m : List β} {n : List γ}, l.length = m.length → Paired (fun (q : α × β) c => F q.1 c) (l.zip m) n → Paired F l n
  | [], [], _, _, h => by cases h; exact .nil
  | a :: l, b :: m, _, e, h => by
    rw [List.zip_cons_cons] at h
    cases h with
    | cons r t => exact .cons r (paired_zip (by simpa using e) t)
theorem paired_mapL {α β γ : Type} {F : γ → β → Prop} {f : α → γ} : ∀ {l : List α} {m : List β}, Paired (fun a b => F (f a) b) l m → Paired F (l.map f) m
  | _, _, .nil => .nil
  | _, _, .cons r t => .cons r (paired_mapL t)
theorem paired_app {α β : Type} {F : α → β → Prop} : ∀ {l : List α} {m : List β} {l' : List α} {m' : List β}, Paired F l m → Paired F l' m' → Paired F (l ++ l') (m ++ m')
  | _, _, _, _, .nil, h => h
  | _, _, _, _, .cons r t, h => .cons r (paired_app t h)
abbrev sg (c : Nat) : V := V.str (st [c])
/-- all letters in rows apart, each told with whether it lies in the one and in the other -/
def headLen (hs : List (List Nat)) : Nat := (hs.headD []).length
theorem headLen_n {hs : List (List Nat)} {n : Nat} (h : ∀ r ∈ hs, r.length = n) {r : List Nat} (hr : r ∈ hs) : headLen hs = n := by
  cases hs with
  | nil => cases hr
  | cons r0 hs => exact h r0 List.mem_cons_self
theorem places_lt {hs : List (List Nat)} {w i : Nat} (h : i ∈ placesL hs w) : i < w := by
  simpa using (List.mem_filter.mp h).1
def choicesL : Nat → List (List Nat)
  | 0 => [[]]
  | n + 1 => (choicesL n).map (fun c => c ++ [48]) ++ (choicesL n).map fun c => c ++ [49]
theorem choicesL_len : ∀ n, (choicesL n).length = 2 ^ n
  | 0 => rfl
  | n + 1 => by
    rw [choicesL, List.length_append, List.length_map, List.length_map, choicesL_len n, Nat.pow_succ]
    omega
theorem choicesL_width : ∀ n, ∀ c ∈ choicesL n, c.length = n
  | 0, c, h => by rw [List.mem_singleton.mp h]; rfl
  | n + 1, c, h => by
    rw [choicesL] at h
    rcases List.mem_append.mp h with h | h
    · obtain ⟨d, hd, rfl⟩ := List.mem_map.mp h
      simp [choicesL_width n d hd]
    · obtain ⟨d, hd, rfl⟩ := List.mem_map.mp h
      simp [choicesL_width n d hd]
def sp__law_choices (K : PySem.W.Frag) : Sp := fun vs H Q _ => match vs with
  | [.int m] => ∃ n : Nat, m = (n : Int) ∧ n ≤ 12 ∧ ∀ q H', H q = none → Same H H' → H' q = some (.lst ((choicesL n).map tx)) → Q (.ref q) H'
  | _ => False
theorem ok__law_choices (T : Top K mg) : Callee P w K mg base 1 "_law_choices" ["_law_many"] (sp__law_choices K) := by
  refine T.f__law_choices.cal sc__law_choices (by intro vs H Q E h; unfold sp__law_choices at h; split at h <;> first | rfl | exact h.elim) (fun _ _ _ _ _ _ us hl => match us, hl with | [_], _ => rfl) (fun f cdv A outer s H vs Q E hr h => ?_)
  unfold sp__law_choices at h
  split at h
  case h_2 => exact h.elim
  refine ⟨_, (pss_cons (ps_set (i := 1) sc__law_choices.nd rfl (by first | exact Or.inl rfl | exact Or.inr rfl) (pe_lst (pa_cons (qs []) pa_nil)))
      (pss_cons (qs_for PassesOwn.never rfl (qi_range1 rfl T.b_range (qv 0)) (pg_name (i := 2) sc__law_choices.nd rfl (by first | exact Or.inl rfl | exact Or.inr rfl)) (pss_one (ps_set (i := 1) sc__law_choices.nd rfl (by first | exact Or.inl rfl | exact Or.inr rfl) (pe_op op_addK (qe_comp (nt := 1) (fi := []) (N' := ["_law_one"]) rfl (cscope rfl (by decide +kernel)) (cnames (N := ["_law_many", "_law_found", "_law_k"]) (sc := defScope s__law_choices) rfl rfl (by decide +kernel)) (gk_name (by decide)) (iterE K rfl (qv 1)) (fun _ _ _ _ _ => (pg_name (i := 0) (by show (["_law_one"] : List Str).Nodup; decide +kernel) rfl (by first | exact Or.inl rfl | exact Or.inr rfl))) (fun _ _ _ _ _ => pif_nil) (fun _ _ _ _ _ => (pe_op op_addK (qv 0) (qs [48])))) (qe_comp (nt := 1) (fi := []) (N' := ["_law_one"]) rfl (cscope rfl (by decide +kernel)) (cnames (N := ["_law_many", "_law_found", "_law_k"]) (sc := defScope s__law_choices) rfl rfl (by decide +kernel)) (gk_name (by decide)) (iterE K rfl (qv 1)) (fun _ _ _ _ _ => (pg_name (i := 0) (by show (["_law_one"] : List Str).Nodup; decide +kernel) rfl (by first | exact Or.inl rfl | exact Or.inr rfl))) (fun _ _ _ _ _ => pif_nil) (fun _ _ _ _ _ => (pe_op op_addK (qv 0) (qs [49]))))))))
      (pss_one (ps_ret (qv 1))))), ?_⟩
  rename_i m
  obtain ⟨n, rfl, hn, q⟩ := h
  walk_at "rd"
  refine ⟨by decide, fun z hz => ⟨by omega, by omega, ?_⟩⟩
  refine loop_range (fun i σ H' => ∃ a u, σ = [some (.int n), some (.ref a), u] ∧ Same H H' ∧ H a = none ∧ H' a = some (.lst ((choicesL i).map tx))) ⟨z, none, rfl, same_new hz _, hz, upd_same⟩ ?_ ?_
  · rintro i σ H1 hi ⟨a, u, rfl, s1, ha, e1⟩
    have hi' : i < n := by simpa using hi
    have hl := choicesL_len i
    have hp : 2 ^ i ≤ 2 ^ 12 := Nat.pow_le_pow_right (by decide) (by omega)
    have hw := choicesL_width i
    walk_at "rd"
    refine .inl ⟨⟨_, SqL.of e1⟩, fun D hD => ?_⟩
    refine comp_list (item := tx) (xs := choicesL i) (h := fun c => [tx (c ++ [48])]) hD (SqL.of e1) (by omega) (fun _ => by simp) ?_ ?_
    · intro c H2 out non hc s2 ho hn
      have := hw c hc
      walk_at "rd"
      exact ⟨by omega, ho _ _ rfl (Same.refl _)⟩
    intro H2 s2 e2
    rw [flat_one (fun c : List Nat => tx (c ++ [48])) (choicesL i)] at e2
    have e12 := s2 _ _ e1
    refine .inl ⟨⟨_, SqL.of e12⟩, fun D2 hD2 => ?_⟩
    refine comp_list (item := tx) (xs := choicesL i) (h := fun c => [tx (c ++ [49])]) hD2 (SqL.of e12) (by omega) (fun _ => by simp) ?_ ?_
    · intro c H3 out non hc s3 ho hn
      have := hw c hc
      walk_at "rd"
      exact ⟨by omega, ho _ _ rfl (Same.refl _)⟩
    intro H3 s3 e3
    rw [flat_one (fun c : List Nat => tx (c ++ [49])) (choicesL i)] at e3
    walk_at "rd"
    refine ⟨_, _, s3 _ _ e2, e3, by rw [List.length_map, List.length_map, sizeLine_eq]; omega, fun r hr => ⟨r, some (.int i), rfl, ?_, ?_, ?_⟩⟩
    · exact (s1.trans (s2.trans s3)).trans (same_new hr _)
    · exact (s1.trans (s2.trans s3)).free hr
    · rw [upd_same, choicesL, List.map_append, List.map_map, List.map_map]
      rfl
  · rintro σ H1 ⟨a, u, rfl, s1, ha, e1⟩
    walk_at "rd"
    rw [Int.toNat_natCast] at e1
    exact q a H1 ha s1 e1
theorem within_cons (c d : Nat) (x r : List Nat) : within (c :: x) (d :: r) = ((d == 45 || d == c) && within x r) := by
  unfold within
  rw [List.zip_cons_cons, List.all_cons]
theorem within_dashes : ∀ (n : Nat) (x : List Nat), within x (dashes n) = true
  | 0, x => by
    unfold within dashes
    simp
  | n + 1, [] => by simp [within]
  | n + 1, c :: x => by
    show within (c :: x) (45 :: dashes n) = true
    rw [within_cons, within_dashes n x]
    rfl
/-! how many letters: places left out double the count -/
/-- a place at which the row stands for the letter -/
def fitAt (x r : List Nat) (i : Nat) : Bool := r.getD i 0 == 45 || r.getD i 0 == x.getD i 0
theorem within_all : ∀ (W : Nat) (x r : List Nat), x.length = W → r.length = W → within x r = (List.range W).all (fitAt x r)
  | 0, x, r, h1, h2 => by
    rw [List.length_eq_zero_iff.mp h1]
    rfl
  | W + 1, c :: x, d :: r, h1, h2 => by
    rw [within_cons, within_all W x r (by simpa using h1) (by simpa using h2), List.range_succ_eq_map, List.all_cons, List.all_map]
    rfl
theorem within_narrow (x r ps : List Nat) : within (narrow x ps) (narrow r ps) = ps.all (fitAt x r) := by
  unfold within narrow
  induction ps with
  | nil => rfl
  | cons p ps ih =>
    rw [List.map_cons, List.map_cons, List.zip_cons_cons, List.all_cons, ih]
    rfl
theorem places_sorted (hs : List (List Nat)) (W : Nat) : (placesL hs W).Pairwise (· < ·) := List.Pairwise.filter _ List.pairwise_lt_range
theorem choices_let : ∀ n, ∀ c ∈ choicesL n, IsLet c
  | 0, c, h => by rw [List.mem_singleton.mp h]; intro k hk; cases hk
  | n + 1, c, h => by
    rw [choicesL] at h
    rcases List.mem_append.mp h with h | h
    all_goals
      obtain ⟨d, hd, rfl⟩ := List.mem_map.mp h
      intro k hk
      rcases List.mem_append.mp hk with hk | hk
      · exact choices_let n d hd k hk
      · rw [List.mem_singleton.mp hk]
        simp
/-! what the parts of a split are: rows apart, each with its truths -/
theorem okL_cons (a b : Nat) (x y : List Nat) : okL (a :: x) (b :: y) = (okS a b && okL x y) := by
  unfold okL
  rw [List.zip_cons_cons, List.all_cons]
theorem okL_all : ∀ (W : Nat) (x y : List Nat), x.length = W → y.length = W → okL x y = (List.range W).all fun i => okS (x.getD i 0) (y.getD i 0)
  | 0, x, y, h1, h2 => by
    rw [List.length_eq_zero_iff.mp h1]
    rfl
  | W + 1, c :: x, d :: y, h1, h2 => by
    rw [okL_cons, okL_all W x y (by simpa using h1) (by simpa using h2), List.range_succ_eq_map, List.all_cons, List.all_map]
    rfl
theorem in_signs (c : Nat) (l : List Nat) : inV (V.str (st [c])) (l.map fun c => V.str (st [c])) = decide (c ∈ l) := by
  unfold inV
  induction l with
  | nil => simp
  | cons d l ih =>
    rw [List.map_cons, List.any_cons, ih]
    simp only [eqV, List.mem_cons]
    by_cases h : c = d
    · subst h; simp
    · have h2 : ¬ d = c := fun z => h z.symm
      simp [h, h2]
/-! ### shares: which of the rows comes first -/
abbrev Pr := List Nat × Nat
/-- the first number counts for alike rows, nothing behind a row of all letters -/
def firstsL (w : Nat) : List Pr → List Pr → List Pr
  | acc, [] => acc
  | acc, p :: r => if p.1 = dashes w then (if p.1 ∈ acc.map Prod.fst then acc else acc ++ [p]) else firstsL w (if p.1 ∈ acc.map Prod.fst then acc else acc ++ [p]) r
def sideP (fs : List Pr) (c : Nat) : List Pr := (fs.filter fun p => decide (p.1.headD 0 = c) || decide (p.1.headD 0 = 45)).map fun p => (p.1.tail, p.2)
def sideF (fs : List Pr) (c n : Nat) : List Pr := firstsL n [] (sideP fs c)
def numOf (fs : List Pr) (s : List Nat) : Nat := ((fs.find? fun p => decide (p.1 = s)).map Prod.snd).getD 0
/-- the number of the first row in which the letter lies -/
def firstN (fs : List Pr) (y : List Nat) : Option Nat := (fs.find? fun p => within y p.1).map Prod.snd
/-- rows of so many signs, each once, the last one with all letters -/
def GoodF (n : Nat) (fs : List Pr) : Prop := (∀ p ∈ fs, p.1.length = n) ∧ (fs.map Prod.fst).Nodup ∧ ∃ pre k, fs = pre ++ [(dashes n, k)]
theorem firstN_app (a b : List Pr) (y : List Nat) : firstN (a ++ b) y = (firstN a y).or (firstN b y) := by
  unfold firstN
  rw [List.find?_append]
  cases a.find? fun p => within y p.1 <;> rfl
theorem firstN_in {acc : List Pr} {p : Pr} {y : List Nat} (h : p.1 ∈ acc.map Prod.fst) (hw : within y p.1 = true) : ∃ k, firstN acc y = some k := by
  obtain ⟨q, hq, e⟩ := List.mem_map.mp h
  cases hf : acc.find? fun p => within y p.1 with
  | some z => exact ⟨z.2, by unfold firstN; rw [hf]; rfl⟩
  | none =>
    have := List.find?_eq_none.mp hf q hq
    rw [e, hw] at this
    exact absurd rfl this
theorem firsts_first (w : Nat) (y : List Nat) : ∀ (pairs acc : List Pr), firstN (firstsL w acc pairs) y = firstN (acc ++ pairs) y
  | [], acc => by rw [firstsL, List.append_nil]
  | p :: r, acc => by
    have step : firstN ((if p.1 ∈ acc.map Prod.fst then acc else acc ++ [p]) ++ r) y = firstN (acc ++ p :: r) y := by
      split
      · rename_i hm
        rw [firstN_app, firstN_app]
        cases hw : within y p.1 with
        | true =>
          obtain ⟨k, hk⟩ := firstN_in hm hw
          rw [hk]
          rfl
        | false =>
          congr 1
          unfold firstN
          rw [List.find?_cons, hw]
      · rw [List.append_assoc]
        rfl
    rw [firstsL]
    split
    · rename_i hd
      rw [← step, firstN_app]
      have hw : within y p.1 = true := by rw [hd]; exact within_dashes w y
      have : ∃ k, firstN (if p.1 ∈ acc.map Prod.fst then acc else acc ++ [p]) y = some k := by
        split
        · rename_i hm
          exact firstN_in hm hw
        · exact firstN_in (p := p) (by simp) hw
      obtain ⟨k, hk⟩ := this
      rw [hk]
      rfl
    · rw [firsts_first w y r, step]
theorem firsts_good (w : Nat) : ∀ (pairs acc : List Pr), (∀ p ∈ pairs, p.1.length = w) → (∀ p ∈ acc, p.1.length = w) → (acc.map Prod.fst).Nodup → dashes w ∉ acc.map Prod.fst → dashes w ∈ pairs.map Prod.fst → GoodF w (firstsL w acc pairs)
  | [], acc, _, _, _, _, h => by cases h
  | p :: r, acc, hp, ha, nd, hn, hm => by
    rw [firstsL]
    split
    · rename_i hd
      have hno : p.1 ∉ acc.map Prod.fst := by rw [hd]; exact hn
      rw [if_neg hno]
      refine ⟨fun q hq => ?_, ?_, acc, p.2, by rw [← hd]⟩
      · rcases List.mem_append.mp hq with hq | hq
        · exact ha q hq
        · rw [List.mem_singleton.mp hq]
          exact hp p List.mem_cons_self
      · rw [List.map_append, List.nodup_append]
        exact ⟨nd, by simp, fun a h1 b h2 e => hno (by rw [List.map_cons, List.map_nil, List.mem_singleton] at h2; rw [← h2, ← e]; exact h1)⟩
    · rename_i hd
      have hm' : dashes w ∈ r.map Prod.fst := by
        rw [List.map_cons] at hm
        rcases List.mem_cons.mp hm with e | h
        · exact absurd e.symm hd
        · exact h
      have hr : ∀ q ∈ r, q.1.length = w := fun q hq => hp q (List.mem_cons_of_mem _ hq)
      split
      · exact firsts_good w r acc hr ha nd hn hm'
      · rename_i hno
        refine firsts_good w r _ hr (fun q hq => ?_) ?_ ?_ hm'
        · rcases List.mem_append.mp hq with hq | hq
          · exact ha q hq
          · rw [List.mem_singleton.mp hq]
            exact hp p List.mem_cons_self
        · rw [List.map_append, List.nodup_append]
          exact ⟨nd, by simp, fun a h1 b h2 e => hno (by rw [List.map_cons, List.map_nil, List.mem_singleton] at h2; rw [← h2, ← e]; exact h1)⟩
        · rw [List.map_append, List.mem_append]
          rintro (h | h)
          · exact hn h
          · rw [List.map_cons, List.map_nil, List.mem_singleton] at h
            exact hd h.symm
theorem side_first {fs : List Pr} {n : Nat} (w : ∀ p ∈ fs, p.1.length = n + 1) (c : Nat) (y : List Nat) : firstN fs (c :: y) = firstN (sideP fs c) y := by
  unfold firstN sideP
  induction fs with
  | nil => rfl
  | cons p fs ih =>
    obtain ⟨s, k⟩ := p
    cases s with
    | nil => have := w _ List.mem_cons_self; simp at this
    | cons d s =>
      have ih := ih fun q hq => w q (List.mem_cons_of_mem _ hq)
      rw [List.find?_cons, List.filter_cons]
      show (match within (c :: y) (d :: s) with | true => some ((d :: s, k) : Pr) | false => _).map Prod.snd = _
      rw [within_cons]
      by_cases h : d = c ∨ d = 45
      · have e1 : (d == 45 || d == c) = true := by rcases h with h | h <;> simp [h]
        have e2 : (decide ((d :: s).headD 0 = c) || decide ((d :: s).headD 0 = 45)) = true := by
          show (decide (d = c) || decide (d = 45)) = true
          rcases h with h | h <;> simp [h]
        rw [e1, Bool.true_and]
        dsimp only
        rw [if_pos e2, List.map_cons, List.find?_cons]
        show _ = Option.map Prod.snd (match within y s with | true => some ((s, k) : Pr) | false => _)
        cases within y s with
        | true => rfl
        | false => exact ih
      · have e1 : (d == 45 || d == c) = false := by
          rw [Bool.or_eq_false_iff, beq_eq_false_iff_ne, beq_eq_false_iff_ne]
          exact ⟨fun z => h (.inr z), fun z => h (.inl z)⟩
        have e2 : ¬ (decide ((d :: s).headD 0 = c) || decide ((d :: s).headD 0 = 45)) = true := by
          show ¬ (decide (d = c) || decide (d = 45)) = true
          rw [Bool.or_eq_true, decide_eq_true_eq, decide_eq_true_eq]
          exact h
        rw [e1, Bool.false_and]
        dsimp only
        rw [if_neg e2]
        exact ih
theorem side_good {fs : List Pr} {n : Nat} (h : GoodF (n + 1) fs) (c : Nat) : GoodF n (sideF fs c n) := by
  obtain ⟨w, _, pre, k, e⟩ := h
  unfold sideF
  refine firsts_good n _ [] (fun p hp => ?_) (fun p hp => by cases hp) (by simp) (by simp) ?_
  · obtain ⟨q, hq, rfl⟩ := List.mem_map.mp hp
    have := w q (List.mem_filter.mp hq).1
    simp only [List.length_tail]
    omega
  · refine List.mem_map.mpr ⟨(dashes n, k), List.mem_map.mpr ⟨(dashes (n + 1), k), List.mem_filter.mpr ⟨?_, ?_⟩, rfl⟩, rfl⟩
    · rw [e]
      simp
    · show (decide ((45 : Nat) = c) || decide ((45 : Nat) = 45)) = true
      simp
theorem good_one {fs : List Pr} {n : Nat} (h : GoodF n fs) (hl : fs.length = 1) : ∃ k, fs = [(dashes n, k)] := by
  obtain ⟨_, _, pre, k, e⟩ := h
  rw [e, List.length_append, List.length_singleton] at hl
  have : pre = [] := List.length_eq_zero_iff.mp (by omega)
  exact ⟨k, by rw [e, this]; rfl⟩
theorem good_zero {fs : List Pr} (h : GoodF 0 fs) : ∃ k, fs = [([], k)] := by
  obtain ⟨w, nd, pre, k, e⟩ := id h
  refine ⟨k, ?_⟩
  cases pre with
  | nil => exact e
  | cons p pre =>
    exfalso
    rw [e, List.cons_append, List.map_cons, List.nodup_cons] at nd
    have h1 := List.length_eq_zero_iff.mp (w p (by rw [e]; exact List.mem_cons_self))
    exact nd.1 (by rw [h1]; simp [dashes])
/-! ### forks -/
def AscF (fs : List Pr) : Prop := fs.Pairwise fun p q => p.2 < q.2
theorem firsts_asc (w : Nat) : ∀ (pairs acc : List Pr), AscF acc → AscF pairs → (∀ a ∈ acc, ∀ p ∈ pairs, a.2 < p.2) → AscF (firstsL w acc pairs)
  | [], acc, h, _, _ => h
  | p :: r, acc, h, h2, h3 => by
    have hp := List.pairwise_cons.mp h2
    have step : AscF (if p.1 ∈ acc.map Prod.fst then acc else acc ++ [p]) ∧ ∀ a ∈ (if p.1 ∈ acc.map Prod.fst then acc else acc ++ [p]), ∀ q ∈ r, a.2 < q.2 := by
      split
      · exact ⟨h, fun a ha q hq => h3 a ha q (List.mem_cons_of_mem _ hq)⟩
      · refine ⟨List.pairwise_append.mpr ⟨h, List.pairwise_singleton _ _, fun a ha b hb => ?_⟩, fun a ha q hq => ?_⟩
        · rw [List.mem_singleton.mp hb]
          exact h3 a ha p List.mem_cons_self
        · rcases List.mem_append.mp ha with ha | ha
          · exact h3 a ha q (List.mem_cons_of_mem _ hq)
          · rw [List.mem_singleton.mp ha]
            exact hp.1 q hq
    rw [firstsL]
    split
    · exact step.1
    · exact firsts_asc w r _ step.1 hp.2 step.2
theorem side_asc {fs : List Pr} (h : AscF fs) (c n : Nat) : AscF (sideF fs c n) := by
  refine firsts_asc n _ [] List.Pairwise.nil ?_ (fun a ha => by cases ha)
  unfold sideP AscF
  rw [List.pairwise_map]
  exact List.Pairwise.filter _ h
theorem asc_sub : ∀ (b a : List Pr), AscF a → AscF b → (∀ x ∈ a, x ∈ b) → List.Sublist a b
  | [], a, _, _, h => by
    cases a with
    | nil => exact List.Sublist.refl _
    | cons x a => exact absurd (h x List.mem_cons_self) List.not_mem_nil
  | y :: b, [], _, _, _ => List.nil_sublist _
  | y :: b, x :: a, ha, hb, h => by
    have ha' := List.pairwise_cons.mp ha
    have hb' := List.pairwise_cons.mp hb
    by_cases e : x = y
    · subst e
      refine List.Sublist.cons₂ _ (asc_sub b a ha'.2 hb'.2 fun z hz => ?_)
      rcases List.mem_cons.mp (h z (List.mem_cons_of_mem _ hz)) with e | e
      · have := ha'.1 z hz
        rw [e] at this
        exact absurd this (Nat.lt_irrefl _)
      · exact e
    · refine List.Sublist.cons _ (asc_sub b (x :: a) ha hb'.2 fun z hz => ?_)
      rcases List.mem_cons.mp (h z hz) with q | q
      · exfalso
        have hx : x ∈ b := (List.mem_cons.mp (h x List.mem_cons_self)).resolve_left e
        have h1 := hb'.1 x hx
        rcases List.mem_cons.mp hz with z1 | z1
        · exact e (z1.symm.trans q)
        · have h2 := ha'.1 z z1
          rw [q] at h2
          omega
      · exact q
theorem same_firsts {a b : List Pr} (ha : AscF a) (hb : AscF b) (hl : a.length = b.length) (h : ∀ x ∈ a, x ∈ b) : a = b := (asc_sub b a ha hb h).eq_of_length hl
inductive Fork where
  | leaf (n : Nat)
  | ask (p : Nat) (no yes : Fork)
def eqK : Fork → Fork → Bool
  | .leaf n, .leaf m => n == m
  | .ask p a b, .ask q c d => p == q && (eqK a c && eqK b d)
  | .leaf _, .ask _ _ _ => false
  | .ask _ _ _, .leaf _ => false
theorem eqK_refl : ∀ a, eqK a a = true
  | .leaf n => by simp [eqK]
  | .ask p a b => by simp [eqK, eqK_refl a, eqK_refl b]
theorem eqK_eq : ∀ {a b}, eqK a b = true → a = b
  | .leaf n, .leaf m, h => by
    have : n = m := by simpa [eqK] using h
    rw [this]
  | .ask p a b, .ask q c d, h => by
    simp only [eqK, Bool.and_eq_true, beq_iff_eq] at h
    rw [h.1, eqK_eq h.2.1, eqK_eq h.2.2]
  | .leaf _, .ask _ _ _, h => by simp [eqK] at h
  | .ask _ _ _, .leaf _, h => by simp [eqK] at h
def joinK (p : Nat) (a b : Fork) : Fork := if eqK a b = true then a else .ask p a b
def forkL : List Nat → List Pr → Fork
  | [], fs => .leaf (numOf fs [])
  | p :: ps, fs => if fs.length = 1 then .leaf (numOf fs (dashes (ps.length + 1))) else joinK p (forkL ps (sideF fs 48 ps.length)) (forkL ps (sideF fs 49 ps.length))
def evalF : Fork → List Nat → Nat
  | .leaf n, _ => n
  | .ask p a b, y => if y.getD p 0 = 48 then evalF a y else evalF b y
theorem eval_join (p : Nat) (a b : Fork) (y : List Nat) : evalF (joinK p a b) y = if y.getD p 0 = 48 then evalF a y else evalF b y := by
  unfold joinK
  split
  · rename_i h
    rw [← eqK_eq h]
    split <;> rfl
  · rfl
theorem fork_truth : ∀ (ps : List Nat) (fs : List Pr) (y : List Nat), GoodF ps.length fs → (∀ p ∈ ps, y.getD p 0 = 48 ∨ y.getD p 0 = 49) → firstN fs (narrow y ps) = some (evalF (forkL ps fs) y)
  | [], fs, y, h, _ => by
    obtain ⟨k, rfl⟩ := good_zero h
    rfl
  | p :: ps, fs, y, h, hy => by
    have h : GoodF (ps.length + 1) fs := h
    rw [forkL]
    split
    · rename_i h1
      obtain ⟨k, rfl⟩ := good_one h h1
      unfold firstN numOf evalF
      rw [List.find?_cons, within_dashes]
      simp
    · rw [eval_join]
      have go : ∀ d, firstN fs (d :: narrow y ps) = firstN (sideF fs d ps.length) (narrow y ps) := fun d => by
        unfold sideF
        rw [firsts_first, List.nil_append, side_first h.1]
      have hy' : ∀ p ∈ ps, y.getD p 0 = 48 ∨ y.getD p 0 = 49 := fun q hq => hy q (List.mem_cons_of_mem _ hq)
      show firstN fs (y.getD p 0 :: narrow y ps) = _
      rcases hy p List.mem_cons_self with e | e
      · rw [e, go, if_pos rfl]
        exact fork_truth ps _ y (side_good h 48) hy'
      · rw [e, go, if_neg (by decide)]
        exact fork_truth ps _ y (side_good h 49) hy'
def Asks (W : Nat) : Fork → Prop
  | .leaf _ => True
  | .ask p a b => p < W ∧ Asks W a ∧ Asks W b
def high : Fork → Nat
  | .leaf _ => 0
  | .ask _ a b => max (high a) (high b) + 1
theorem fork_asks {W : Nat} : ∀ (ps : List Nat) (fs : List Pr), (∀ p ∈ ps, p < W) → Asks W (forkL ps fs)
  | [], fs, _ => True.intro
  | p :: ps, fs, h => by
    have h' : ∀ p ∈ ps, p < W := fun q hq => h q (List.mem_cons_of_mem _ hq)
    rw [forkL]
    split
    · exact True.intro
    · unfold joinK
      split
      · exact fork_asks ps _ h'
      · exact ⟨h p List.mem_cons_self, fork_asks ps _ h', fork_asks ps _ h'⟩
theorem fork_high : ∀ (ps : List Nat) (fs : List Pr), high (forkL ps fs) ≤ ps.length
  | [], fs => Nat.le_refl _
  | p :: ps, fs => by
    have a := fork_high ps (sideF fs 48 ps.length)
    have b := fork_high ps (sideF fs 49 ps.length)
    rw [forkL, List.length_cons]
    split
    · exact Nat.zero_le _
    · unfold joinK
      split
      · omega
      · show max _ _ + 1 ≤ _
        omega
def signF (p : Nat) (row over : List Nat) : Nat := if over.getD p 0 = 45 then row.getD p 0 else over.getD p 0
def cutF : Fork → List Nat → List Nat → List Pr
  | .leaf n, row, _ => [(row, n)]
  | .ask p a b, row, over => if signF p row over = 45 then cutF a (row.set p 48) over ++ cutF b (row.set p 49) over else if signF p row over = 48 then cutF a row over else cutF b row over
theorem cut_len : ∀ (F : Fork) (row over : List Nat), (cutF F row over).length ≤ 2 ^ high F
  | .leaf n, row, over => Nat.le_refl _
  | .ask p a b, row, over => by
    have h1 : 2 ^ high a ≤ 2 ^ max (high a) (high b) := Nat.pow_le_pow_right (by decide) (by omega)
    have h2 : 2 ^ high b ≤ 2 ^ max (high a) (high b) := Nat.pow_le_pow_right (by decide) (by omega)
    have e : 2 ^ high (.ask p a b) = 2 ^ max (high a) (high b) * 2 := Nat.pow_succ ..
    rw [cutF, e]
    split
    · have i := cut_len a (row.set p 48) over
      have j := cut_len b (row.set p 49) over
      rw [List.length_append]
      omega
    · split
      · have i := cut_len a row over
        omega
      · have i := cut_len b row over
        omega
theorem dash_at {W p : Nat} (h : p < W) : (dashes W).getD p 0 = 45 := by
  unfold dashes
  rw [List.getD_eq_getElem?_getD, List.getElem?_replicate, if_pos h]
  rfl
theorem sign_dash {W p : Nat} (h : p < W) (row : List Nat) : signF p row (dashes W) = row.getD p 0 := by
  unfold signF
  rw [dash_at h, if_pos rfl]
theorem getD_set (l : List Nat) (p i c : Nat) (h : p < l.length) : (l.set p c).getD i 0 = if i = p then c else l.getD i 0 := by
  rw [List.getD_eq_getElem?_getD, List.getElem?_set]
  by_cases e : p = i
  · subst e
    rw [if_pos rfl, if_pos rfl, if_pos h]
    rfl
  · rw [if_neg e, if_neg fun z => e z.symm, List.getD_eq_getElem?_getD]
theorem row_set {l : List Nat} {p c : Nat} (h : IsRow l) (hc : c = 48 ∨ c = 49 ∨ c = 45) : IsRow (l.set p c) := fun x hx => by
  rcases List.mem_or_eq_of_mem_set hx with z | z
  · exact h x z
  · rw [z]; exact hc
theorem cut_rows {W : Nat} : ∀ (F : Fork) (row : List Nat), Asks W F → row.length = W → IsRow row → ∀ x ∈ cutF F row (dashes W), x.1.length = W ∧ IsRow x.1
  | .leaf n, row, _, hl, hr, x, hx => by
    rw [List.mem_singleton.mp hx]
    exact ⟨hl, hr⟩
  | .ask p a b, row, ⟨hp, ha, hb⟩, hl, hr, x, hx => by
    rw [cutF] at hx
    split at hx
    · rcases List.mem_append.mp hx with hx | hx
      · exact cut_rows a _ ha (by simpa using hl) (row_set hr (.inl rfl)) x hx
      · exact cut_rows b _ hb (by simpa using hl) (row_set hr (.inr (.inl rfl))) x hx
    · split at hx
      · exact cut_rows a _ ha hl hr x hx
      · exact cut_rows b _ hb hl hr x hx
theorem cut_in {W : Nat} : ∀ (F : Fork) (row : List Nat), Asks W F → row.length = W → ∀ x ∈ cutF F row (dashes W), ∀ i, row.getD i 0 ≠ 45 → x.1.getD i 0 = row.getD i 0
  | .leaf n, row, _, hl, x, hx, i, _ => by
    rw [List.mem_singleton.mp hx]
  | .ask p a b, row, ⟨hp, ha, hb⟩, hl, x, hx, i, hi => by
    rw [cutF, sign_dash hp] at hx
    split at hx
    · rename_i e
      have ne : i ≠ p := fun z => hi (by rw [z]; exact e)
      have key : ∀ c, (row.set p c).getD i 0 = row.getD i 0 := fun c => by rw [getD_set _ _ _ _ (by omega), if_neg ne]
      rcases List.mem_append.mp hx with hx | hx
      · rw [cut_in a _ ha (by simpa using hl) x hx i (by rw [key]; exact hi), key]
      · rw [cut_in b _ hb (by simpa using hl) x hx i (by rw [key]; exact hi), key]
    · split at hx
      · exact cut_in a _ ha hl x hx i hi
      · exact cut_in b _ hb hl x hx i hi
theorem within_at {W : Nat} {x r : List Nat} (hx : x.length = W) (hr : r.length = W) : within x r = true ↔ ∀ i, i < W → r.getD i 0 = 45 ∨ r.getD i 0 = x.getD i 0 := by
  rw [within_all W x r hx hr, List.all_eq_true]
  constructor
  · intro h i hi
    have := h i (List.mem_range.mpr hi)
    simpa [fitAt] using this
  · intro h i hi
    have := h i (List.mem_range.mp hi)
    simpa [fitAt] using this
theorem cut_within {W : Nat} {F : Fork} {row : List Nat} (ha : Asks W F) (hl : row.length = W) (hr : IsRow row) {x : Pr} (hx : x ∈ cutF F row (dashes W)) {y : List Nat} (hy : y.length = W) (hw : within y x.1 = true) : within y row = true := by
  rw [within_at hy hl]
  intro i hi
  by_cases e : row.getD i 0 = 45
  · exact .inl e
  · have h1 := cut_in F row ha hl x hx i e
    have h2 := (within_at hy (cut_rows F row ha hl hr x hx).1).mp hw i hi
    rcases h2 with z | z
    · exact absurd (h1.symm.trans z) e
    · exact .inr (h1.symm.trans z)
theorem cut_truth {W : Nat} : ∀ (F : Fork) (row : List Nat), Asks W F → row.length = W → IsRow row → ∀ x ∈ cutF F row (dashes W), ∀ y : List Nat, y.length = W → within y x.1 = true → evalF F y = x.2
  | .leaf n, row, _, hl, hr, x, hx, y, _, _ => by
    rw [List.mem_singleton.mp hx]
    rfl
  | .ask p a b, row, ⟨hp, ha, hb⟩, hl, hr, x, hx, y, hy, hw => by
    rw [cutF, sign_dash hp] at hx
    have told : ∀ (G : Fork) (r : List Nat), Asks W G → r.length = W → IsRow r → x ∈ cutF G r (dashes W) → r.getD p 0 ≠ 45 → y.getD p 0 = r.getD p 0 := fun G r hG h1 h2 hm h3 => by
      rcases (within_at hy h1).mp (cut_within hG h1 h2 hm hy hw) p hp with z | z
      · exact absurd z h3
      · exact z.symm
    have setp : ∀ c, (row.set p c).getD p 0 = c := fun c => by rw [getD_set _ _ _ _ (by omega), if_pos rfl]
    show (if y.getD p 0 = 48 then evalF a y else evalF b y) = x.2
    split at hx
    · rcases List.mem_append.mp hx with hx | hx
      · have e := told a _ ha (by simpa using hl) (row_set hr (.inl rfl)) hx (by rw [setp]; decide)
        rw [setp] at e
        rw [if_pos e]
        exact cut_truth a _ ha (by simpa using hl) (row_set hr (.inl rfl)) x hx y hy hw
      · have e := told b _ hb (by simpa using hl) (row_set hr (.inr (.inl rfl))) hx (by rw [setp]; decide)
        rw [setp] at e
        rw [if_neg (by omega)]
        exact cut_truth b _ hb (by simpa using hl) (row_set hr (.inr (.inl rfl))) x hx y hy hw
    · rename_i e
      split at hx
      · rename_i e2
        rw [told a _ ha hl hr hx e, if_pos e2]
        exact cut_truth a _ ha hl hr x hx y hy hw
      · rename_i e2
        rw [told b _ hb hl hr hx e, if_neg e2]
        exact cut_truth b _ hb hl hr x hx y hy hw
/-! ### the fork of a heap -/
def metL (heap : List (List Nat)) (row : List Nat) : List Pr := ((heap ++ [dashes row.length]).zipIdx).filter fun q => okL q.1 row
def asked (heap : List (List Nat)) (row : List Nat) : List Nat := (placesL ((metL heap row).map Prod.fst) row.length).filter fun p => decide (row.getD p 0 = 45)
def pairsL (heap : List (List Nat)) (row : List Nat) : List Pr := (metL heap row).map fun q => (narrow q.1 (asked heap row), q.2)
def forkOf (heap : List (List Nat)) (row : List Nat) : Fork := forkL (asked heap row) (firstsL (asked heap row).length [] (pairsL heap row))
theorem zip_asc (l : List (List Nat)) : ∀ k, (l.zipIdx k).Pairwise fun (p q : Pr) => p.2 < q.2 := by
  induction l with
  | nil => intro k; exact List.Pairwise.nil
  | cons x l ih =>
    intro k
    rw [List.zipIdx_cons]
    refine List.pairwise_cons.mpr ⟨fun q hq => ?_, ih (k + 1)⟩
    have := List.le_snd_of_mem_zipIdx hq
    show k < q.2
    omega
theorem pairs_asc (heap : List (List Nat)) (row : List Nat) : AscF (pairsL heap row) := by
  unfold pairsL AscF
  rw [List.pairwise_map]
  exact List.Pairwise.filter _ (zip_asc _ 0)
theorem asked_lt {heap : List (List Nat)} {row : List Nat} {p : Nat} (h : p ∈ asked heap row) : p < row.length ∧ row.getD p 0 = 45 := by
  obtain ⟨h1, h2⟩ := List.mem_filter.mp h
  exact ⟨places_lt h1, of_decide_eq_true h2⟩
theorem okL_dashes : ∀ (n : Nat) (x : List Nat), okL (dashes n) x = true
  | 0, x => by simp [okL, dashes]
  | n + 1, [] => by simp [okL]
  | n + 1, c :: x => by
    have := okL_dashes n x
    unfold dashes at this ⊢
    rw [List.replicate_succ, okL_cons, this]
    rfl
theorem dash_met (heap : List (List Nat)) (row : List Nat) : (dashes row.length, heap.length) ∈ metL heap row := by
  refine List.mem_filter.mpr ⟨?_, okL_dashes _ _⟩
  rw [List.zipIdx_append]
  exact List.mem_append_right _ (by simp)
theorem narrow_dashes {W : Nat} {ps : List Nat} (h : ∀ p ∈ ps, p < W) : narrow (dashes W) ps = dashes ps.length := by
  unfold narrow
  rw [show dashes ps.length = ps.map fun _ => 45 by simp [dashes, List.map_const']]
  exact List.map_congr_left fun p hp => dash_at (h p hp)
theorem firsts_ok (heap : List (List Nat)) (row : List Nat) : GoodF (asked heap row).length (firstsL (asked heap row).length [] (pairsL heap row)) := by
  refine firsts_good _ _ [] (fun p hp => ?_) (fun p hp => by cases hp) (by simp) (by simp) ?_
  · obtain ⟨q, _, rfl⟩ := List.mem_map.mp hp
    simp [narrow]
  · refine List.mem_map.mpr ⟨(dashes (asked heap row).length, heap.length), List.mem_map.mpr ⟨_, dash_met heap row, ?_⟩, rfl⟩
    rw [narrow_dashes fun p hp => (asked_lt hp).1]
theorem first_idx {α : Type} (P : α → Bool) (d : α) (hd : P d = true) : ∀ (hs : List α) (k : Nat), (((hs ++ [d]).zipIdx k).find? fun q => P q.1).map Prod.snd = some (k + hs.findIdx P)
  | [], k => by
    rw [List.nil_append, List.zipIdx_cons, List.find?_cons, hd]
    rfl
  | x :: hs, k => by
    rw [List.cons_append, List.zipIdx_cons, List.find?_cons, List.findIdx_cons]
    cases h : P x with
    | true => simp
    | false =>
      have := first_idx P d hd hs (k + 1)
      simp only [this, cond_false]
      congr 1
      omega
theorem met_rows {heap : List (List Nat)} {row : List Nat} (hh : ∀ r ∈ heap, r.length = row.length) {q : Pr} (h : q ∈ metL heap row) : q.1.length = row.length ∧ okL q.1 row = true := by
  obtain ⟨h1, h2⟩ := List.mem_filter.mp h
  refine ⟨?_, h2⟩
  have := List.fst_mem_of_mem_zipIdx h1
  rcases List.mem_append.mp this with z | z
  · exact hh _ z
  · rw [List.mem_singleton.mp z]
    simp [dashes]
theorem find_same {α : Type} {f g : α → Bool} : ∀ l : List α, (∀ q ∈ l, f q = g q) → l.find? f = l.find? g
  | [], _ => rfl
  | q :: l, h => by
    rw [List.find?_cons, List.find?_cons, h q List.mem_cons_self, find_same l fun z hz => h z (List.mem_cons_of_mem _ hz)]
theorem fork_first {heap : List (List Nat)} {row y : List Nat} (hh : ∀ r ∈ heap, r.length = row.length) (hy : y.length = row.length) (hl : IsLet y) (hw : within y row = true) : evalF (forkOf heap row) y = heap.findIdx fun r => within y r := by
  have hy' : ∀ p ∈ asked heap row, y.getD p 0 = 48 ∨ y.getD p 0 = 49 := fun p hp => by
    have := (asked_lt hp).1
    rw [List.getD_eq_getElem?_getD, List.getElem?_eq_getElem (by omega), Option.getD_some]
    exact hl _ (List.getElem_mem _)
  have t := fork_truth (asked heap row) _ y (firsts_ok heap row) hy'
  rw [firsts_first, List.nil_append] at t
  have same : ∀ q ∈ metL heap row, within (narrow y (asked heap row)) (narrow q.1 (asked heap row)) = within y q.1 := fun q hq => by
    obtain ⟨l1, l2⟩ := met_rows hh hq
    rw [within_narrow, Bool.eq_iff_iff, List.all_eq_true, within_at hy l1]
    rw [okL_all row.length _ _ l1 rfl, List.all_eq_true] at l2
    constructor
    · intro h i hi
      by_cases e : q.1.getD i 0 = 45
      · exact .inl e
      · refine .inr ?_
        by_cases e2 : row.getD i 0 = 45
        · have hm : i ∈ asked heap row := by
            refine List.mem_filter.mpr ⟨List.mem_filter.mpr ⟨List.mem_range.mpr hi, ?_⟩, decide_eq_true e2⟩
            unfold told
            rw [List.any_eq_true]
            exact ⟨q.1, List.mem_map.mpr ⟨q, hq, rfl⟩, by simpa using e⟩
          have := h i hm
          simp only [fitAt, Bool.or_eq_true, beq_iff_eq] at this
          exact this.resolve_left e
        · have h1 := l2 i (List.mem_range.mpr hi)
          have h2 := (within_at hy rfl).mp hw i hi
          simp only [okS, Bool.or_eq_true, beq_iff_eq] at h1
          rcases h1 with (z | z) | z
          · exact absurd z e
          · exact absurd z e2
          · exact z.trans (h2.resolve_left e2)
    · intro h i hi
      have := h i (asked_lt hi).1
      simpa [fitAt] using this
  have find : ∀ l : List Pr, (∀ q ∈ l, within (narrow y (asked heap row)) (narrow q.1 (asked heap row)) = within y q.1) → firstN (l.map fun q => (narrow q.1 (asked heap row), q.2)) (narrow y (asked heap row)) = (l.find? fun q => within y q.1).map Prod.snd := by
    intro l
    induction l with
    | nil => intro _; rfl
    | cons q l ih =>
      intro h
      have ih := ih fun z hz => h z (List.mem_cons_of_mem _ hz)
      unfold firstN at ih ⊢
      rw [List.map_cons, List.find?_cons, List.find?_cons]
      dsimp only
      rw [h q List.mem_cons_self]
      cases within y q.1 with
      | true => rfl
      | false => exact ih
  have hm : ((metL heap row).find? fun q => within y q.1) = ((heap ++ [dashes row.length]).zipIdx).find? fun q => within y q.1 := by
    unfold metL
    rw [List.find?_filter]
    refine find_same _ fun q hq => ?_
    cases hq1 : within y q.1 with
    | false => simp
    | true =>
      rw [decide_eq_true_iff]
      refine ⟨?_, rfl⟩
      have l1 : q.1.length = row.length := by
        rcases List.mem_append.mp (List.fst_mem_of_mem_zipIdx hq) with z | z
        · exact hh _ z
        · rw [List.mem_singleton.mp z]
          simp [dashes]
      rw [okL_all row.length _ _ l1 rfl, List.all_eq_true]
      intro i hi
      have hi := List.mem_range.mp hi
      have h1 := (within_at hy l1).mp hq1 i hi
      have h2 := (within_at hy rfl).mp hw i hi
      simp only [okS, Bool.or_eq_true, beq_iff_eq]
      rcases h1 with z | z
      · exact .inl (.inl z)
      · rcases h2 with z2 | z2
        · exact .inl (.inr z2)
        · exact .inr (z.trans z2.symm)
  rw [show firstN (pairsL heap row) _ = _ from find _ same, hm, first_idx (fun r => within y r) _ (within_dashes _ _) heap 0, Nat.zero_add] at t
  exact (Option.some.inj t).symm
def pk (p : Pr) : Key × V := (Sum.inr (st p.1), V.int p.2)
def PairAt (H : Hp) (x : Pr) (v : V) : Prop := ∃ t, v = .ref t ∧ H t = some (.tup [tx x.1, .int x.2])
def Pairs (H : Hp) (p : Addr) (xs : List Pr) : Prop := ∃ vs, H p = some (.lst vs) ∧ Paired (PairAt H) xs vs
theorem Pairs.same {H H' : Hp} {p : Addr} {xs : List Pr} (h : Pairs H p xs) (s : Same H H') : Pairs H' p xs := by
  obtain ⟨vs, e, pr⟩ := h
  exact ⟨vs, s _ _ e, L2.Paired.mapP pr fun _ _ ⟨t, e, q⟩ => ⟨t, e, s _ _ q⟩⟩
theorem valV_pk (s : List Nat) : ∀ fs : List Pr, valV (fs.map pk) (Sum.inr (st s)) = (fs.find? fun p => decide (p.1 = s)).map fun p => V.int p.2
  | [] => rfl
  | p :: fs => by
    rw [List.map_cons, List.find?_cons]
    by_cases h : p.1 = s
    · rw [valV_pos (by rw [← h]; rfl), decide_eq_true h]
      rfl
    · rw [valV_neg (fun z => h (by have z : (Sum.inr (st p.1) : Key) = Sum.inr (st s) := z; injection z with z; exact st_inj.mp z)), decide_eq_false h]
      exact valV_pk s fs
theorem pk_in {fs : List Pr} {s : List Nat} : valV (fs.map pk) (Sum.inr (st s)) = none ↔ s ∉ fs.map Prod.fst := by
  rw [valV_pk, Option.map_eq_none_iff, List.find?_eq_none]
  constructor
  · intro h m
    obtain ⟨p, hp, e⟩ := List.mem_map.mp m
    exact h p hp (decide_eq_true e)
  · intro h p hp e
    exact h (List.mem_map.mpr ⟨p, hp, of_decide_eq_true e⟩)
theorem pk_put {fs : List Pr} {s : List Nat} {n : Nat} (h : s ∉ fs.map Prod.fst) : putK (fs.map pk) (Sum.inr (st s)) (V.int n) = (fs ++ [(s, n)]).map pk := by
  rw [putK_new _ (pk_in.mpr h), List.map_append]
  rfl
def sp_firsts_of (K : PySem.W.Frag) : Sp := fun vs H Q _ => match vs with
  | [.ref p, .int w] => ∃ (xs : List Pr) (n : Nat), w = (n : Int) ∧ n ≤ 1000 ∧ Pairs H p xs ∧ xs.length ≤ 1000 ∧ ∀ q ob H', H q = none → Same H H' → H' q = some (.frz ob (.dK ((firstsL n [] xs).map pk))) → Q (.ref q) H'
  | _ => False
theorem ok_firsts_of (T : Top K mg) : Callee P w K mg base 1 "firsts_of" ["pairs", "width"] (sp_firsts_of K) := by
  refine T.f_firsts_of.cal sc_firsts_of (by intro vs H Q E h; unfold sp_firsts_of at h; split at h <;> first | rfl | exact h.elim) (fun _ _ _ _ _ _ us hl => match us, hl with | [_, _], _ => rfl) (fun f cdv A outer s H vs Q E hr h => ?_)
  unfold sp_firsts_of at h
  split at h
  case h_2 => exact h.elim
  refine ⟨_, (pss_cons (ps_set (i := 2) sc_firsts_of.nd rfl (by first | exact Or.inl rfl | exact Or.inr rfl) pe_dnewK)
      (pss_cons (qs_for PassesOwn.never rfl (iterE K rfl (qv 0)) (tupE K rfl rfl (n := 2) (pgs_cons (pg_name (i := 3) sc_firsts_of.nd rfl (by first | exact Or.inl rfl | exact Or.inr rfl)) (pgs_cons (pg_name (i := 4) sc_firsts_of.nd rfl (by first | exact Or.inl rfl | exact Or.inr rfl)) pgs_nil))) (pss_cons (ps_expr (qe_setdef (qv 2) (qv 3) (qv 4) ⟨rfl, rfl, rfl, rfl⟩))
      (pss_one (ps_if (qt_cmp op_eqK (qv 3) (pe_op op_mulK (qs [45]) (qv 1))) (pss_one ps_break) pss_nil))))
      (pss_one (ps_retD (qv 2))))), ?_⟩
  rename_i p w
  obtain ⟨xs, n, rfl, hn, ⟨vs, e0, pr⟩, hx, q⟩ := h
  have hl := pr.length
  walk_at "rd"
  intro g hg
  refine .inl ⟨⟨_, SqL.of (same_new hg _ _ _ e0)⟩, ?_⟩
  have fin : ∀ H1, Same H H1 → H1 g = some (.dK ((firstsL n [] xs).map pk)) → ∃ kvs, H1 g = some (.dK kvs) ∧ ∀ ob, Q (.ref g) (upd H1 g (.frz ob (.dK kvs))) := fun H1 s1 e1 =>
    ⟨_, e1, fun ob => q g ob _ hg (same_upd s1 hg) upd_same⟩
  refine loop_list (xs := vs) (fun i σ H' => ∃ (u v : Option V) (acc : List Pr), σ = [some (.ref p), some (.int n), some (.ref g), u, v] ∧ Same H H' ∧ H' g = some (.dK (acc.map pk)) ∧ acc.length ≤ i ∧ firstsL n [] xs = firstsL n acc (xs.drop i)) ⟨none, none, [], rfl, same_new hg _, upd_same, Nat.le_refl _, by rw [List.drop_zero]⟩ (fun i σ H' _ ⟨_, _, _, _, z, _⟩ => SqL.of (z _ _ e0)) ?_ ?_
  · rintro i x σ H1 hxi ⟨u, v, acc, rfl, s1, e1, la, ef⟩
    have hi : i < vs.length := (List.getElem?_eq_some_iff.mp hxi).1
    have hiw : i < xs.length := by omega
    obtain ⟨y, hy, t', ey, et⟩ := paired_at pr (List.getElem?_eq_getElem hiw)
    obtain rfl : x = .ref t' := by rw [hy] at hxi; rw [← Option.some.inj hxi, ey]
    rw [List.drop_eq_getElem_cons hiw] at ef
    generalize xs[i] = pr0 at et ef
    obtain ⟨s, k⟩ := pr0
    refine ⟨t', [_, _], rfl, SqT.of (s1 _ _ et), rfl, _, [_], rfl, _, [], rfl, rfl, ?_⟩
    walk_at "rd"
    have small : (acc.map pk).length < sizeLine := by rw [List.length_map, sizeLine_eq]; omega
    refine ⟨.inl ⟨_, .inl e1⟩, _, Sum.inr (st s), e1, rfl, small, fun v0 hv => ?_, fun hnone => ?_⟩
    · have hm : s ∈ acc.map Prod.fst := Classical.byContradiction fun z => by rw [pk_in.mpr z] at hv; cases hv
      rw [firstsL, if_pos hm] at ef
      dsimp only at ef
      walk_at "rd"
      refine ⟨by omega, by omega, ite2 (fun c => ?_) fun c => ?_⟩
      · rw [Int.toNat_natCast] at c
        rw [if_pos (show s = dashes n from c)] at ef
        exact fin _ s1 (by rw [e1, ef])
      · rw [Int.toNat_natCast] at c
        rw [if_neg (show ¬ s = dashes n from c)] at ef
        exact ⟨_, _, acc, rfl, s1, e1, by omega, ef⟩
    · have hm : s ∉ acc.map Prod.fst := pk_in.mp hnone
      rw [firstsL, if_neg hm] at ef
      dsimp only at ef
      rw [pk_put hm]
      walk_at "rd"
      refine ⟨by omega, by omega, ite2 (fun c => ?_) fun c => ?_⟩
      · rw [Int.toNat_natCast] at c
        rw [if_pos (show s = dashes n from c)] at ef
        exact fin _ (same_upd s1 hg) (by rw [upd_same, ef])
      · rw [Int.toNat_natCast] at c
        rw [if_neg (show ¬ s = dashes n from c)] at ef
        exact ⟨_, _, acc ++ [(s, k)], rfl, same_upd s1 hg, upd_same, by rw [List.length_append, List.length_singleton]; omega, ef⟩
  · rintro σ H1 ⟨u, v, acc, rfl, s1, e1, la, ef⟩
    walk_at "rd"
    rw [← hl, List.drop_length] at ef
    exact fin _ s1 (by rw [e1, ef]; rfl)
theorem firsts_len (w : Nat) : ∀ (pairs acc : List Pr), (firstsL w acc pairs).length ≤ acc.length + pairs.length
  | [], acc => Nat.le_refl _
  | p :: r, acc => by
    have a : (if p.1 ∈ acc.map Prod.fst then acc else acc ++ [p]).length ≤ acc.length + 1 := by
      split
      · omega
      · rw [List.length_append, List.length_singleton]
        omega
    have b := firsts_len w r (if p.1 ∈ acc.map Prod.fst then acc else acc ++ [p])
    rw [firstsL, List.length_cons]
    split
    · omega
    · omega
theorem side_small (fs : List Pr) (c n : Nat) : (sideF fs c n).length ≤ fs.length := by
  have a := firsts_len n (sideP fs c) []
  have b : (sideP fs c).length ≤ fs.length := by
    unfold sideP
    rw [List.length_map]
    exact List.length_filter_le _ _
  rw [List.length_nil] at a
  unfold sideF
  omega
def sp_firsts_side (K : PySem.W.Frag) : Sp := fun vs H Q _ => match vs with
  | [.ref d, .str s, .int w] => ∃ (ob : Obj) (fs : List Pr) (c n : Nat), s.cps.toList = [c] ∧ w = (n : Int) ∧ n ≤ 1000 ∧ H d = some (.frz ob (.dK (fs.map pk))) ∧ (∀ p ∈ fs, 0 < p.1.length ∧ p.1.length ≤ 1000) ∧ fs.length ≤ 1000 ∧
      ∀ q ob' H', H q = none → Same H H' → H' q = some (.frz ob' (.dK ((sideF fs c n).map pk))) → Q (.ref q) H'
  | _ => False
theorem ok_firsts_side (T : Top K mg) : Callee P w K mg base 2 "firsts_side" ["firsts", "sign", "width"] (sp_firsts_side K) := by
  refine T.f_firsts_side.cal sc_firsts_side (by intro vs H Q E h; unfold sp_firsts_side at h; split at h <;> first | rfl | exact h.elim) (fun _ _ _ _ _ _ us hl => match us, hl with | [_, _, _], _ => rfl) (fun f cdv A outer s H vs Q E hr h => ?_)
  unfold sp_firsts_side at h
  split at h
  case h_2 => exact h.elim
  refine ⟨_, (pss_one (ps_ret (pe_fn (ok_firsts_of T) (hr.mono (by first | decide | omega)) rfl (pa_cons (qe_comp (nt := 2) (fi := [1]) (N' := ["signs", "number", "sign"]) rfl (cscope rfl (by decide +kernel)) (cnames (N := ["firsts", "sign", "width"]) (sc := defScope s_firsts_side) rfl rfl (by decide +kernel)) (gk_tup2 (by decide) (by decide)) (qi_items (qv 0)) (fun _ _ _ _ _ => (tupE K rfl rfl (n := 2) (pgs_cons (pg_name (i := 0) (by show (["signs", "number", "sign"] : List Str).Nodup; decide +kernel) rfl (by first | exact Or.inl rfl | exact Or.inr rfl)) (pgs_cons (pg_name (i := 1) (by show (["signs", "number", "sign"] : List Str).Nodup; decide +kernel) rfl (by first | exact Or.inl rfl | exact Or.inr rfl)) pgs_nil)))) (fun _ _ _ _ _ => (pif_one (qt_cmp (inE K rfl) (pe_ix (ixE K rfl) (qv 0) pe_int (fun _ _ => rfl)) (pe_tup (pa_cons (qv 2) (pa_cons (qs [45]) pa_nil)))))) (fun _ _ _ _ _ => (pe_tup (pa_cons (pe_slice (slE K rfl) (qv 0) (qo_some pe_int) po_none) (pa_cons (qv 1) pa_nil))))) (pa_cons (qv 2) pa_nil))))), ?_⟩
  rename_i d s w
  obtain ⟨ob, fs, c, n, hc, rfl, hn, h1, h2, h3, q⟩ := h
  obtain rfl : s = st [c] := by rw [← hc, st_eta]
  walk_at "rd"
  refine ⟨ob, _, h1, fun D hD => ?_⟩
  refine comp_itemsR pk fs (fun p => decide (p.1.headD 0 = c) || decide (p.1.headD 0 = 45)) (fun x v H' => PairAt H' (x.1.tail, x.2) v) hD h1 (by omega) ?_ ?_ ?_
  · rintro x v H1 H2 acc hd k ⟨t, e, r⟩
    exact ⟨t, e, k _ _ (fun z => by subst z; rw [hd] at r; cases r) r⟩
  · rintro ⟨l, k⟩ Tt H1 out non hm s1 hT ho hno
    obtain ⟨a, b⟩ := h2 _ hm
    refine ⟨Tt, [tx l, .int k], rfl, SqT.of hT, rfl, tx l, [.int k], rfl, .int k, [], rfl, rfl, ?_⟩
    cases l with
    | nil => exact absurd a (Nat.lt_irrefl 0)
    | cons x l =>
      have b : l.length + 1 ≤ 1000 := b
      walk_at "rd"
      refine ⟨by omega, x, at_nat (l := x :: l) (i := 0) (by simp), by decide, fun p hp => ⟨_, .inr (SqT.of upd_same), rfl, rfl, ?_⟩⟩
      have e : inV (V.str (st [x])) [V.str (st [c]), V.str (st [45])] = decide (x ∈ [c, 45]) := in_signs x [c, 45]
      rw [e]
      refine ite2 (fun e2 => ?_) fun e2 => hno _ ?_ (same_new hp _)
      · refine ⟨by omega, by omega, by decide, fun t ht => ho _ _ ?_ ((same_new hp _).trans (same_new ht _)) ⟨t, rfl, ?_⟩⟩
        · have : x = c ∨ x = 45 := by simpa using e2
          simpa using this
        · rw [upd_same]
          simp [tx]
      · have : ¬ (x = c ∨ x = 45) := by simpa using e2
        simpa using this
  · intro H1 ws s1 e1 pr
    refine ⟨sideP fs c, n, rfl, hn, ⟨ws, e1, ?_⟩, ?_, fun q1 ob' H' f1 s2 e2 => q q1 ob' H' (s1.free f1) (s1.trans s2) e2⟩
    · exact paired_mapL pr
    · unfold sideP
      rw [List.length_map]
      exact Nat.le_trans (List.length_filter_le _ _) h3
def FkV (H : Hp) : Fork → V → Prop
  | .leaf n, v => v = .int n
  | .ask p a b, v => ∃ t x y, v = .ref t ∧ H t = some (.tup [.int p, x, y]) ∧ FkV H a x ∧ FkV H b y
theorem FkV.same {H H' : Hp} (s : Same H H') : ∀ {F : Fork} {v : V}, FkV H F v → FkV H' F v
  | .leaf _, _, h => h
  | .ask _ _ _, _, ⟨t, x, y, e, q, h1, h2⟩ => ⟨t, x, y, e, s _ _ q, h1.same s, h2.same s⟩
def forkD : Fork → D
  | .leaf n => .f (.int n)
  | .ask p a b => .t [.f (.int p), forkD a, forkD b]
theorem fork_deep {H : Hp} : ∀ (F : Fork) (v : V) (n : Nat), FkV H F v → high F ≤ n → Deep K H n v (forkD F)
  | .leaf k, v, n, h, _ => by
    rw [show v = .int k from h]
    exact deep_flat n rfl
  | .ask p a b, v, n, ⟨t, x, y, e, q, h1, h2⟩, hn => by
    have hn : max (high a) (high b) + 1 ≤ n := hn
    obtain ⟨m, rfl⟩ : ∃ m, n = m + 1 := ⟨n - 1, by omega⟩
    exact .inr (.inr ⟨t, _, _, e, rfl, SqT.of q, .cons (deep_flat m rfl) (.cons (fork_deep a x m h1 (by omega)) (.cons (fork_deep b y m h2 (by omega)) .nil))⟩)
theorem intK (n m : Nat) : eqV (.int n) (.int m) = (n == m) := by
  show ((n : Int) == (m : Int)) = _
  rw [Bool.eq_iff_iff, beq_iff_eq, beq_iff_eq]
  omega
theorem eqD_fork : ∀ a b : Fork, eqD (forkD a) (forkD b) = eqK a b
  | .leaf n, .leaf m => by
    rw [forkD, forkD, eqD, eqK]
    exact intK n m
  | .ask p a b, .ask q c d => by
    rw [forkD, forkD, eqD, eqDs, eqDs, eqDs, eqDs, eqD, eqK, eqD_fork a c, eqD_fork b d, Bool.and_true]
    rw [intK]
  | .leaf _, .ask _ _ _ => by rw [forkD, forkD, eqD, eqK]
  | .ask _ _ _, .leaf _ => by rw [forkD, forkD, eqD, eqK]
theorem kEqF_fork {H : Hp} {Q : VK} {F G : Fork} {x y : V} (hF : FkV H F x) (hG : FkV H G y) (h1 : high F ≤ 50) (h2 : high G ≤ 50) (q : Q (.bl (eqK F G)) H) : kEqF K x y H Q := by
  cases F with
  | leaf n =>
    obtain rfl : x = .int n := hF
    cases G with
    | leaf m =>
      obtain rfl : y = .int m := hG
      show Q (.bl (decide ((n : Int) = (m : Int)))) H
      rw [show decide ((n : Int) = (m : Int)) = eqK (.leaf n) (.leaf m) by rw [eqK, Bool.eq_iff_iff, decide_eq_true_iff, beq_iff_eq]; omega]
      exact q
    | ask p a b =>
      obtain ⟨t, x, y, rfl, e, _⟩ := hG
      exact ⟨⟨_, SqT.of e⟩, q⟩
  | ask p a b =>
    obtain ⟨t, x1, y1, rfl, e, z1, z2⟩ := hF
    cases G with
    | leaf m =>
      obtain rfl : y = .int m := hG
      exact ⟨⟨_, SqT.of e⟩, q⟩
    | ask p' a' b' =>
      have dG := fork_deep (K := K) _ _ 50 hG h2
      obtain ⟨t', x', y', rfl, e', z1', z2'⟩ := hG
      refine ⟨50, _, _, by decide, fork_deep (.ask p a b) _ 50 ⟨t, x1, y1, rfl, e, z1, z2⟩ h1, dG, ?_⟩
      rw [eqD_fork, Bool.false_xor]
      exact q
theorem cut_tail (x : V) (xs : List V) : cutV (x :: xs) (some 1) none = xs := by
  unfold cutV
  have e1 : HT.sIx (x :: xs).length 0 (some 1) = 1 := by
    simp [HT.sIx]
    try omega
  have e2 : HT.sIx (x :: xs).length (x :: xs).length none = xs.length + 1 := by simp [HT.sIx]
  rw [e1, e2]
  simp
theorem dEq_same {a b : List Pr} (ha : AscF a) (hb : AscF b) (h : dEq (a.map pk) (b.map pk) = true) : a = b := by
  unfold dEq at h
  rw [Bool.and_eq_true, beq_iff_eq, List.length_map, List.length_map, List.all_eq_true] at h
  refine same_firsts ha hb h.1 fun p hp => ?_
  have := h.2 (pk p) (List.mem_map.mpr ⟨p, hp, rfl⟩)
  rw [show (pk p).2 = V.int p.2 from rfl, show (pk p).1 = Sum.inr (st p.1) from rfl, valV_pk] at this
  cases e : b.find? fun q => decide (q.1 = p.1) with
  | none => rw [e] at this; cases this
  | some q =>
    rw [e] at this
    have e2 : ((p.2 : Int) == (q.2 : Int)) = true := this
    have e1 : q.1 = p.1 := by simpa using List.find?_some e
    rw [beq_iff_eq] at e2
    have : p = q := Prod.ext e1.symm (by omega)
    rw [this]
    exact List.mem_of_find?_eq_some e
def sp_fork_below (K : PySem.W.Frag) (m : Nat) : Sp := fun vs H Q _ => match vs with
  | [.ref d, .ref g] => ∃ (ob : Obj) (fs : List Pr) (ps : List Nat), ps.length < m ∧ ps.length ≤ 12 ∧ H d = some (.frz ob (.dK (fs.map pk))) ∧ SqL K H g (ps.map pl) ∧ GoodF ps.length fs ∧ AscF fs ∧ fs.length ≤ 1000 ∧
      ∀ v H', Same H H' → FkV H' (forkL ps fs) v → Q v H'
  | _ => False
theorem rec_fork_below (T : Top K mg) : ∀ m : Nat, Callee P w K mg base (m + 3) "fork_below" ["firsts", "places"] (sp_fork_below K m) := by
  intro m
  induction m with
  | zero =>
    refine T.f_fork_below.cal sc_fork_below (by intro vs H Q E h; unfold sp_fork_below at h; split at h <;> first | rfl | exact h.elim) (fun _ _ _ _ _ _ us hl => match us, hl with | [_, _], _ => rfl) (fun f cdv A outer s H vs Q E hr h => ?_)
    unfold sp_fork_below at h
    split at h
    case h_2 => exact h.elim
    obtain ⟨_, _, _, hn, _⟩ := h
    exact absurd hn (Nat.not_lt_zero _)
  | succ m ih =>
    refine T.f_fork_below.cal sc_fork_below (by intro vs H Q E h; unfold sp_fork_below at h; split at h <;> first | rfl | exact h.elim) (fun _ _ _ _ _ _ us hl => match us, hl with | [_, _], _ => rfl) (fun f cdv A outer s H vs Q E hr h => ?_)
    unfold sp_fork_below at h
    split at h
    case h_2 => exact h.elim
    refine ⟨_, (pss_cons (ps_if (qt_cmp op_eqK (pe_callB call_lenDR rfl T.b_len bb_len (pa_cons (qv 0) pa_nil)) pe_int) (pss_one (ps_ret (qe_dget (hu_of hr) (qv 0) (pe_op op_mulK (qs [45]) (pe_callB (lenE K rfl) rfl T.b_len bb_len (pa_cons (qv 1) pa_nil))) (fun _ _ => rfl)))) pss_nil)
      (pss_cons (ps_set (i := 2) sc_fork_below.nd rfl (by first | exact Or.inl rfl | exact Or.inr rfl) (pe_fn (ok_firsts_side T) (hr.mono (by first | decide | omega)) rfl (pa_cons (qv 0) (pa_cons (qs [48]) (pa_cons (pe_op op_subK (pe_callB (lenE K rfl) rfl T.b_len bb_len (pa_cons (qv 1) pa_nil)) pe_int) pa_nil)))))
      (pss_cons (ps_set (i := 3) sc_fork_below.nd rfl (by first | exact Or.inl rfl | exact Or.inr rfl) (pe_fn (ok_firsts_side T) (hr.mono (by first | decide | omega)) rfl (pa_cons (qv 0) (pa_cons (qs [49]) (pa_cons (pe_op op_subK (pe_callB (lenE K rfl) rfl T.b_len bb_len (pa_cons (qv 1) pa_nil)) pe_int) pa_nil)))))
      (pss_cons (ps_set (i := 4) sc_fork_below.nd rfl (by first | exact Or.inl rfl | exact Or.inr rfl) (pe_fn ih (hr.mono (by first | decide | omega)) rfl (pa_cons (qv 2) (pa_cons (pe_slice (slE K rfl) (qv 1) (qo_some pe_int) po_none) pa_nil))))
      (pss_cons (ps_if (qt_cmp (eqDictE hr) (qv 2) (qv 3)) (pss_one (ps_ret (qv 4))) pss_nil)
      (pss_cons (ps_set (i := 5) sc_fork_below.nd rfl (by first | exact Or.inl rfl | exact Or.inr rfl) (pe_fn ih (hr.mono (by first | decide | omega)) rfl (pa_cons (qv 3) (pa_cons (pe_slice (slE K rfl) (qv 1) (qo_some pe_int) po_none) pa_nil))))
      (pss_one (ps_ret (pe_ifExp (qt_cmp (eqFE K rfl hr) (qv 4) (qv 5)) (qv 4) (pe_tup (pa_cons (pe_ix (ixE K rfl) (qv 1) pe_int (fun _ _ => rfl)) (pa_cons (qv 4) (pa_cons (qv 5) pa_nil))))))))))))), ?_⟩
    rename_i d g
    obtain ⟨ob, fs, ps, hm, hm12, h1, h2, hG, hA, hl, q⟩ := h
    walk_at "rd"
    refine ⟨d, _, rfl, .inr ⟨ob, h1⟩, ?_⟩
    rw [List.length_map]
    refine ite2 (fun c1 => ?_) fun c1 => ?_
    · have c1 : fs.length = 1 := by omega
      obtain ⟨k, rfl⟩ := good_one hG c1
      refine ⟨_, .inl h2, by rw [List.length_map]; omega, by rw [List.length_map]; omega, V.int k, .inl ⟨_, Sum.inr (st (dashes ps.length)), .inr ⟨ob, h1⟩, ?_, ?_⟩, q _ H (Same.refl _) ?_⟩
      · rw [List.length_map, Int.toNat_natCast]
        rfl
      · rw [valV_pk]
        simp
      · cases ps with
        | nil =>
          show V.int k = V.int (numOf _ [])
          rfl
        | cons p ps =>
          rw [forkL, if_pos c1]
          show V.int k = V.int (numOf _ _)
          unfold numOf
          simp
    · have c1 : fs.length ≠ 1 := by omega
      cases ps with
      | nil =>
        obtain ⟨k, rfl⟩ := good_zero hG
        exact absurd rfl c1
      | cons p ps =>
        have hG : GoodF (ps.length + 1) fs := hG
        have ek : (((p :: ps).map pl).length : Int) - 1 = (ps.length : Int) := by rw [List.length_map, List.length_cons]; omega
        have hm' : ps.length < m := by rw [List.length_cons] at hm; omega
        have hm12' : ps.length ≤ 11 := by rw [List.length_cons] at hm12; omega
        have hw : ∀ x ∈ fs, 0 < x.1.length ∧ x.1.length ≤ 1000 := fun x hx => by have := hG.1 x hx; omega
        have t0 := side_small fs 48 ps.length
        have t1 := side_small fs 49 ps.length
        refine ⟨_, .inl h2, ob, fs, 48, ps.length, rfl, ek, by omega, h1, hw, hl, fun d0 ob0 H1 f0 s1 e0 => ?_⟩
        refine ⟨_, .inl (s1.seq h2), ob, fs, 49, ps.length, rfl, ek, by omega, s1 _ _ h1, hw, hl, fun d1 ob1 H2 f1 s2 e1 => ?_⟩
        have s02 := s1.trans s2
        refine ⟨_, s02.seq h2, fun g1 hg1 => ?_⟩
        rw [List.map_cons, cut_tail]
        have s3 := same_new hg1 (.lst (ps.map pl))
        refine ⟨ob0, _, ps, hm', by omega, s3 _ _ (s2 _ _ e0), SqL.of upd_same, side_good hG 48, side_asc hA 48 _, by omega, fun no H3 s4 k0 => ?_⟩
        have s24 := s3.trans s4
        have e0' := s24 _ _ (s2 _ _ e0)
        have e1' := s24 _ _ e1
        walk_at "rd"
        refine ⟨_, _, .inr ⟨ob0, e0'⟩, .inr ⟨ob1, e1'⟩, fun x hx => ?_, fun x hx => ?_, ?_⟩
        · obtain ⟨y, _, rfl⟩ := List.mem_map.mp hx
          exact ⟨_, rfl⟩
        · obtain ⟨y, _, rfl⟩ := List.mem_map.mp hx
          exact ⟨_, rfl⟩
        have s04 := s02.trans s24
        have ef : forkL (p :: ps) fs = joinK p (forkL ps (sideF fs 48 ps.length)) (forkL ps (sideF fs 49 ps.length)) := by rw [forkL, if_neg c1]
        walk_at "rd"
        refine ite2 (fun c2 => ?_) fun c2 => ?_
        · have e := dEq_same (side_asc hA 48 _) (side_asc hA 49 _) c2
          refine q no H3 s04 ?_
          rw [ef, ← e]
          unfold joinK
          rw [if_pos (eqK_refl _)]
          exact k0
        · refine ⟨_, s04.seq h2, fun g2 hg2 => ?_⟩
          rw [List.map_cons, cut_tail]
          have s5 := same_new hg2 (.lst (ps.map pl))
          refine ⟨ob1, _, ps, hm', by omega, s5 _ _ e1', SqL.of upd_same, side_good hG 49, side_asc hA 49 _, by omega, fun yes H4 s6 k1 => ?_⟩
          have s06 := s04.trans (s5.trans s6)
          have k0' := k0.same (s5.trans s6)
          have b0 := fork_high ps (sideF fs 48 ps.length)
          have b1 := fork_high ps (sideF fs 49 ps.length)
          walk_at "rd"
          refine kEqF_fork k0' k1 (by omega) (by omega) ?_
          walk_at "rd"
          refine ite2 (fun c3 => ?_) fun c3 => ?_
          · refine q no H4 s06 ?_
            rw [ef]
            unfold joinK
            rw [if_pos c3]
            exact k0'
          · refine ⟨_, pl p, .inl (s06.seq h2), at_nat (l := (p :: ps).map pl) (i := 0) (by simp), by decide, fun t ht => q _ _ (s06.trans (same_new ht _)) ?_⟩
            rw [ef]
            unfold joinK
            rw [if_neg c3]
            exact ⟨t, _, _, rfl, upd_same, k0'.same (same_new ht _), k1.same (same_new ht _)⟩
theorem ok_fork_below (T : Top K mg) : Callee P w K mg base 19 "fork_below" ["firsts", "places"] (sp_fork_below K 16) := rec_fork_below T 16
theorem at_getD {l : List Nat} {i : Nat} (h : i < l.length) : atI l (i : Int) = some (l.getD i 0) := by
  rw [at_nat h]
  simp [h]
def sp_fork_parts (K : PySem.W.Frag) (m : Nat) : Sp := fun vs H Q _ => match vs with
  | [f, .str a, .str b] => ∃ (F : Fork) (W : Nat), FkV H F f ∧ high F < m ∧ high F ≤ 12 ∧ Asks W F ∧ a.cps.toList.length = W ∧ b.cps.toList.length = W ∧ W ≤ 1000 ∧
      ∀ q H', H q = none → Same H H' → Pairs H' q (cutF F a.cps.toList b.cps.toList) → Q (.ref q) H'
  | _ => False
theorem rec_fork_parts (T : Top K mg) : ∀ m : Nat, Callee P w K mg base (m + 2) "fork_parts" ["fork", "row", "over"] (sp_fork_parts K m) := by
  intro m
  induction m with
  | zero =>
    refine T.f_fork_parts.cal sc_fork_parts (by intro vs H Q E h; unfold sp_fork_parts at h; split at h <;> first | rfl | exact h.elim) (fun _ _ _ _ _ _ us hl => match us, hl with | [_, _, _], _ => rfl) (fun f cdv A outer s H vs Q E hr h => ?_)
    unfold sp_fork_parts at h
    split at h
    case h_2 => exact h.elim
    obtain ⟨_, _, _, hn, _⟩ := h
    exact absurd hn (Nat.not_lt_zero _)
  | succ m ih =>
    refine T.f_fork_parts.cal sc_fork_parts (by intro vs H Q E h; unfold sp_fork_parts at h; split at h <;> first | rfl | exact h.elim) (fun _ _ _ _ _ _ us hl => match us, hl with | [_, _, _], _ => rfl) (fun f cdv A outer s H vs Q E hr h => ?_)
    unfold sp_fork_parts at h
    split at h
    case h_2 => exact h.elim
    refine ⟨_, (pss_cons (ps_if (qt_val (qe_isinst .int rfl T.b_isinstance (qv 0) rfl T.b_int bb_int)) (pss_one (ps_ret (pe_lst (pa_cons (pe_tup (pa_cons (qv 1) (pa_cons (qv 0) pa_nil))) pa_nil)))) pss_nil)
      (pss_cons (ps_set (i := 3) sc_fork_parts.nd rfl (by first | exact Or.inl rfl | exact Or.inr rfl) (pe_ix (ixE K rfl) (qv 0) pe_int (fun _ _ => rfl)))
      (pss_cons (ps_set (i := 4) sc_fork_parts.nd rfl (by first | exact Or.inl rfl | exact Or.inr rfl) (pe_ifExp (qt_cmp op_eqK (pe_ix (ixE K rfl) (qv 2) (qv 3) (fun _ _ => rfl)) (qs [45])) (pe_ix (ixE K rfl) (qv 1) (qv 3) (fun _ _ => rfl)) (pe_ix (ixE K rfl) (qv 2) (qv 3) (fun _ _ => rfl))))
      (pss_cons (ps_if (qt_cmp op_eqK (qv 4) (qs [45])) (pss_cons (ps_set (i := 5) sc_fork_parts.nd rfl (by first | exact Or.inl rfl | exact Or.inr rfl) (pe_fn ih (hr.mono (by first | decide | omega)) rfl (pa_cons (pe_ix (ixE K rfl) (qv 0) pe_int (fun _ _ => rfl)) (pa_cons (pe_fn (ok_row_with T) (hr.mono (by first | decide | omega)) rfl (pa_cons (qv 1) (pa_cons (qv 3) (pa_cons (qs [48]) pa_nil)))) (pa_cons (qv 2) pa_nil)))))
      (pss_one (ps_ret (pe_op op_addK (qv 5) (pe_fn ih (hr.mono (by first | decide | omega)) rfl (pa_cons (pe_ix (ixE K rfl) (qv 0) pe_int (fun _ _ => rfl)) (pa_cons (pe_fn (ok_row_with T) (hr.mono (by first | decide | omega)) rfl (pa_cons (qv 1) (pa_cons (qv 3) (pa_cons (qs [49]) pa_nil)))) (pa_cons (qv 2) pa_nil)))))))) pss_nil)
      (pss_one (ps_ret (pe_fn ih (hr.mono (by first | decide | omega)) rfl (pa_cons (pe_ifExp (qt_cmp op_eqK (qv 4) (qs [48])) (pe_ix (ixE K rfl) (qv 0) pe_int (fun _ _ => rfl)) (pe_ix (ixE K rfl) (qv 0) pe_int (fun _ _ => rfl))) (pa_cons (qv 1) (pa_cons (qv 2) pa_nil)))))))))), ?_⟩
    rename_i fv a b
    obtain ⟨r, rfl⟩ : ∃ x, a = st x := ⟨_, (st_eta a).symm⟩
    obtain ⟨o, rfl⟩ : ∃ x, b = st x := ⟨_, (st_eta b).symm⟩
    obtain ⟨F, W, hF, hm, hm12, hA, l1, l2, hW, q⟩ := h
    simp only [st_cps] at l1 l2 q
    cases F with
    | leaf n =>
      obtain rfl : fv = .int n := hF
      walk_at "rd"
      refine ⟨by decide, fun t ht => ⟨by decide, fun l hl => q l _ ((same_new ht _).free hl) ((same_new ht _).trans (same_new hl _)) ⟨_, upd_same, .cons ⟨t, rfl, ?_⟩ .nil⟩⟩⟩
      rw [upd_ne (ne_of_none upd_same hl), upd_same]
    | ask p x y =>
      obtain ⟨t, u, v, rfl, e, k0, k1⟩ := hF
      obtain ⟨hp, a0, a1⟩ := hA
      have hm : max (high x) (high y) + 1 < m + 1 := hm
      have hm12 : max (high x) (high y) + 1 ≤ 12 := hm12
      have c0 := cut_len x (r.set p 48) o
      have c1 := cut_len y (r.set p 49) o
      have b0 : 2 ^ high x ≤ 2 ^ 12 := Nat.pow_le_pow_right (by decide) (by omega)
      have b1 : 2 ^ high y ≤ 2 ^ 12 := Nat.pow_le_pow_right (by decide) (by omega)
      walk_at "rd"
      refine .inr ⟨⟨_, e⟩, _, _, .inr (SqT.of e), rfl, ?_⟩
      walk_at "rd"
      have go : ∀ (sgn : Nat), signF p r o = sgn → cutF (.ask p x y) r o = if sgn = 45 then cutF x (r.set p 48) o ++ cutF y (r.set p 49) o else if sgn = 48 then cutF x r o else cutF y r o := fun sgn z => by rw [cutF, z]
      refine ⟨by omega, _, at_getD (by omega), ite2 (fun c => ⟨by omega, _, at_getD (by omega), ?_⟩) fun c => ⟨by omega, _, at_getD (by omega), ?_⟩⟩
      · have es := go (r.getD p 0) (by unfold signF; rw [if_pos c])
        generalize r.getD p 0 = sgn at es
        walk_at "rd"
        refine ite2 (fun g1 => ?_) fun g1 => ?_
        · rw [if_pos g1] at es
          refine ⟨_, _, .inr (SqT.of e), rfl, 48, rfl, by omega, by simp only [st_cps]; omega, by simp only [st_cps]; omega, ?_⟩
          simp only [st_cps, Int.toNat_natCast]
          refine ⟨x, W, k0, by omega, by omega, a0, by simpa using l1, by simpa using l2, hW, fun z0 H1 f0 s1 u0 => ?_⟩
          simp only [st_cps] at u0
          refine ⟨_, _, .inr (SqT.of (s1 _ _ e)), rfl, 49, rfl, by omega, by simp only [st_cps]; omega, by simp only [st_cps]; omega, ?_⟩
          simp only [st_cps, Int.toNat_natCast]
          refine ⟨y, W, k1.same s1, by omega, by omega, a1, by simpa using l1, by simpa using l2, hW, fun z1 H2 f1 s2 u1 => ?_⟩
          simp only [st_cps] at u1
          obtain ⟨x8, e8, y8⟩ := u0.same s2
          obtain ⟨x9, e9, y9⟩ := u1
          have z8 := y8.length
          have z9 := y9.length
          walk_at "rd"
          refine ⟨_, _, e8, e9, by rw [sizeLine_eq]; omega, fun z2 f2 => ?_⟩
          have s02 := s1.trans s2
          refine q z2 _ (s02.free f2) (s02.trans (same_new f2 _)) ?_
          rw [es]
          exact ⟨_, upd_same, L2.Paired.mapP (paired_app y8 y9) fun _ _ ⟨t, e, h⟩ => ⟨t, e, same_new f2 _ _ _ h⟩⟩
        · rw [if_neg g1] at es
          refine ite2 (fun g2 => ⟨_, _, .inr (SqT.of e), rfl, ?_⟩) fun g2 => ⟨_, _, .inr (SqT.of e), rfl, ?_⟩
          · rw [if_pos g2] at es
            refine ⟨x, W, k0, by omega, by omega, a0, by simpa using l1, by simpa using l2, hW, fun z0 H1 f0 s1 u0 => q z0 H1 f0 s1 ?_⟩
            simp only [st_cps] at u0
            rw [es]
            exact u0
          · rw [if_neg g2] at es
            refine ⟨y, W, k1, by omega, by omega, a1, by simpa using l1, by simpa using l2, hW, fun z0 H1 f0 s1 u0 => q z0 H1 f0 s1 ?_⟩
            simp only [st_cps] at u0
            rw [es]
            exact u0
      · have es := go (o.getD p 0) (by unfold signF; rw [if_neg c])
        generalize o.getD p 0 = sgn at es c
        walk_at "rd"
        refine ite2 (fun g1 => absurd g1 c) fun g1 => ?_
        rw [if_neg g1] at es
        refine ite2 (fun g2 => ⟨_, _, .inr (SqT.of e), rfl, ?_⟩) fun g2 => ⟨_, _, .inr (SqT.of e), rfl, ?_⟩
        · rw [if_pos g2] at es
          refine ⟨x, W, k0, by omega, by omega, a0, by simpa using l1, by simpa using l2, hW, fun z0 H1 f0 s1 u0 => q z0 H1 f0 s1 ?_⟩
          simp only [st_cps] at u0
          rw [es]
          exact u0
        · rw [if_neg g2] at es
          refine ⟨y, W, k1, by omega, by omega, a1, by simpa using l1, by simpa using l2, hW, fun z0 H1 f0 s1 u0 => q z0 H1 f0 s1 ?_⟩
          simp only [st_cps] at u0
          rw [es]
          exact u0
theorem ok_fork_parts (T : Top K mg) : Callee P w K mg base 18 "fork_parts" ["fork", "row", "over"] (sp_fork_parts K 16) := rec_fork_parts T 16
theorem pairs_zip {xs : List Pr} {vs : List V} (h : xs.length = vs.length) : (xs.zip vs).map Prod.snd = vs := List.map_snd_zip (by omega)
theorem flat_fst : ∀ (l : List Pr) (m : List V), l.length = m.length → ((l.zip m).flatMap fun pr => [tx pr.1.1]) = (l.map Prod.fst).map tx
  | [], _, _ => rfl
  | x :: l, [], h => by cases h
  | x :: l, v :: m, h => by
    rw [List.zip_cons_cons, List.flatMap_cons, flat_fst l m (by simpa using h)]
    rfl
theorem flat_keep {α : Type} (f : α → V) (k : α → Bool) : ∀ l : List α, (l.flatMap fun x => if k x = true then [f x] else []) = (l.filter k).map f
  | [] => rfl
  | x :: l => by
    rw [List.flatMap_cons, flat_keep f k l, List.filter_cons]
    split <;> rfl
def sp_fork_of (K : PySem.W.Frag) : Sp := fun vs H Q _ => match vs with
  | [.ref p, .str r] => ∃ hs : List (List Nat), H p = some (.lst (hs.map tx)) ∧ (∀ x ∈ hs, x.length = r.cps.toList.length) ∧ r.cps.toList.length ≤ 1000 ∧ hs.length ≤ 500 ∧ (asked hs r.cps.toList).length ≤ 12 ∧ ∀ v H', Same H H' → FkV H' (forkOf hs r.cps.toList) v → Q v H'
  | _ => False
theorem ok_fork_of (T : Top K mg) : Callee P w K mg base 20 "fork_of" ["heap", "row"] (sp_fork_of K) := by
  refine T.f_fork_of.cal sc_fork_of (by intro vs H Q E h; unfold sp_fork_of at h; split at h <;> first | rfl | exact h.elim) (fun _ _ _ _ _ _ us hl => match us, hl with | [_, _], _ => rfl) (fun f cdv A outer s H vs Q E hr h => ?_)
  unfold sp_fork_of at h
  split at h
  case h_2 => exact h.elim
  refine ⟨_, (pss_cons (ps_set (i := 2) sc_fork_of.nd rfl (by first | exact Or.inl rfl | exact Or.inr rfl) (pe_op op_addK (qv 0) (pe_lst (pa_cons (pe_op op_mulK (qs [45]) (pe_callB (lenE K rfl) rfl T.b_len bb_len (pa_cons (qv 1) pa_nil))) pa_nil))))
      (pss_cons (ps_setC (i := 3) (nt := 2) (fi := [1]) (N' := ["number", "mine", "row"]) sc_fork_of.nd rfl (by first | exact Or.inl rfl | exact Or.inr rfl) rfl (cscope rfl (by decide +kernel)) (cnames (N := ["heap", "row", "rows", "met", "places"]) (sc := defScope s_fork_of) rfl rfl (by decide +kernel)) (gk_tup2 (by decide) (by decide)) (qi_enumL K rfl rfl T.b_enumerate (qv 2)) (fun _ _ _ _ _ => (tupE K rfl rfl (n := 2) (pgs_cons (pg_name (i := 0) (by show (["number", "mine", "row"] : List Str).Nodup; decide +kernel) rfl (by first | exact Or.inl rfl | exact Or.inr rfl)) (pgs_cons (pg_name (i := 1) (by show (["number", "mine", "row"] : List Str).Nodup; decide +kernel) rfl (by first | exact Or.inl rfl | exact Or.inr rfl)) pgs_nil)))) (fun _ _ _ _ _ => (pif_one (qt_cmp op_isnotK (pe_fn (ok_row_meet T) (hr.mono (by first | decide | omega)) rfl (pa_cons (qv 1) (pa_cons (qv 2) pa_nil))) pe_non))) (fun _ _ _ _ _ => (pe_tup (pa_cons (qv 1) (pa_cons (qv 0) pa_nil)))))
      (pss_cons (ps_set (i := 4) sc_fork_of.nd rfl (by first | exact Or.inl rfl | exact Or.inr rfl) (qe_comp (nt := 1) (fi := [1]) (N' := ["place", "row"]) rfl (cscope rfl (by decide +kernel)) (cnames (N := ["heap", "row", "rows", "met", "places"]) (sc := defScope s_fork_of) rfl rfl (by decide +kernel)) (gk_name (by decide)) (iterE K rfl (pe_fn (ok_heap_places T) (hr.mono (by first | decide | omega)) rfl (pa_cons (qe_comp (nt := 2) (fi := []) (N' := ["mine", "number"]) rfl (cscope rfl (by decide +kernel)) (cnames (N := ["heap", "row", "rows", "met", "places"]) (sc := defScope s_fork_of) rfl rfl (by decide +kernel)) (gk_tup2 (by decide) (by decide)) (iterE K rfl (qv 3)) (fun _ _ _ _ _ => (tupE K rfl rfl (n := 2) (pgs_cons (pg_name (i := 0) (by show (["mine", "number"] : List Str).Nodup; decide +kernel) rfl (by first | exact Or.inl rfl | exact Or.inr rfl)) (pgs_cons (pg_name (i := 1) (by show (["mine", "number"] : List Str).Nodup; decide +kernel) rfl (by first | exact Or.inl rfl | exact Or.inr rfl)) pgs_nil)))) (fun _ _ _ _ _ => pif_nil) (fun _ _ _ _ _ => (qv 0))) pa_nil))) (fun _ _ _ _ _ => (pg_name (i := 0) (by show (["place", "row"] : List Str).Nodup; decide +kernel) rfl (by first | exact Or.inl rfl | exact Or.inr rfl))) (fun _ _ _ _ _ => (pif_one (qt_cmp op_eqK (pe_ix (ixE K rfl) (qv 1) (qv 0) (fun _ _ => rfl)) (qs [45])))) (fun _ _ _ _ _ => (qv 0))))
      (pss_one (ps_ret (pe_fn (ok_fork_below T) (hr.mono (by first | decide | omega)) rfl (pa_cons (pe_fn (ok_firsts_of T) (hr.mono (by first | decide | omega)) rfl (pa_cons (qe_comp (nt := 2) (fi := [4]) (N' := ["mine", "number", "places"]) rfl (cscope rfl (by decide +kernel)) (cnames (N := ["heap", "row", "rows", "met", "places"]) (sc := defScope s_fork_of) rfl rfl (by decide +kernel)) (gk_tup2 (by decide) (by decide)) (iterE K rfl (qv 3)) (fun _ _ _ _ _ => (tupE K rfl rfl (n := 2) (pgs_cons (pg_name (i := 0) (by show (["mine", "number", "places"] : List Str).Nodup; decide +kernel) rfl (by first | exact Or.inl rfl | exact Or.inr rfl)) (pgs_cons (pg_name (i := 1) (by show (["mine", "number", "places"] : List Str).Nodup; decide +kernel) rfl (by first | exact Or.inl rfl | exact Or.inr rfl)) pgs_nil)))) (fun _ _ _ _ _ => pif_nil) (fun _ _ _ _ _ => (pe_tup (pa_cons (pe_fn (ok_row_narrowed T) (hr.mono (by first | decide | omega)) rfl (pa_cons (qv 0) (pa_cons (qv 2) pa_nil))) (pa_cons (qv 1) pa_nil))))) (pa_cons (pe_callB (lenE K rfl) rfl T.b_len bb_len (pa_cons (qv 4) pa_nil)) pa_nil))) (pa_cons (qv 4) pa_nil)))))))), ?_⟩
  rename_i p r
  obtain ⟨r, rfl⟩ : ∃ x, r = st x := ⟨_, (st_eta r).symm⟩
  obtain ⟨hs, h1, h2, h3, h4, h5, q⟩ := h
  simp only [st_cps] at h2 h3 h5 q
  walk_at "rd"
  refine ⟨by omega, by omega, by omega, by decide, fun z hz => ?_⟩
  refine ⟨_, _, same_new hz _ _ _ h1, upd_same, by rw [List.length_map, sizeLine_eq]; simp; omega, fun ra hra => ?_⟩
  have er : upd (upd H z (.lst [V.str (st (List.replicate (r.length : Int).toNat 45))])) ra (.lst (hs.map tx ++ [V.str (st (List.replicate (r.length : Int).toNat 45))])) = upd (upd H z (.lst [tx (dashes r.length)])) ra (.lst ((hs ++ [dashes r.length]).map tx)) := by
    rw [Int.toNat_natCast, List.map_append]
    rfl
  have s1 : Same H (upd (upd H z (.lst [tx (dashes r.length)])) ra (.lst ((hs ++ [dashes r.length]).map tx))) := by
    rw [← er]
    exact (same_new hz _).trans (same_new hra _)
  rw [er]
  generalize hrows : hs ++ [dashes r.length] = rows at s1
  have hrl : rows.length ≤ 501 := by rw [← hrows]; simp; omega
  have hrw : ∀ x ∈ rows, x.length = r.length := fun x hx => by
    rw [← hrows] at hx
    rcases List.mem_append.mp hx with hx | hx
    · exact h2 x hx
    · rw [List.mem_singleton.mp hx]
      simp [dashes]
  have e1 : upd (upd H z (.lst [tx (dashes r.length)])) ra (.lst (rows.map tx)) ra = some (.lst (rows.map tx)) := upd_same
  generalize upd (upd H z (.lst [tx (dashes r.length)])) ra (.lst (rows.map tx)) = H1 at s1 e1
  walk_at "rd"
  refine ⟨⟨_, SqL.of e1⟩, fun D hD => ?_⟩
  refine comp_gen (xs := rows.zipIdx) (keep := fun q => okL q.1 r) (R := fun x v H' => PairAt H' x v) hD (by rw [List.length_zipIdx]; omega) ?_ ?_ ?_ ?_ ?_ ?_
  · intro i H2 hi s2
    rw [List.length_zipIdx] at hi
    exact ⟨_, tx rows[i], SqL.of (s2 _ _ e1), by rw [List.getElem?_map, List.getElem?_eq_getElem hi]; rfl⟩
  · intro H2 s2
    exact ⟨_, SqL.of (s2 _ _ e1), by rw [List.length_zipIdx, List.length_map]⟩
  · rintro i H2 v H3 hi ⟨Tt, x, rfl, hT, _, rfl⟩
    exact same_new hT _
  · rintro x v H2 H3 acc hd k ⟨t, e, r⟩
    exact ⟨t, e, k _ _ (fun z => by subst z; rw [hd] at r; cases r) r⟩
  · rintro i x v H2 H3 out non hx s2 ⟨Tt, y, rfl, hT, hxi, rfl⟩ ho hno
    have hi : i < rows.length := by
      have := (List.getElem?_eq_some_iff.mp hx).1
      simpa using this
    have ex : x = (rows[i], i) := by
      rw [List.getElem?_zipIdx, List.getElem?_eq_getElem hi] at hx
      have := Option.some.inj hx
      rw [← this, Nat.zero_add]
    subst ex
    have ey := hxi _ (SqL.of (s2 _ _ e1))
    rw [List.getElem?_map, List.getElem?_eq_getElem hi] at ey
    obtain rfl : tx rows[i] = y := Option.some.inj ey
    have hrl' := hrw _ (List.getElem_mem hi)
    refine ⟨Tt, [.int i, tx rows[i]], rfl, SqT.upd_same, rfl, .int i, [tx rows[i]], rfl, tx rows[i], [], rfl, rfl, ?_⟩
    walk_at "rd"
    refine ⟨by simp only [st_cps]; omega, fun H4 s4 => ?_⟩
    simp only [st_cps]
    unfold meetV
    cases hk : okL rows[i] r with
    | true =>
      walk_at "rd"
      exact ⟨by decide, fun t ht => ho _ _ hk (s4.trans (same_new ht _)) ⟨t, rfl, upd_same⟩⟩
    | false =>
      walk_at "rd"
      exact hno _ hk s4
  intro H2 ws s2 e2 pr
  have hmet : rows.zipIdx.filter (fun q => okL q.1 r) = metL hs r := by unfold metL; rw [hrows]
  rw [hmet] at pr
  have mw : ∀ x ∈ metL hs r, x.1.length = r.length := fun x hx => (met_rows h2 hx).1
  have ml : (metL hs r).length ≤ 501 := by
    rw [← hmet]
    refine Nat.le_trans (List.length_filter_le _ _) ?_
    rw [List.length_zipIdx]
    exact hrl
  have hz := pr.length
  have hS : SqL K H2 D (((metL hs r).zip ws).map Prod.snd) := by rw [pairs_zip hz]; exact SqL.of e2
  walk_at "rd"
  refine .inl ⟨⟨_, hS⟩, fun D2 hD2 => ?_⟩
  refine comp_list (item := Prod.snd) (xs := (metL hs r).zip ws) (h := fun x => [tx x.1.1]) hD2 hS (by rw [List.length_zip]; omega) (fun _ => by simp) ?_ ?_
  · rintro ⟨x, v⟩ H3 out non hm s3 ho hno
    obtain ⟨t, rfl, et⟩ := paired_mem pr _ hm
    refine ⟨t, [tx x.1, .int x.2], rfl, SqT.of (s3 _ _ et), rfl, tx x.1, [.int x.2], rfl, .int x.2, [], rfl, rfl, ?_⟩
    walk_at "rd"
    exact ho _ _ rfl (Same.refl _)
  intro H3 s3 e3
  rw [flat_fst _ _ hz] at e3
  have hd0 : dashes r.length ∈ (metL hs r).map Prod.fst := List.mem_map.mpr ⟨_, dash_met hs r, rfl⟩
  have hw0 : ∀ x ∈ (metL hs r).map Prod.fst, x.length = r.length := fun x hx => by
    obtain ⟨y, hy, rfl⟩ := List.mem_map.mp hx
    exact mw y hy
  refine ⟨(metL hs r).map Prod.fst, r.length, SqL.of e3, hw0, h3, by rw [List.length_map]; omega, fun pa H4 f4 s4 e4 => ?_⟩
  have hhd : (((metL hs r).map Prod.fst).headD []).length = r.length := headLen_n hw0 hd0
  rw [hhd] at e4
  have lt4 : ∀ i ∈ placesL ((metL hs r).map Prod.fst) r.length, i < r.length := fun i hi => places_lt hi
  have pl4 : (placesL ((metL hs r).map Prod.fst) r.length).length ≤ 1000 := by
    have := List.length_filter_le (told ((metL hs r).map Prod.fst)) (List.range r.length)
    rw [List.length_range] at this
    exact Nat.le_trans this h3
  refine .inl ⟨⟨_, SqL.of e4⟩, fun D3 hD3 => ?_⟩
  refine comp_list (item := pl) (xs := placesL ((metL hs r).map Prod.fst) r.length) (h := fun i => if decide (r.getD i 0 = 45) = true then [pl i] else []) hD3 (SqL.of e4) (by omega) (fun _ => by split <;> simp) ?_ ?_
  · intro i H5 out non hi s5 ho hno
    have := lt4 i hi
    walk_at "rd"
    exact ⟨by omega, _, at_getD this, ite2 (fun g => ho _ _ (if_pos (decide_eq_true g)) (Same.refl _)) fun g => hno _ (if_neg (by simpa using g)) (Same.refl _)⟩
  intro H5 s5 e5
  rw [flat_keep pl fun i => decide (r.getD i 0 = 45)] at e5
  have e5 : H5 D3 = some (.lst ((asked hs r).map pl)) := e5
  have s25 := s3.trans (s4.trans s5)
  have pr5 := L2.Paired.mapP pr fun _ _ (h : PairAt H2 _ _) => (⟨h.choose, h.choose_spec.1, s25 _ _ h.choose_spec.2⟩ : PairAt H5 _ _)
  have hS5 := s25.seq hS
  walk_at "rd"
  refine .inl ⟨⟨_, hS5⟩, fun D4 hD4 => ?_⟩
  refine comp_rel (K := K) Prod.snd ((metL hs r).zip ws) (fun _ => true) (fun x v H' => PairAt H' (narrow x.1.1 (asked hs r), x.1.2) v) hD4 hS5 (by rw [List.length_zip]; omega) ?_ ?_ ?_
  · rintro x v H6 H7 acc hd k ⟨t, e, q⟩
    exact ⟨t, e, k _ _ (fun z => by subst z; rw [hd] at q; cases q) q⟩
  · rintro ⟨x, v⟩ H6 out non hm s6 ho _
    obtain ⟨t, rfl, et⟩ := paired_mem pr5 _ hm
    have hx := mw x (List.of_mem_zip hm).1
    refine ⟨t, [tx x.1, .int x.2], rfl, SqT.of (s6 _ _ et), rfl, tx x.1, [.int x.2], rfl, .int x.2, [], rfl, rfl, ?_⟩
    walk_at "rd"
    refine ⟨asked hs r, s6.seq (SqL.of e5), fun i hi => ?_, by simp only [st_cps]; omega, by omega, fun H7 s7 => ?_⟩
    · have := (asked_lt hi).1
      simp only [st_cps]
      omega
    · simp only [st_cps]
      walk_at "rd"
      exact ⟨by decide, fun t2 ht2 => ho _ _ rfl (s7.trans (same_new ht2 _)) ⟨t2, rfl, upd_same⟩⟩
  intro H6 us s6 e6 pr6
  rw [List.filter_eq_self.mpr fun _ _ => rfl] at pr6
  have e56 := s6 _ _ e5
  walk_at "rd"
  refine ⟨_, .inl (SqL.of e56), pairsL hs r, (asked hs r).length, by rw [List.length_map], by omega, ⟨us, e6, ?_⟩, by unfold pairsL; rw [List.length_map]; omega, fun d ob H7 f7 s7 e7 => ?_⟩
  · exact paired_mapL (paired_zip (F := fun x v => PairAt H6 (narrow x.1 (asked hs r), x.2) v) hz pr6)
  have fl := firsts_len (asked hs r).length (pairsL hs r) []
  have fl2 : (pairsL hs r).length = (metL hs r).length := by unfold pairsL; rw [List.length_map]
  rw [List.length_nil] at fl
  refine ⟨ob, _, asked hs r, by omega, h5, e7, SqL.of (s7 _ _ e56), firsts_ok hs r, firsts_asc _ _ [] List.Pairwise.nil (pairs_asc hs r) (fun a ha => by cases ha), by omega, fun v H8 s8 k8 => ?_⟩
  exact q v H8 (s1.trans (s2.trans (s25.trans (s6.trans (s7.trans s8))))) k8
def sharesOf (hs : List (List Nat)) (r : List Nat) : List Pr := cutF (forkOf hs r) r (dashes r.length)
def sp_heap_shares (K : PySem.W.Frag) : Sp := fun vs H Q _ => match vs with
  | [.ref p, .str r] => ∃ hs : List (List Nat), H p = some (.lst (hs.map tx)) ∧ (∀ x ∈ hs, x.length = r.cps.toList.length) ∧ r.cps.toList.length ≤ 1000 ∧ hs.length ≤ 500 ∧ (asked hs r.cps.toList).length ≤ 12 ∧ ∀ q H', H q = none → Same H H' → Pairs H' q (sharesOf hs r.cps.toList) → Q (.ref q) H'
  | _ => False
theorem of_high (hs : List (List Nat)) (r : List Nat) : high (forkOf hs r) ≤ (asked hs r).length := fork_high _ _
theorem of_asks (hs : List (List Nat)) (r : List Nat) : Asks r.length (forkOf hs r) := fork_asks _ _ fun p hp => (asked_lt hp).1
theorem ok_heap_shares (T : Top K mg) : Callee P w K mg base 21 "heap_shares" ["heap", "row"] (sp_heap_shares K) := by
  refine T.f_heap_shares.cal sc_heap_shares (by intro vs H Q E h; unfold sp_heap_shares at h; split at h <;> first | rfl | exact h.elim) (fun _ _ _ _ _ _ us hl => match us, hl with | [_, _], _ => rfl) (fun f cdv A outer s H vs Q E hr h => ?_)
  unfold sp_heap_shares at h
  split at h
  case h_2 => exact h.elim
  refine ⟨_, (pss_one (ps_ret (pe_fn (ok_fork_parts T) (hr.mono (by first | decide | omega)) rfl (pa_cons (pe_fn (ok_fork_of T) (hr.mono (by first | decide | omega)) rfl (pa_cons (qv 0) (pa_cons (qv 1) pa_nil))) (pa_cons (qv 1) (pa_cons (pe_op op_mulK (qs [45]) (pe_callB (lenE K rfl) rfl T.b_len bb_len (pa_cons (qv 1) pa_nil))) pa_nil)))))), ?_⟩
  rename_i p r
  obtain ⟨r, rfl⟩ : ∃ x, r = st x := ⟨_, (st_eta r).symm⟩
  obtain ⟨hs, h1, h2, h3, h4, h5, q⟩ := h
  simp only [st_cps] at h2 h3 h5 q
  have hh := of_high hs r
  walk_at "rd"
  refine ⟨hs, h1, by simpa using h2, by simpa using h3, h4, by simpa using h5, fun v H1 s1 k1 => ?_⟩
  simp only [st_cps] at k1
  refine ⟨by omega, by omega, by omega, ?_⟩
  rw [Int.toNat_natCast]
  refine ⟨forkOf hs r, r.length, k1, by omega, by omega, of_asks hs r, by simp, by simp, h3, fun z H2 f2 s2 u2 => q z H2 (s1.free f2) (s1.trans s2) ?_⟩
  simp only [st_cps] at u2
  exact u2
def doorAt (ws : List (List Nat × List Nat)) (s : List Nat) (n : Nat) : Option (List Nat) := (ws.find? fun w => decide (w.1 = s.take n)).map Prod.snd
def doorD (ws : List (List Nat × List Nat)) (s : List Nat) : Nat → Option (List Nat)
  | 0 => none
  | n + 1 => match doorAt ws s n with
    | some d => some d
    | none => doorD ws s n
theorem door_none {ws : List (List Nat × List Nat)} {s : List Nat} : ∀ k, (∀ n, n < k → doorAt ws s n = none) → doorD ws s k = none
  | 0, _ => rfl
  | k + 1, h => by
    rw [doorD, h k (by omega)]
    exact door_none k fun n hn => h n (by omega)
theorem door_some {ws : List (List Nat × List Nat)} {s : List Nat} {m : Nat} {d : List Nat} (hd : doorAt ws s m = some d) : ∀ k, m < k → (∀ n, m < n → n < k → doorAt ws s n = none) → doorD ws s k = some d
  | 0, h, _ => absurd h (by omega)
  | k + 1, h, q => by
    rw [doorD]
    by_cases e : m = k
    · subst e; rw [hd]
    · rw [q k (by omega) (by omega)]
      exact door_some hd k (by omega) fun n h1 h2 => q n h1 (by omega)
abbrev Way := List Nat × List Nat
def WayAt (H : Hp) (x : Way) (v : V) : Prop := ∃ t, v = .ref t ∧ H t = some (.tup [tx x.1, tx x.2])
def Ways (H : Hp) (p : Addr) (ws : List Way) : Prop := ∃ vs, H p = some (.lst vs) ∧ Paired (WayAt H) ws vs
theorem ways_keep {H H' : Hp} (k : ∀ t vs, H t = some (.tup vs) → H' t = some (.tup vs)) {ws : List Way} {vs : List V} (h : Paired (WayAt H) ws vs) : Paired (WayAt H') ws vs :=
  L2.Paired.mapP h fun _ _ ⟨t, e, q⟩ => ⟨t, e, k _ _ q⟩
theorem keep_lst {H : Hp} {g : Addr} {xs ys : List V} (h : H g = some (.lst xs)) : ∀ t vs, H t = some (.tup vs) → upd H g (.lst ys) t = some (.tup vs) := fun t vs q => by
  rw [upd_ne (fun e => by rw [e, h] at q; cases q)]
  exact q
theorem Ways.same {H H' : Hp} {p : Addr} {ws : List Way} (h : Ways H p ws) (s : Same H H') : Ways H' p ws := by
  obtain ⟨vs, e, pr⟩ := h
  exact ⟨vs, s _ _ e, ways_keep (fun t us q => s _ _ q) pr⟩
theorem paired_snoc {α β : Type} {F : α → β → Prop} {l : List α} {m : List β} {x : α} {y : β} (h : Paired F l m) (r : F x y) : Paired F (l ++ [x]) (m ++ [y]) := by
  induction h with
  | nil => exact .cons r .nil
  | cons r' _ ih => exact .cons r' ih
def wayD (x : Way) : D := .t [.f (tx x.1), .f (tx x.2)]
theorem ways_deep {H : Hp} {p : Addr} {ws : List Way} (h : Ways H p ws) : Deep K H 2 (.ref p) (.l (ws.map wayD)) := by
  obtain ⟨vs, e, pr⟩ := h
  refine .inr (.inl ⟨p, vs, ws.map wayD, rfl, rfl, SqL.of e, ?_⟩)
  clear e
  induction pr with
  | nil => exact .nil
  | cons r _ ih =>
    obtain ⟨t, rfl, q⟩ := r
    exact .cons (.inr (.inr ⟨t, _, _, rfl, rfl, SqT.of q, .cons (deep_flat 0 rfl) (.cons (deep_flat 0 rfl) .nil)⟩)) ih
theorem eqDs_refl_way : ∀ ws : List Way, eqDs (ws.map wayD) (ws.map wayD) = true
  | [] => by simp [eqDs]
  | x :: ws => by
    rw [List.map_cons, eqDs, eqDs_refl_way ws]
    simp [wayD, eqD, eqDs, eqV]
def optV : Option (List Nat) → V
  | none => .non
  | some d => tx d
def sp__law_door (K : PySem.W.Frag) : Sp := fun vs H Q _ => match vs with
  | [.ref p, .str s] => ∃ ws : List Way, Ways H p ws ∧ s.cps.toList.length ≤ 1000 ∧ ∀ H', Same H H' → Q (optV (doorD ws s.cps.toList (s.cps.toList.length + 1))) H'
  | _ => False
theorem ok__law_door (T : Top K mg) : Callee P w K mg base 1 "_law_door" ["_law_ways_here", "_law_signs"] (sp__law_door K) := by
  refine T.f__law_door.cal sc__law_door (by intro vs H Q E h; unfold sp__law_door at h; split at h <;> first | rfl | exact h.elim) (fun _ _ _ _ _ _ us hl => match us, hl with | [_, _], _ => rfl) (fun f cdv A outer s H vs Q E hr h => ?_)
  unfold sp__law_door at h
  split at h
  case h_2 => exact h.elim
  refine ⟨_, (pss_cons (qs_for PassesOwn.never rfl (qi_range3 rfl T.b_range (pe_callB (lenE K rfl) rfl T.b_len bb_len (pa_cons (qv 1) pa_nil)) (qe_neg pe_int) (qe_neg pe_int)) (pg_name (i := 2) sc__law_door.nd rfl (by first | exact Or.inl rfl | exact Or.inr rfl)) (pss_one (qs_for PassesOwn.never rfl (iterE K rfl (qv 0)) (tupE K rfl rfl (n := 2) (pgs_cons (pg_name (i := 3) sc__law_door.nd rfl (by first | exact Or.inl rfl | exact Or.inr rfl)) (pgs_cons (pg_name (i := 4) sc__law_door.nd rfl (by first | exact Or.inl rfl | exact Or.inr rfl)) pgs_nil))) (pss_one (ps_if (qt_cmp op_eqK (qv 3) (pe_slice (slE K rfl) (qv 1) po_none (qo_some (qv 2)))) (pss_one (ps_ret (qv 4))) pss_nil)))))
      (pss_one (ps_ret pe_non))), ?_⟩
  rename_i p s
  obtain ⟨l, rfl⟩ : ∃ x, s = st x := ⟨_, (st_eta s).symm⟩
  obtain ⟨ws, h1, h2, q⟩ := h
  simp only [st_cps] at h2 q
  walk_at "rd"
  refine ⟨by omega, ⟨by omega, by omega⟩, ?_⟩
  have en : ((l.length : Int) - -1).toNat = l.length + 1 := by omega
  rw [en]
  refine loop_down (fun i σ H' => ∃ u v x, σ = [some (.ref p), some (.str (st l)), u, v, x] ∧ Same H H' ∧ doorD ws l (l.length + 1) = doorD ws l (l.length + 1 - i)) ⟨none, none, none, rfl, Same.refl _, rfl⟩ ?_ ?_
  · rintro i σ H1 hi ⟨u, v, x, rfl, s1, e1⟩
    have ek : l.length + 1 - i = (l.length - i) + 1 := by omega
    obtain ⟨vs, e0, pr⟩ := h1.same s1
    have hl := pr.length
    have e1' : doorD ws l (l.length + 1) = match doorAt ws l (l.length - i) with
        | some d => some d
        | none => doorD ws l (l.length - i) := by rw [e1, ek]; rfl
    walk_at "rd"
    refine .inl ⟨⟨_, SqL.of e0⟩, ?_⟩
    refine loop_list (xs := vs) (fun j σ H' => ∃ v x, σ = [some (.ref p), some (.str (st l)), some (.int ((l.length : Int) - i)), v, x] ∧ Same H1 H' ∧ ∀ y ∈ ws.take j, ¬ y.1 = l.take (l.length - i)) ⟨_, _, rfl, Same.refl _, fun y hy => by simp at hy⟩ (fun j σ H' _ ⟨_, _, _, z, _⟩ => SqL.of (z _ _ e0)) ?_ ?_
    · rintro j z σ H2 hz ⟨v, x, rfl, s2, h3⟩
      have hj : j < vs.length := (List.getElem?_eq_some_iff.mp hz).1
      have hjw : j < ws.length := by omega
      obtain ⟨y, hy, t, ey, et⟩ := paired_at pr (List.getElem?_eq_getElem hjw)
      obtain rfl : z = .ref t := by rw [hy] at hz; rw [← Option.some.inj hz, ey]
      have st1 : SqT K H2 t [tx ws[j].1, tx ws[j].2] := SqT.of (s2 _ _ et)
      refine ⟨t, [_, _], rfl, st1, rfl, _, [_], rfl, _, [], rfl, rfl, ?_⟩
      walk_at "rd"
      rw [show ((l.length : Int) - i).toNat = l.length - i by omega]
      refine ⟨by omega, by omega, by omega, ite2 (fun g => ?_) fun g => ⟨_, _, rfl, s2, fun y hy => ?_⟩⟩
      · have hd : doorAt ws l (l.length - i) = some ws[j].2 := by
          unfold doorAt
          have : ws.find? (fun w => decide (w.1 = l.take (l.length - i))) = some ws[j] := by
            rw [List.find?_eq_some_iff_append]
            exact ⟨by simpa using g, ws.take j, ws.drop (j + 1), by simp, fun y hy => by simpa using h3 y hy⟩
          rw [this]
          rfl
        have := q H2 (s1.trans s2)
        rw [e1', hd] at this
        exact this
      · rw [List.take_add_one, List.getElem?_eq_getElem hjw] at hy
        rcases List.mem_append.mp hy with hy | hy
        · exact h3 y hy
        · have e : y = ws[j] := by simpa using hy
          rw [e]
          exact g
    · rintro σ H2 ⟨v, x, rfl, s2, h3⟩
      walk_at "rd"
      have hd : doorAt ws l (l.length - i) = none := by
        unfold doorAt
        rw [List.find?_eq_none.mpr fun y hy => by simpa using h3 y (by rw [← hl, List.take_length]; exact hy)]
        rfl
      refine ⟨_, _, _, rfl, s1.trans s2, ?_⟩
      rw [e1', hd, show l.length + 1 - (i + 1) = l.length - i by omega]
  · rintro σ H1 ⟨u, v, x, rfl, s1, e1⟩
    walk_at "rd"
    have := q H1 s1
    rw [e1, Nat.sub_self] at this
    exact this
/-- the law's ways: whatever they are, so many pairs of a short text and a door -/
def sp__law_ways (K : PySem.W.Frag) : Sp := fun vs H Q _ => match vs with
  | [.ref a, .int k, .ref d] => ∃ (ns : List Int) (m : Nat) (dl : List (List Nat)), SqL K H a (ns.map V.int) ∧ k = (m : Int) ∧ m ≤ 48 ∧ ns.length ≤ 200 ∧ SqL K H d (dl.map tx) ∧ 1 ≤ dl.length ∧
      ∀ p H' ws, H p = none → Same H H' → Ways H' p ws → ws.length ≤ ns.length → (∀ x ∈ ws, x.1.length ≤ m ∧ IsLet x.1) → (ws.map fun x => x.1).Nodup → Q (.ref p) H'
  | _ => False
theorem ok__law_ways (T : Top K mg) : Callee P w K mg base 2 "_law_ways" ["_law_cells", "_law_most", "_law_doors_here"] (sp__law_ways K) := by
  refine T.f__law_ways.cal sc__law_ways (by intro vs H Q E h; unfold sp__law_ways at h; split at h <;> first | rfl | exact h.elim) (fun _ _ _ _ _ _ us hl => match us, hl with | [_, _, _], _ => rfl) (fun f cdv A outer s H vs Q E hr h => ?_)
  unfold sp__law_ways at h
  split at h
  case h_2 => exact h.elim
  refine ⟨_, (pss_cons (ps_set (i := 3) sc__law_ways.nd rfl (by first | exact Or.inl rfl | exact Or.inr rfl) (pe_lst pa_nil))
      (pss_cons (ps_set (i := 4) sc__law_ways.nd rfl (by first | exact Or.inl rfl | exact Or.inr rfl) (pe_lst pa_nil))
      (pss_cons (qs_for PassesOwn.never rfl (iterE K rfl (qv 0)) (pg_name (i := 5) sc__law_ways.nd rfl (by first | exact Or.inl rfl | exact Or.inr rfl)) (pss_cons (ps_set (i := 6) sc__law_ways.nd rfl (by first | exact Or.inl rfl | exact Or.inr rfl) (pe_op op_modK (qv 5) (pe_op op_addK (qv 1) pe_int)))
      (pss_cons (ps_set (i := 7) sc__law_ways.nd rfl (by first | exact Or.inl rfl | exact Or.inr rfl) (joinE K rfl (qe_comp (nt := 1) (fi := []) (N' := ["_law_number"]) rfl (cscope rfl (by decide +kernel)) (cnames (N := ["_law_cells", "_law_most", "_law_doors_here", "_law_found", "_law_known", "_law_cell", "_law_size", "_law_signs", "_law_at"]) (sc := defScope s__law_ways) rfl rfl (by decide +kernel)) (gk_name (by decide)) (iterE K rfl (pe_fn (ok__law_stream T) (hr.mono (by first | decide | omega)) rfl (pa_cons (pe_op op_modK (pe_op op_fdivK (qv 5) pe_int) pe_int) (pa_cons (qv 6) pa_nil)))) (fun _ _ _ _ _ => (pg_name (i := 0) (by show (["_law_number"] : List Str).Nodup; decide +kernel) rfl (by first | exact Or.inl rfl | exact Or.inr rfl))) (fun _ _ _ _ _ => pif_nil) (fun _ _ _ _ _ => (pe_ix (ixE K rfl) (qs [48, 49]) (pe_op op_modK (pe_op op_fdivK (qv 0) pe_int) pe_int) (fun _ _ => rfl))))))
      (pss_join (ps_if (PW.pt (pw_and (qt_cmp op_gtK (qv 6) pe_int) (pw_and1 (qt_cmp op_gtK (pe_op op_modK (pe_op op_fdivK (qv 5) pe_int) pe_int) pe_int)))) (pss_cons (ps_set (i := 8) sc__law_ways.nd rfl (by first | exact Or.inl rfl | exact Or.inr rfl) (pe_op op_modK (pe_op op_fdivK (qv 5) pe_int) (qv 6)))
      (pss_one (ps_set (i := 7) sc__law_ways.nd rfl (by first | exact Or.inl rfl | exact Or.inr rfl) (pe_op op_addK (pe_op op_addK (pe_slice (slE K rfl) (qv 7) po_none (qo_some (qv 8))) (pe_ix (ixE K rfl) (qs [49, 48]) (pe_callTy call_intK rfl T.b_int bb_int (pa_cons (pe_ix (ixE K rfl) (qv 7) (qv 8) (fun _ _ => rfl)) pa_nil)) (fun _ _ => rfl))) (pe_slice (slE K rfl) (qv 7) (qo_some (pe_op op_addK (qv 8) pe_int)) po_none))))) pss_nil)
      (pss_one (ps_if (qt_cmp (notinE K rfl) (qv 7) (qv 4)) (pss_cons (ps_expr (qe_append (qv 4) (qv 7)))
      (pss_one (ps_expr (qe_append (qv 3) (pe_tup (pa_cons (qv 7) (pa_cons (pe_ix (ixE K rfl) (qv 2) (pe_op op_modK (pe_op op_fdivK (qv 5) pe_int) (pe_callB (lenE K rfl) rfl T.b_len bb_len (pa_cons (qv 2) pa_nil))) (fun _ _ => rfl)) pa_nil))))))) pss_nil))))))
      (pss_one (ps_ret (qv 3)))))), ?_⟩
  rename_i a k d
  obtain ⟨ns, m, dl, h1, rfl, hm, hn, h2, hd, q⟩ := h
  walk_at "rd"
  refine ⟨by decide, fun g hg => ⟨by decide, fun kn hk => .inl ⟨⟨_, (same_new hk _).seq ((same_new hg _).seq h1)⟩, ?_⟩⟩⟩
  have ngk : g ≠ kn := ne_of_none upd_same hk
  have hk0 : H kn = none := (same_new hg (.lst [])).free hk
  refine loop_items V.int ns (fun i σ H' => ∃ (ws : List Way) (u1 u2 u3 u4 : Option V), σ = [some (.ref a), some (.int m), some (.ref d), some (.ref g), some (.ref kn), u1, u2, u3, u4] ∧ Same H H' ∧ Ways H' g ws ∧ H' kn = some (.lst ((ws.map fun x => x.1).map tx)) ∧
      ws.length ≤ i ∧ (∀ x ∈ ws, x.1.length ≤ m ∧ IsLet x.1) ∧ (ws.map fun x => x.1).Nodup)
    ⟨[], none, none, none, none, rfl, (same_new hg _).trans (same_new hk _), ⟨[], by rw [upd_ne ngk, upd_same], .nil⟩, upd_same, Nat.zero_le _, (fun x hx => by cases hx), List.nodup_nil⟩ (fun i σ H' _ ⟨_, _, _, _, _, _, z, _⟩ => z.seq h1) ?_ ?_
  · rintro i c σ H1 hc ⟨ws, u1, u2, u3, u4, rfl, s1, w1, e1, l1, hw, nd⟩
    have hi : i < ns.length := (List.getElem?_eq_some_iff.mp hc).1
    walk_at "rd"
    refine ⟨by omega, ?_⟩
    have hz0 : 0 ≤ c % ((m : Int) + 1) := Int.emod_nonneg _ (by omega)
    have hz1 : c % ((m : Int) + 1) < m + 1 := Int.emod_lt_of_pos _ (by omega)
    generalize c % ((m : Int) + 1) = sz at hz0 hz1 ⊢
    refine ⟨by omega, by omega, fun p H2 hp s2 e2 => .inl ⟨⟨_, SqL.of e2⟩, fun D hD => ?_⟩⟩
    refine comp_list (item := V.int) (xs := stream (c / 49 % 3) sz.toNat) (h := fun e => [sgn (bit (e / 8))]) hD (SqL.of e2) (by rw [stream_len]; omega) (fun _ => by simp) ?_ ?_
    · intro e H3 out non he s3 ho hn'
      walk_at "rd"
      exact ⟨_, at01 _, ho _ _ rfl (Same.refl _)⟩
    intro H3 s3 e3
    obtain ⟨B, hBl, hBs, e3⟩ : ∃ B : List Nat, (B.length : Int) = sz ∧ IsLet B ∧ H3 D = some (.lst (B.map sgn)) := by
      refine ⟨(stream (c / 49 % 3) sz.toNat).map fun e => bit (e / 8), by rw [List.length_map, stream_len]; omega, fun x hx => ?_, ?_⟩
      · obtain ⟨e, _, rfl⟩ := List.mem_map.mp hx
        exact bit_or _
      · rw [e3, flat_one' (fun e => sgn (bit (e / 8))), List.map_map]
        rfl
    have s13 := s2.trans s3
    have s03 := s1.trans s13
    refine ⟨B, SqL.of e3, by omega, fun σ' H' => ∃ (z : List Nat) (u : Option V), σ' = [some (.ref a), some (.int m), some (.ref d), some (.ref g), some (.ref kn), some (.int c), some (.int sz), some (tx z), u] ∧ (z.length : Int) = sz ∧ IsLet z ∧ H' = H3, ?_, ?_⟩
    · refine ite2 (fun g1 => ite2 (fun g2 => ?_) fun g2 => ⟨_, _, rfl, hBl, hBs, rfl⟩) fun g1 => ⟨_, _, rfl, hBl, hBs, rfl⟩
      have a0 : 0 ≤ c / 441 % sz := Int.emod_nonneg _ (by omega)
      have a1 : c / 441 % sz < sz := Int.emod_lt_of_pos _ g1
      obtain ⟨j, hj⟩ : ∃ j : Nat, c / 441 % sz = j := ⟨(c / 441 % sz).toNat, by omega⟩
      rw [hj] at a0 a1 ⊢
      have hjB : j < B.length := by omega
      have hc := hBs B[j] (List.getElem_mem hjB)
      refine ⟨g1, by omega, by omega, by omega, by omega, B[j], atI_nat (List.getElem?_eq_getElem hjB), by omega, by omega, 97 - B[j], ?_, ?_, by omega, by omega, by omega, ?_, _, _, rfl, ?_, ?_, rfl⟩
      · rcases hc with z | z <;> rw [z] <;> rfl
      · rw [List.length_take]; omega
      · simp only [List.length_append, List.length_take, List.length_drop, List.length_singleton]; omega
      · simp only [List.length_append, List.length_take, List.length_drop, List.length_singleton]; omega
      · intro y hy
        rcases List.mem_append.mp hy with hy | hy
        · rcases List.mem_append.mp hy with hy | hy
          · exact hBs y (List.mem_of_mem_take hy)
          · rw [List.mem_singleton.mp hy]
            rcases hc with z | z <;> rw [z] <;> simp
        · exact hBs y (List.mem_of_mem_drop hy)
    rintro σ' H' ⟨z, u, rfl, hz, hzl, rfl⟩
    have e1' := s13 _ _ e1
    walk_at "rd"
    obtain ⟨vs, eg, pr⟩ := w1.same s13
    have hlv := pr.length
    have fl : ((ws.map fun x => x.1).map tx).all flatV = true := by
      rw [List.all_map, List.all_eq_true]
      intro _ _
      rfl
    refine ⟨_, .inl (SqL.of e1'), rfl, fl, ite2 (fun g0 => ?_) fun g0 => ⟨ws, _, _, _, _, rfl, s03, ⟨vs, eg, pr⟩, e1', by omega, hw, nd⟩⟩
    refine ⟨⟨_, e1'⟩, _, e1', sizeBig (by simp; omega), ?_⟩
    have s4 : Same H (upd H' kn (.lst ((ws.map fun x => x.1).map tx ++ [tx z]))) := same_upd s03 hk0
    have hd4 := s4.seq h2
    have k4 := keep_lst (ys := (ws.map fun x => x.1).map tx ++ [tx z]) e1'
    have eg4 : upd H' kn (.lst ((ws.map fun x => x.1).map tx ++ [tx z])) g = some (.lst vs) := (upd_ne ngk).trans eg
    have ek4 : upd H' kn (.lst ((ws.map fun x => x.1).map tx ++ [tx z])) kn = some (.lst ((ws.map fun x => x.1).map tx ++ [tx z])) := upd_same
    generalize upd H' kn (.lst ((ws.map fun x => x.1).map tx ++ [tx z])) = H4 at s4 hd4 k4 eg4 ek4 ⊢
    have hdl : 0 < ((dl.map tx).length : Int) := by rw [List.length_map]; omega
    obtain ⟨j, hj, hjd⟩ : ∃ j : Nat, c / 7 % ((dl.map tx).length : Int) = j ∧ j < dl.length := by
      have a0 := Int.emod_nonneg (c / 7) (show ((dl.map tx).length : Int) ≠ 0 by omega)
      have a1 := Int.emod_lt_of_pos (c / 7) hdl
      rw [List.length_map] at a0 a1 ⊢
      exact ⟨(c / 7 % (dl.length : Int)).toNat, by omega, by omega⟩
    refine ⟨⟨vs, eg4⟩, _, .inl hd4, hdl, _, tx dl[j], .inl hd4, by rw [hj]; exact atI_nat (by rw [List.getElem?_map, List.getElem?_eq_getElem hjd]; rfl), by decide, fun t ht => ?_⟩
    have ngt : g ≠ t := ne_of_none eg4 ht
    have nkt : kn ≠ t := ne_of_none ek4 ht
    have egt : upd H4 t (.tup [tx z, tx dl[j]]) g = some (.lst vs) := (upd_ne ngt).trans eg4
    refine ⟨vs, egt, sizeBig (by omega), ws ++ [(z, dl[j])], _, _, _, _, rfl, same_upd (s4.trans (same_new ht _)) hg, ⟨_, upd_same, paired_snoc (ways_keep ?_ pr) ⟨t, rfl, by rw [upd_ne ngt.symm, upd_same]⟩⟩, by rw [upd_ne ngk.symm, upd_ne nkt, ek4]; simp, by simp; omega, fun x hx => ?_, ?_⟩
    · intro b us hb
      exact keep_lst egt b us (same_new ht _ _ _ (k4 b us hb))
    · rcases List.mem_append.mp hx with hx | hx
      · exact hw x hx
      · rw [List.mem_singleton.mp hx]
        exact ⟨by show z.length ≤ m; omega, hzl⟩
    · rw [List.map_append]
      refine List.nodup_append.mpr ⟨nd, by simp, fun x hx y hy => ?_⟩
      have e : y = z := by simpa using hy
      intro exy
      rw [exy, e] at hx
      have : inV (tx z) ((ws.map fun x => x.1).map tx) = true := by
        unfold inV
        rw [List.any_eq_true]
        exact ⟨tx z, List.mem_map.mpr ⟨z, hx, rfl⟩, by simp [eqV]⟩
      rw [g0] at this
      cases this
  · rintro σ H1 ⟨ws, u1, u2, u3, u4, rfl, s1, w1, e1, l1, hw, nd⟩
    walk_at "rd"
    exact q g H1 ws hg s1 w1 l1 hw nd
/-- the row of a way -/
def rowOfW (n : Nat) (x : Way) : List Nat := x.1 ++ dashes (n - x.1.length)
theorem rowOfW_len {n : Nat} {x : Way} (h : x.1.length ≤ n) : (rowOfW n x).length = n := by
  unfold rowOfW dashes
  rw [List.length_append, List.length_replicate]
  omega
theorem rowOfW_far {n i : Nat} {x : Way} (h : x.1.length ≤ i) (hi : i < n) : (rowOfW n x).getD i 0 = 45 := by
  unfold rowOfW dashes
  rw [List.getD_eq_getElem?_getD, List.getElem?_append_right h, List.getElem?_replicate, if_pos (by omega)]
  rfl
/-- a letter lies in a way's row where it begins with the way's beginning -/
theorem within_pre : ∀ (b : List Nat) (y : List Nat) (n : Nat), IsLet b → b.length ≤ y.length → within y (b ++ dashes n) = decide (b <+: y)
  | [], y, n, _, _ => by
    rw [List.nil_append, within_dashes]
    simp
  | c :: b, [], n, _, h => by simp at h
  | c :: b, d :: y, n, hb, h => by
    rw [List.cons_append, within_cons, within_pre b y n (fun z hz => hb z (List.mem_cons_of_mem _ hz)) (by simpa using h)]
    have h45 : (c == 45) = false := by
      rcases hb c List.mem_cons_self with z | z <;> rw [z] <;> rfl
    rw [h45, Bool.false_or]
    by_cases e : c = d
    · subst e
      simp [List.cons_prefix_cons]
    · rw [show (c == d) = false by simpa using e, Bool.false_and]
      symm
      simp [List.cons_prefix_cons, e]
theorem sub_len : ∀ (l m : List Nat), l.Nodup → (∀ x ∈ l, x ∈ m) → l.length ≤ m.length
  | [], m, _, _ => Nat.zero_le _
  | x :: l, m, hn, h => by
    rw [List.nodup_cons] at hn
    have ih := sub_len l (m.erase x) hn.2 fun y hy => (List.mem_erase_of_ne (show y ≠ x from fun e => hn.1 (by rw [← e]; exact hy))).mpr (h y (List.mem_cons_of_mem _ hy))
    have hx := h x List.mem_cons_self
    rw [List.length_erase_of_mem hx] at ih
    have := List.length_pos_of_mem hx
    rw [List.length_cons]
    omega
theorem asked_ways {ws : List Way} {row : List Nat} {k n : Nat} (hn : row.length = n) (hw : ∀ x ∈ ws, x.1.length ≤ k) : (asked (ws.map (rowOfW n)) row).length ≤ k := by
  have := sub_len (asked (ws.map (rowOfW n)) row) (List.range k) ?_ fun i hi => ?_
  · simpa using this
  · unfold asked
    exact (List.Pairwise.filter _ (places_sorted _ _)).imp fun h => Nat.ne_of_lt h
  · have hlt := (asked_lt hi).1
    rw [hn] at hlt
    obtain ⟨r, hr, h45⟩ := List.any_eq_true.mp (List.mem_filter.mp (List.mem_filter.mp hi).1).2
    obtain ⟨q, hq, rfl⟩ := List.mem_map.mp hr
    have hq1 := List.fst_mem_of_mem_zipIdx (List.mem_filter.mp hq).1
    rw [List.mem_range]
    apply Classical.byContradiction
    intro hk
    rcases List.mem_append.mp hq1 with z | z
    · obtain ⟨x, hx, e⟩ := List.mem_map.mp z
      rw [← e, rowOfW_far (by have := hw x hx; omega) hlt] at h45
      exact absurd h45 (by decide)
    · rw [List.mem_singleton.mp z, hn, show (dashes n).getD i 0 = 45 by unfold dashes; rw [List.getD_eq_getElem?_getD, List.getElem?_replicate, if_pos hlt]; rfl] at h45
      exact absurd h45 (by decide)
def leastW (r : List Nat) : List Nat := r.map fun c => if c = 45 then 48 else c
theorem leastW_let {r : List Nat} (h : IsRow r) : IsLet (leastW r) := fun k hk => by
  obtain ⟨z, hz, rfl⟩ := List.mem_map.mp hk
  rcases h z hz with e | e | e <;> rw [e] <;> simp
theorem leastW_at {r : List Nat} {i : Nat} : r.getD i 0 = 45 ∨ r.getD i 0 = (leastW r).getD i 0 := by
  unfold leastW
  rw [List.getD_eq_getElem?_getD, List.getD_eq_getElem?_getD, List.getElem?_map]
  cases e : r[i]? with
  | none => exact .inr rfl
  | some c =>
    by_cases h : c = 45
    · exact .inl h
    · exact .inr (by simp [h])
/-- the share of a row of letters, told by the ways' rows -/
theorem wshare {ws : List Way} {row : List Nat} {n : Nat} (hn : row.length = n) (hr : IsRow row) (hw : ∀ x ∈ ws, x.1.length ≤ n) : ∀ s ∈ sharesOf (ws.map (rowOfW n)) row, s.1.length = n ∧ IsRow s.1 ∧
    ∀ y : List Nat, y.length = n → IsLet y → within y s.1 = true → within y row = true ∧ s.2 = (ws.map (rowOfW n)).findIdx fun r => within y r := by
  intro s hs
  have A := of_asks (ws.map (rowOfW n)) row
  unfold sharesOf at hs
  rw [hn] at A hs
  obtain ⟨x1, x2⟩ := cut_rows _ _ A hn hr s hs
  refine ⟨x1, x2, fun y h1 h2 h3 => ?_⟩
  have hin := cut_within A hn hr hs h1 h3
  refine ⟨hin, ?_⟩
  rw [← cut_truth _ _ A hn hr s hs y h1 h3]
  exact fork_first (fun r hr => by
    obtain ⟨x, hx, rfl⟩ := List.mem_map.mp hr
    rw [rowOfW_len (hw x hx), hn]) (h1.trans hn.symm) h2 hin
theorem nodup_fst : ∀ {ws : List Way} {x y : Way}, (ws.map fun x => x.1).Nodup → x ∈ ws → y ∈ ws → x.1 = y.1 → x = y
  | [], _, _, _, h, _, _ => by cases h
  | z :: ws, x, y, nd, hx, hy, e => by
    rw [List.map_cons, List.nodup_cons] at nd
    rcases List.mem_cons.mp hx with hx | hx
    · rcases List.mem_cons.mp hy with hy | hy
      · rw [hx, hy]
      · exact absurd (List.mem_map.mpr ⟨y, hy, by rw [← e, hx]⟩) nd.1
    · rcases List.mem_cons.mp hy with hy | hy
      · exact absurd (List.mem_map.mpr ⟨x, hx, by rw [e, hy]⟩) nd.1
      · exact nodup_fst nd.2 hx hy e
/-- the first of the ways, the longest ahead, is the longest beginning -/
theorem door_first {ws ws' : List Way} {s : List Nat} (hp : ws'.Perm ws) (nd : (ws.map fun x => x.1).Nodup) (hd : ws'.Pairwise fun a b => b.1.length ≤ a.1.length) : doorD ws s (s.length + 1) = (ws'.find? fun w => decide (w.1 <+: s)).map fun x => x.2 := by
  have key : ∀ n w, ws.find? (fun w => decide (w.1 = s.take n)) = some w → w ∈ ws' ∧ w.1 = s.take n := fun n w h => by
    have h1 := List.mem_of_find?_eq_some h
    have h2 := List.find?_some h
    exact ⟨hp.mem_iff.mpr h1, by simpa using h2⟩
  cases e : ws'.find? fun w => decide (w.1 <+: s) with
  | none =>
    rw [List.find?_eq_none] at e
    refine door_none _ fun n hn => ?_
    unfold doorAt
    cases z : ws.find? (fun w => decide (w.1 = s.take n)) with
    | none => rfl
    | some w =>
      obtain ⟨k1, k2⟩ := key n w z
      exact absurd (by rw [k2]; simpa using List.take_prefix _ _) (e w k1)
  | some w =>
    obtain ⟨hw, l1, l2, e2, e3⟩ := List.find?_eq_some_iff_append.mp e
    have hw : w.1 <+: s := by simpa using hw
    have hl : w.1.length ≤ s.length := hw.length_le
    have hmem : w ∈ ws := hp.mem_iff.mp (by rw [e2]; simp)
    refine door_some (m := w.1.length) (d := w.2) ?_ _ (by omega) fun n h1 h2 => ?_
    · unfold doorAt
      have : ws.find? (fun x => decide (x.1 = s.take w.1.length)) = some w := by
        cases z : ws.find? (fun x => decide (x.1 = s.take w.1.length)) with
        | none =>
          rw [List.find?_eq_none] at z
          exact absurd (by simpa using List.prefix_iff_eq_take.mp hw) (z w hmem)
        | some x =>
          have x1 := List.mem_of_find?_eq_some z
          have x2 : x.1 = s.take w.1.length := by simpa using List.find?_some z
          have x3 : x.1 = w.1 := x2.trans (List.prefix_iff_eq_take.mp hw).symm
          rw [show x = w from nodup_fst nd x1 hmem x3]
      rw [this]
      rfl
    · unfold doorAt
      cases z : ws.find? (fun x => decide (x.1 = s.take n)) with
      | none => rfl
      | some x =>
        obtain ⟨k1, k2⟩ := key n x z
        have kp : x.1 <+: s := by rw [k2]; exact List.take_prefix _ _
        have kl : x.1.length = n := by rw [k2, List.length_take]; omega
        rw [e2] at k1 hd
        rcases List.mem_append.mp k1 with k1 | k1
        · exact absurd (by simpa using kp) (by simpa using e3 x k1)
        · rcases List.mem_cons.mp k1 with k1 | k1
          · rw [k1] at kl; omega
          · have := (List.pairwise_cons.mp (List.pairwise_append.mp hd).2.1).1 x k1
            omega
/-- kept but at T, where something stands -/
def SameT (T : Addr) (H H' : Hp) : Prop := (∀ b u, b ≠ T → H b = some u → H' b = some u) ∧ ∃ u, H' T = some u
theorem SameT.trans {T : Addr} {H H1 H2 : Hp} (a : SameT T H H1) (b : Same H1 H2) : SameT T H H2 := ⟨fun x u n e => b _ _ (a.1 x u n e), let ⟨u, e⟩ := a.2; ⟨u, b _ _ e⟩⟩
theorem SameT.free {T x : Addr} {H H' : Hp} (s : SameT T H H') (h : H' x = none) : H x = none := by
  cases q : H x with
  | none => rfl
  | some u =>
    by_cases e : x = T
    · obtain ⟨v, hv⟩ := s.2
      rw [e, hv] at h
      cases h
    · rw [s.1 x u e q] at h
      cases h
theorem tbl_ne {H : Hp} {T b : Addr} {ps : Array Value} {u : HO} (hT : H T = some (.tbl ps)) (h : H b = some u) (n : ∀ qs, u ≠ .tbl qs) : b ≠ T := fun z => by rw [z, hT] at h; cases h; exact n _ rfl
theorem Ways.sameT {T : Addr} {H H' : Hp} {p : Addr} {ws : List Way} {ps : Array Value} (h : Ways H p ws) (hT : H T = some (.tbl ps)) (s : SameT T H H') : Ways H' p ws := by
  obtain ⟨vs, e, pr⟩ := h
  exact ⟨vs, s.1 _ _ (tbl_ne hT e fun _ z => by cases z) e, ways_keep (fun t us q => s.1 _ _ (tbl_ne hT q fun _ z => by cases z) q) pr⟩
theorem paired_flip {α β : Type} {R : α → β → Prop} : ∀ {l : List α} {m : List β}, Paired R l m → Paired (fun b a => R a b) m l
  | _, _, .nil => .nil
  | _, _, .cons a r => .cons a (paired_flip r)
/-- how long a way's beginning is, by its tuple -/
def keyW (H : Hp) (v : V) : Nat := match v with
  | .ref t => match H t with
    | some (.tup (.str y :: _)) => y.length
    | _ => 0
  | _ => 0
theorem keyW_at {H : Hp} {x : Way} {v : V} (h : WayAt H x v) : keyW H v = x.1.length := by
  obtain ⟨t, rfl, e⟩ := h
  unfold keyW
  simp only [e]
  rw [strlen, st_cps]
def sp_longest_first (K : PySem.W.Frag) : Sp := fun vs H Q _ => match vs with
  | [.ref p] => ∃ ws : List Way, Ways H p ws ∧ ws.length < 64 ∧ (∀ x ∈ ws, x.1.length ≤ 1000) ∧ ∃ c TT, PySem.W.tabIn K "longest_first" = some (c, TT) ∧ H TT = some (.tbl #[]) ∧
      ∀ q H' ws', H q = none → SameT TT H H' → Ways H' q ws' → ws'.Perm ws → (ws'.Pairwise fun a b => b.1.length ≤ a.1.length) → Q (.ref q) H'
  | _ => False
theorem ok_longest_first (T : Top K mg) : Callee P w K mg base 1 "longest_first" ["ways"] (sp_longest_first K) := by
  obtain ⟨cc, TT, LL⟩ := T.lam_longest_first
  refine T.f_longest_first.calC LL sc_longest_first (by intro vs H Q E h; unfold sp_longest_first at h; split at h <;> first | rfl | exact h.elim) (fun _ _ _ _ _ _ us hl => match us, hl with | [_], _ => rfl) (fun f A outer s H vs Q E hr h => ?_)
  unfold sp_longest_first at h
  split at h
  case h_2 => exact h.elim
  refine ⟨_, (pss_one (ps_ret (qe_sortlen rfl hr rfl T.b_sorted T.b_len rfl LL.lam (qv 0) rfl rfl rfl (by decide) rfl rfl rfl rfl rfl (fun _ _ _ _ _ _ => rfl)))), ?_⟩
  rename_i p
  obtain ⟨ws, ⟨vs, e0, pr⟩, hl, hw, c2, T2, ht, hT, q⟩ := h
  have et := LL.tb.symm.trans ht
  cases et
  have hln := pr.length
  have pf := paired_flip pr
  walk_at "rd"
  refine ⟨vs, keyW H, SqL.of e0, by omega, fun x hx => ?_, hT, fun z more xs' hz hzT hd => ?_⟩
  · obtain ⟨y, hy, hyx⟩ := paired_memr pr x hx
    have hk := keyW_at hyx
    obtain ⟨t, rfl, e⟩ := hyx
    have := hw y hy
    exact ⟨t, st y.1, [tx y.2], rfl, SqT.of e, by rw [strlen, st_cps, sizeLine_eq]; omega, by rw [hk, strlen, st_cps]⟩
  · obtain ⟨ws', p1, p2⟩ := paired_perm hd.1 pf
    have keep : ∀ b u, b ≠ TT → H b = some u → upd (upd H TT (.tbl more)) z (.lst xs') b = some u := fun b u hb e => by
      rw [upd_ne (ne_of_none e hz), upd_ne hb]
      exact e
    refine q z _ ws' hz ⟨keep, .tbl more, by rw [upd_ne (Ne.symm hzT), upd_same]⟩ ⟨xs', upd_same, ways_keep (fun t us e => keep _ _ (tbl_ne hT e fun _ z => by cases z) e) (paired_flip p2)⟩ p1 (paired_pairwise (fun a b c d ra rc h => ?_) p2 hd.2)
    rw [keyW_at ra, keyW_at rc] at h
    exact h
def sp_way_row : Sp := fun vs H Q _ => match vs with
  | [.ref t, .int n] => ∃ (x : Way) (m : Nat), H t = some (.tup [tx x.1, tx x.2]) ∧ n = (m : Int) ∧ x.1.length ≤ m ∧ m ≤ 1000 ∧ Q (tx (rowOfW m x)) H
  | _ => False
theorem ok_way_row (T : Top K mg) : Callee P w K mg base 1 "way_row" ["way", "size"] sp_way_row := by
  refine T.f_way_row.cal sc_way_row (by intro vs H Q E h; unfold sp_way_row at h; split at h <;> first | rfl | exact h.elim) (fun _ _ _ _ _ _ us hl => match us, hl with | [_, _], _ => rfl) (fun f cdv A outer s H vs Q E hr h => ?_)
  unfold sp_way_row at h
  split at h
  case h_2 => exact h.elim
  refine ⟨_, (pss_one (ps_ret (pe_op op_addK (pe_ix (ixE K rfl) (qv 0) pe_int (fun _ _ => rfl)) (pe_op op_mulK (qs [45]) (pe_op op_subK (qv 1) (pe_callB (lenE K rfl) rfl T.b_len bb_len (pa_cons (pe_ix (ixE K rfl) (qv 0) pe_int (fun _ _ => rfl)) pa_nil))))))), ?_⟩
  rename_i t n
  obtain ⟨x, m, e, rfl, h1, h2, q⟩ := h
  walk_at "rd"
  refine ⟨_, _, .inr (SqT.of e), rfl, ?_⟩
  walk_at "rd"
  refine ⟨_, _, .inr (SqT.of e), rfl, ?_⟩
  walk_at "rd"
  have en : ((m : Int) - (x.1.length : Int)).toNat = m - x.1.length := by omega
  refine ⟨by omega, by omega, by omega, ?_, ?_⟩
  · rw [List.length_replicate, en]; omega
  · rw [en]
    exact q
def sp_door_at (K : PySem.W.Frag) : Sp := fun vs H Q _ => match vs with
  | [.ref p, .int n] => ∃ (ws : List Way) (k : Nat), Ways H p ws ∧ n = (k : Int) ∧ k ≤ ws.length ∧ Q (optV ((ws[k]?).map fun x => x.2)) H
  | _ => False
theorem ok_door_at (T : Top K mg) : Callee P w K mg base 1 "door_at" ["ways", "number"] (sp_door_at K) := by
  refine T.f_door_at.cal sc_door_at (by intro vs H Q E h; unfold sp_door_at at h; split at h <;> first | rfl | exact h.elim) (fun _ _ _ _ _ _ us hl => match us, hl with | [_, _], _ => rfl) (fun f cdv A outer s H vs Q E hr h => ?_)
  unfold sp_door_at at h
  split at h
  case h_2 => exact h.elim
  refine ⟨_, (pss_one (ps_ret (pe_ifExp (qt_cmp op_eqK (qv 1) (pe_callB (lenE K rfl) rfl T.b_len bb_len (pa_cons (qv 0) pa_nil))) pe_non (pe_ix (ixE K rfl) (pe_ix (ixE K rfl) (qv 0) (qv 1) (fun _ _ => rfl)) pe_int (fun _ _ => rfl))))), ?_⟩
  rename_i p n
  obtain ⟨ws, k, ⟨vs, e0, pr⟩, rfl, h1, q⟩ := h
  have hl := pr.length
  walk_at "rd"
  refine ⟨vs, .inl (SqL.of e0), ite2 (fun g => ?_) fun g => ?_⟩
  · rw [List.getElem?_eq_none (by omega)] at q
    exact q
  · have hk : k < ws.length := by omega
    obtain ⟨y, hy, t, ey, et⟩ := paired_at pr (List.getElem?_eq_getElem hk)
    rw [List.getElem?_eq_getElem hk] at q
    subst ey
    refine ⟨vs, _, .inl (SqL.of e0), atI_nat hy, ?_⟩
    walk_at "rd"
    exact ⟨_, _, .inr (SqT.of et), rfl, q⟩
theorem flat_way (n : Nat) : ∀ (l : List Way) (m : List V), l.length = m.length → ((l.zip m).flatMap fun pr => [tx (rowOfW n pr.1)]) = (l.map (rowOfW n)).map tx
  | [], _, _ => rfl
  | x :: l, [], h => by cases h
  | x :: l, v :: m, h => by
    rw [List.zip_cons_cons, List.flatMap_cons, flat_way n l m (by simpa using h)]
    rfl
theorem share_low {ws : List Way} {row : List Nat} {n : Nat} (hn : row.length = n) (hr : IsRow row) (hw : ∀ x ∈ ws, x.1.length ≤ n) : ∀ s ∈ sharesOf (ws.map (rowOfW n)) row, s.2 ≤ ws.length := by
  intro s hs
  obtain ⟨h1, h2, h3⟩ := wshare hn hr hw s hs
  have := (h3 (leastW s.1) (by simp [leastW, h1]) (leastW_let h2) ((within_at (W := n) (by simp [leastW, h1]) h1).mpr fun i _ => leastW_at)).2
  rw [this]
  simpa using List.findIdx_le_length (p := fun r => within (leastW s.1) r) (xs := ws.map (rowOfW n))
/-- the door of the first way with which the signs begin -/
def doorF (ws : List Way) (s : List Nat) : Option (List Nat) := (ws.find? fun w => decide (w.1 <+: s)).map fun x => x.2
theorem doorF_app {A B : List Way} {s : List Nat} (h : ∀ a ∈ A, ¬ a.1 <+: s) : doorF (A ++ B) s = doorF B s := by
  unfold doorF
  rw [List.find?_append, List.find?_eq_none.mpr fun a ha => by simpa using h a ha]
  rfl
theorem doorF_hit {A : List Way} {s : List Nat} (B C : List Way) (h : ¬ ∀ a ∈ A, ¬ a.1 <+: s) : doorF (A ++ B) s = doorF (A ++ C) s := by
  unfold doorF
  rw [List.find?_append, List.find?_append]
  cases e : A.find? fun w => decide (w.1 <+: s) with
  | some x => rfl
  | none =>
    rw [List.find?_eq_none] at e
    exact absurd (fun a ha => by simpa using e a ha) h
theorem doorF_cons {w : Way} {B : List Way} {s : List Nat} : doorF (w :: B) s = if w.1 <+: s then some w.2 else doorF B s := by
  unfold doorF
  rw [List.find?_cons]
  by_cases h : w.1 <+: s
  · rw [decide_eq_true h, if_pos h]
    rfl
  · rw [decide_eq_false h, if_neg h]
/-- some signs go by w, and without it otherwise -/
def NeedW (n : Nat) (A : List Way) (w : Way) (B : List Way) : Prop := ∃ y : List Nat, y.length = n ∧ IsLet y ∧ w.1 <+: y ∧ (∀ a ∈ A, ¬ a.1 <+: y) ∧ doorF B y ≠ some w.2
theorem need_less {n : Nat} {A A' B : List Way} {w : Way} (h : NeedW n A w B) (s : ∀ a ∈ A', a ∈ A) : NeedW n A' w B := by
  obtain ⟨y, h1, h2, h3, h4, h5⟩ := h
  exact ⟨y, h1, h2, h3, fun a ha => h4 a (s a ha), h5⟩
theorem unneeded {n : Nat} {A B : List Way} {w : Way} (h : ¬ NeedW n A w B) {y : List Nat} (h1 : y.length = n) (h2 : IsLet y) : doorF (A ++ B) y = doorF (A ++ w :: B) y := by
  by_cases hA : ∀ a ∈ A, ¬ a.1 <+: y
  · rw [doorF_app hA, doorF_app hA, doorF_cons]
    by_cases hw : w.1 <+: y
    · rw [if_pos hw]
      exact Classical.byContradiction fun z => h ⟨y, h1, h2, hw, hA, z⟩
    · rw [if_neg hw]
  · exact doorF_hit _ _ hA
theorem needed_door {n : Nat} {A B : List Way} {w : Way} (h : NeedW n A w B) : ∃ y : List Nat, y.length = n ∧ IsLet y ∧ doorF (A ++ B) y ≠ doorF (A ++ w :: B) y := by
  obtain ⟨y, h1, h2, h3, h4, h5⟩ := h
  refine ⟨y, h1, h2, ?_⟩
  rw [doorF_app h4, doorF_app h4, doorF_cons, if_pos h3]
  exact h5
theorem cut_cover {W : Nat} : ∀ (F : Fork) (row : List Nat), Asks W F → row.length = W → ∀ y : List Nat, y.length = W → IsLet y → within y row = true → ∃ x ∈ cutF F row (dashes W), within y x.1 = true
  | .leaf n, row, _, _, y, _, _, hw => ⟨(row, n), List.mem_singleton.mpr rfl, hw⟩
  | .ask p a b, row, ⟨hp, ha, hb⟩, hl, y, hy, hyl, hw => by
    have hyp : y.getD p 0 = 48 ∨ y.getD p 0 = 49 := by
      rw [List.getD_eq_getElem?_getD, List.getElem?_eq_getElem (by omega), Option.getD_some]
      exact hyl _ (List.getElem_mem _)
    rw [cutF, sign_dash hp]
    have setw : ∀ c, y.getD p 0 = c → within y (row.set p c) = true := fun c hc => by
      rw [within_at hy (by simpa using hl)]
      intro i hi
      rw [getD_set _ _ _ _ (by omega)]
      by_cases e : i = p
      · rw [if_pos e, e]
        exact .inr hc.symm
      · rw [if_neg e]
        exact (within_at hy hl).mp hw i hi
    split
    · rcases hyp with e | e
      · obtain ⟨x, hx, hw'⟩ := cut_cover a (row.set p 48) ha (by simpa using hl) y hy hyl (setw 48 e)
        exact ⟨x, List.mem_append_left _ hx, hw'⟩
      · obtain ⟨x, hx, hw'⟩ := cut_cover b (row.set p 49) hb (by simpa using hl) y hy hyl (setw 49 e)
        exact ⟨x, List.mem_append_right _ hx, hw'⟩
    · split
      · exact cut_cover a row ha hl y hy hyl hw
      · exact cut_cover b row hb hl y hy hyl hw
theorem findIdx_same {α : Type} {p q : α → Bool} : ∀ {l : List α}, (∀ x ∈ l, p x = q x) → l.findIdx p = l.findIdx q
  | [], _ => rfl
  | x :: l, h => by
    rw [List.findIdx_cons, List.findIdx_cons, h x List.mem_cons_self, findIdx_same fun y hy => h y (List.mem_cons_of_mem _ hy)]
theorem find_idx {α : Type} (p : α → Bool) : ∀ l : List α, l.find? p = l[l.findIdx p]?
  | [] => rfl
  | x :: l => by
    rw [List.find?_cons, List.findIdx_cons]
    cases h : p x with
    | true => simp
    | false => simpa using find_idx p l
theorem idx_rows {ws : List Way} {n : Nat} {y : List Nat} (hy : y.length = n) (hw : ∀ x ∈ ws, x.1.length ≤ n ∧ IsLet x.1) : (ws.map (rowOfW n)).findIdx (fun r => within y r) = ws.findIdx fun w => decide (w.1 <+: y) := by
  rw [List.findIdx_map]
  refine findIdx_same fun x hx => ?_
  have hx' := hw x hx
  show within y (rowOfW n x) = _
  unfold rowOfW
  rw [within_pre x.1 y _ hx'.2 (by omega)]
theorem rowOfW_row {n : Nat} {x : Way} (h : IsLet x.1) : IsRow (rowOfW n x) := fun c hc => by
  rcases List.mem_append.mp hc with z | z
  · rcases h c z with e | e
    · exact .inl e
    · exact .inr (.inl e)
  · exact .inr (.inr (List.eq_of_mem_replicate z))
theorem idx_app {A B : List Way} {y : List Nat} (h : A.length ≤ (A ++ B).findIdx fun w => decide (w.1 <+: y)) : ∀ a ∈ A, ¬ a.1 <+: y := by
  intro a ha hp
  obtain ⟨i, hi, e⟩ := List.getElem_of_mem ha
  have hlt : i < (A ++ B).findIdx fun w => decide (w.1 <+: y) := by omega
  have := List.not_of_lt_findIdx hlt
  rw [List.getElem_append_left hi, e] at this
  simp [hp] at this
theorem idx_le {A B : List Way} {y : List Nat} (h : ∀ a ∈ A, ¬ a.1 <+: y) : A.length ≤ (A ++ B).findIdx fun w => decide (w.1 <+: y) := by
  rw [List.findIdx_append]
  have : ¬ (A.findIdx fun w => decide (w.1 <+: y)) < A.length := fun z => by
    have := List.findIdx_getElem (w := z)
    exact h _ (List.getElem_mem z) (by simpa using this)
  rw [if_neg this]
  omega
/-- what the program reckons of a way -/
def neededB (n : Nat) (A : List Way) (w : Way) (B : List Way) : Bool := (sharesOf ((A ++ B).map (rowOfW n)) (rowOfW n w)).any fun s => decide (A.length ≤ s.2) && decide (((A ++ B)[s.2]?).map (fun x => x.2) ≠ some w.2)
theorem neededB_iff {n : Nat} {A B : List Way} {w : Way} (hw : ∀ x ∈ A ++ w :: B, x.1.length ≤ n ∧ IsLet x.1) : neededB n A w B = true ↔ NeedW n A w B := by
  have hws : ∀ x ∈ A ++ B, x.1.length ≤ n ∧ IsLet x.1 := fun x hx => hw x (by
    rcases List.mem_append.mp hx with z | z
    · exact List.mem_append_left _ z
    · exact List.mem_append_right _ (List.mem_cons_of_mem _ z))
  have hww : w.1.length ≤ n ∧ IsLet w.1 := hw w (List.mem_append_right _ List.mem_cons_self)
  have rl := rowOfW_len (n := n) (x := w) hww.1
  have rr := rowOfW_row (n := n) hww.2
  have pre : ∀ y : List Nat, y.length = n → (within y (rowOfW n w) = true ↔ w.1 <+: y) := fun y hy => by
    unfold rowOfW
    rw [within_pre w.1 y _ hww.2 (by omega)]
    simp
  have door : ∀ y : List Nat, ((A ++ B)[(A ++ B).findIdx fun w => decide (w.1 <+: y)]?).map (fun x => x.2) = doorF (A ++ B) y := fun y => by
    unfold doorF
    rw [find_idx]
  unfold neededB
  rw [List.any_eq_true]
  constructor
  · rintro ⟨s, hs, hc⟩
    rw [Bool.and_eq_true, decide_eq_true_eq, decide_eq_true_eq] at hc
    obtain ⟨h1, h2, h3⟩ := wshare rl rr (fun x hx => (hws x hx).1) s hs
    have y1 : (leastW s.1).length = n := by simp [leastW, h1]
    obtain ⟨h4, h5⟩ := h3 (leastW s.1) y1 (leastW_let h2) ((within_at (W := n) y1 h1).mpr fun i _ => leastW_at)
    rw [idx_rows y1 hws] at h5
    rw [h5, door] at hc
    have hA := idx_app hc.1
    refine ⟨leastW s.1, y1, leastW_let h2, (pre _ y1).mp h4, hA, ?_⟩
    rw [← doorF_app hA]
    exact hc.2
  · rintro ⟨y, h1, h2, h3, h4, h5⟩
    have A0 := of_asks ((A ++ B).map (rowOfW n)) (rowOfW n w)
    rw [rl] at A0
    obtain ⟨s, hs, hsw⟩ := cut_cover _ (rowOfW n w) A0 rl y h1 h2 ((pre y h1).mpr h3)
    have hs' : s ∈ sharesOf ((A ++ B).map (rowOfW n)) (rowOfW n w) := by
      unfold sharesOf
      rw [rl]
      exact hs
    obtain ⟨_, _, g3⟩ := wshare rl rr (fun x hx => (hws x hx).1) s hs'
    have e := (g3 y h1 h2 hsw).2
    rw [idx_rows h1 hws] at e
    refine ⟨s, hs', ?_⟩
    rw [Bool.and_eq_true, decide_eq_true_eq, decide_eq_true_eq, e, door]
    exact ⟨idx_le h4, by rw [doorF_app h4]; exact h5⟩
/-- a step of the thinning -/
def ThinOk (n : Nat) (O : List Way) (m : Nat) (B : List Way) : Prop :=
  (∀ y : List Nat, y.length = n → IsLet y → doorF (O.take m ++ B) y = doorF O y) ∧ (∀ B1 w B2, B = B1 ++ w :: B2 → NeedW n (O.take m ++ B1) w B2) ∧ List.Sublist B (O.drop m)
theorem thin_start (n : Nat) (O : List Way) : ThinOk n O O.length [] := by
  refine ⟨fun y _ _ => by rw [List.take_length, List.append_nil], fun B1 w B2 h => ?_, List.nil_sublist _⟩
  exact absurd h.symm (by simp)
theorem take_one {O : List Way} {m : Nat} (h : m < O.length) : O.take (m + 1) = O.take m ++ [O[m]] := by
  rw [List.take_add_one, List.getElem?_eq_getElem h]
  rfl
theorem thin_keep {n : Nat} {O B : List Way} {m : Nat} (hm : m < O.length) (h : ThinOk n O (m + 1) B) (hn : NeedW n (O.take m) O[m] B) : ThinOk n O m (O[m] :: B) := by
  obtain ⟨h1, h2, h3⟩ := h
  rw [take_one hm] at h1 h2
  refine ⟨fun y a b => ?_, fun B1 w B2 e => ?_, ?_⟩
  · rw [← h1 y a b, List.append_assoc]
    rfl
  · cases B1 with
    | nil =>
      obtain ⟨e1, e2⟩ := List.cons.inj e
      rw [List.append_nil, ← e1, ← e2]
      exact hn
    | cons x B1 =>
      obtain ⟨e1, e2⟩ := List.cons.inj e
      have := h2 B1 w B2 e2
      rw [List.append_assoc] at this
      rw [← e1]
      exact this
  · rw [List.drop_eq_getElem_cons hm]
    exact h3.cons_cons _
theorem thin_strike {n : Nat} {O B : List Way} {m : Nat} (hm : m < O.length) (h : ThinOk n O (m + 1) B) (hn : ¬ NeedW n (O.take m) O[m] B) : ThinOk n O m B := by
  obtain ⟨h1, h2, h3⟩ := h
  rw [take_one hm] at h1 h2
  refine ⟨fun y a b => ?_, fun B1 w B2 e => ?_, ?_⟩
  · rw [← h1 y a b, unneeded hn a b, List.append_assoc]
    rfl
  · refine need_less (h2 B1 w B2 e) fun a ha => ?_
    rcases List.mem_append.mp ha with z | z
    · exact List.mem_append_left _ (List.mem_append_left _ z)
    · exact List.mem_append_right _ z
  · rw [List.drop_eq_getElem_cons hm]
    exact h3.cons _
theorem doorF_ext {k : Nat} {y : List Nat} : ∀ {ws : List Way}, (∀ w ∈ ws, w.1.length ≤ k) → doorF ws y = doorF ws (y.take k)
  | [], _ => rfl
  | w :: ws, h => by
    rw [doorF_cons, doorF_cons, doorF_ext fun x hx => h x (List.mem_cons_of_mem _ hx)]
    have : w.1 <+: y ↔ w.1 <+: y.take k := ⟨fun z => List.prefix_take_iff.mpr ⟨z, h w List.mem_cons_self⟩, fun z => z.trans (List.take_prefix _ _)⟩
    by_cases e : w.1 <+: y
    · rw [if_pos e, if_pos (this.mp e)]
    · rw [if_neg e, if_neg fun z => e (this.mpr z)]
/-- the thinned ways: the same doors, and none of them may go -/
theorem thin_end {n k : Nat} {ws O B : List Way} (hk : k ≤ n) (nd : (ws.map fun x => x.1).Nodup) (hw : ∀ x ∈ ws, x.1.length ≤ k) (hp : O.Perm ws) (hd : O.Pairwise fun a b => b.1.length ≤ a.1.length) (h : ThinOk n O 0 B) :
    (∀ c : List Nat, c.length = k → IsLet c → doorD (ws.filter fun w => decide (w ∈ B)) c (c.length + 1) = doorD ws c (c.length + 1)) ∧
    ∀ i, i < (ws.filter fun w => decide (w ∈ B)).length → ∃ c : List Nat, c.length = k ∧ IsLet c ∧ doorD ((ws.filter fun w => decide (w ∈ B)).eraseIdx i) c (c.length + 1) ≠ doorD ws c (c.length + 1) := by
  obtain ⟨h1, h2, h3⟩ := h
  rw [List.drop_zero] at h3
  simp only [List.take_zero, List.nil_append] at h1 h2
  have ndw : ws.Nodup := (List.pairwise_map.mp nd).imp fun {a b} h e => h (by rw [e])
  have ndO : O.Nodup := hp.nodup_iff.mpr ndw
  have ndB : B.Nodup := ndO.sublist h3
  have hB : ∀ w ∈ B, w ∈ ws := fun w hw => hp.mem_iff.mp (h3.subset hw)
  have sub : List.Sublist (ws.filter fun w => decide (w ∈ B)) ws := List.filter_sublist
  have pB : B.Perm (ws.filter fun w => decide (w ∈ B)) := by
    refine (List.perm_ext_iff_of_nodup ndB (ndw.sublist sub)).mpr fun w => ?_
    rw [List.mem_filter, decide_eq_true_eq]
    exact ⟨fun z => ⟨hB w z, z⟩, fun z => z.2⟩
  have dB : B.Pairwise fun a b => b.1.length ≤ a.1.length := hd.sublist h3
  generalize ws.filter (fun w => decide (w ∈ B)) = F at sub pB
  have ndF : (F.map fun x => x.1).Nodup := nd.sublist (sub.map _)
  have lB : ∀ w ∈ B, w.1.length ≤ k := fun w z => hw w (hB w z)
  have lO : ∀ w ∈ O, w.1.length ≤ k := fun w z => hw w (hp.mem_iff.mp z)
  have due : ∀ y : List Nat, y.length = n → IsLet y → doorF B y = doorD ws (y.take k) ((y.take k).length + 1) := fun y y1 y2 => by
    rw [h1 y y1 y2, doorF_ext lO]
    exact (door_first hp nd hd).symm
  refine ⟨fun c c1 c2 => ?_, fun i hi => ?_⟩
  · have e : (c ++ List.replicate (n - k) 48).take k = c := by rw [← c1]; simp
    have y1 : (c ++ List.replicate (n - k) 48).length = n := by simp; omega
    have y2 : IsLet (c ++ List.replicate (n - k) 48) := fun x hx => by
      rcases List.mem_append.mp hx with z | z
      · exact c2 x z
      · exact .inl (List.eq_of_mem_replicate z)
    have := due _ y1 y2
    rw [e] at this
    rw [← this, doorF_ext lB, e]
    exact door_first pB ndF dB
  · obtain ⟨B1, B2, eB⟩ := List.append_of_mem (pB.mem_iff.mpr (List.getElem_mem hi))
    obtain ⟨y, y1, y2, y3⟩ := needed_door (h2 B1 F[i] B2 eB)
    rw [← eB, due y y1 y2] at y3
    have pe : (B1 ++ B2).Perm (F.eraseIdx i) := by
      have p1 : (F[i] :: (B1 ++ B2)).Perm F := by
        refine List.Perm.trans ?_ pB
        rw [eB]
        exact List.perm_middle.symm
      have p2 : F.Perm (F[i] :: F.eraseIdx i) := by
        rw [List.eraseIdx_eq_take_drop_succ]
        refine List.Perm.trans (List.Perm.of_eq ?_) List.perm_middle
        rw [← List.drop_eq_getElem_cons hi, List.take_append_drop]
      exact (p1.trans p2).cons_inv
    have sl : List.Sublist (B1 ++ B2) B := by
      rw [eB]
      exact List.Sublist.append (List.Sublist.refl _) (List.sublist_cons_self _ _)
    refine ⟨y.take k, by rw [List.length_take]; omega, fun x hx => y2 x (List.mem_of_mem_take hx), ?_⟩
    rw [door_first pe (ndF.sublist ((List.eraseIdx_sublist F i).map _)) (dB.sublist sl)]
    rw [show (List.find? (fun w => decide (w.1 <+: y.take k)) (B1 ++ B2)).map (fun x => x.2) = doorF (B1 ++ B2) (y.take k) from rfl, ← doorF_ext fun w hw => lB w (sl.subset hw)]
    exact y3
theorem paired_take {α β : Type} {F : α → β → Prop} {l : List α} {m : List β} (h : Paired F l m) : ∀ n, Paired F (l.take n) (m.take n) := by
  induction h with
  | nil => intro n; rw [List.take_nil, List.take_nil]; exact .nil
  | cons r _ ih =>
    intro n
    cases n with
    | zero => exact .nil
    | succ n => exact .cons r (ih n)
theorem paired_drop {α β : Type} {F : α → β → Prop} {l : List α} {m : List β} (h : Paired F l m) : ∀ n, Paired F (l.drop n) (m.drop n) := by
  induction h with
  | nil => intro n; rw [List.drop_nil, List.drop_nil]; exact .nil
  | cons r t ih =>
    intro n
    cases n with
    | zero => exact .cons r t
    | succ n => exact ih n
theorem paired_erase {α β : Type} {F : α → β → Prop} {l : List α} {m : List β} (h : Paired F l m) (n : Nat) : Paired F (l.eraseIdx n) (m.eraseIdx n) := by
  rw [List.eraseIdx_eq_take_drop_succ, List.eraseIdx_eq_take_drop_succ]
  exact paired_app (paired_take h n) (paired_drop h (n + 1))
def sp_is_way_needed (K : PySem.W.Frag) : Sp := fun vs H Q _ => match vs with
  | [.ref p, .int i, .int a] => ∃ (A B : List Way) (w : Way) (n : Nat), Ways H p (A ++ w :: B) ∧ i = (A.length : Int) ∧ a = (n : Int) ∧ n ≤ 1000 ∧ (A ++ w :: B).length ≤ 64 ∧ (∀ x ∈ A ++ w :: B, x.1.length ≤ n ∧ x.1.length ≤ 12 ∧ IsLet x.1) ∧
      ∀ H', Same H H' → Q (.bl (neededB n A w B)) H'
  | _ => False
theorem ok_is_way_needed (T : Top K mg) : Callee P w K mg base 22 "is_way_needed" ["ordered", "number", "size"] (sp_is_way_needed K) := by
  refine T.f_is_way_needed.cal sc_is_way_needed (by intro vs H Q E h; unfold sp_is_way_needed at h; split at h <;> first | rfl | exact h.elim) (fun _ _ _ _ _ _ us hl => match us, hl with | [_, _, _], _ => rfl) (fun f cdv A outer s H vs Q E hr h => ?_)
  unfold sp_is_way_needed at h
  split at h
  case h_2 => exact h.elim
  refine ⟨_, (pss_cons (ps_set (i := 3) sc_is_way_needed.nd rfl (by first | exact Or.inl rfl | exact Or.inr rfl) (pe_ix (ixE K rfl) (qv 0) (qv 1) (fun _ _ => rfl)))
      (pss_cons (ps_set (i := 4) sc_is_way_needed.nd rfl (by first | exact Or.inl rfl | exact Or.inr rfl) (pe_op op_addK (pe_slice (slE K rfl) (qv 0) po_none (qo_some (qv 1))) (pe_slice (slE K rfl) (qv 0) (qo_some (pe_op op_addK (qv 1) pe_int)) po_none)))
      (pss_cons (ps_setC (i := 5) (nt := 1) (fi := [2]) (N' := ["another", "size"]) sc_is_way_needed.nd rfl (by first | exact Or.inl rfl | exact Or.inr rfl) rfl (cscope rfl (by decide +kernel)) (cnames (N := ["ordered", "number", "size", "way", "others", "rows", "row", "first"]) (sc := defScope s_is_way_needed) rfl rfl (by decide +kernel)) (gk_name (by decide)) (iterE K rfl (qv 4)) (fun _ _ _ _ _ => (pg_name (i := 0) (by show (["another", "size"] : List Str).Nodup; decide +kernel) rfl (by first | exact Or.inl rfl | exact Or.inr rfl))) (fun _ _ _ _ _ => pif_nil) (fun _ _ _ _ _ => (pe_fn (ok_way_row T) (hr.mono (by first | decide | omega)) rfl (pa_cons (qv 0) (pa_cons (qv 1) pa_nil)))))
      (pss_cons (qs_for PassesOwn.never rfl (iterE K rfl (pe_fn (ok_heap_shares T) (hr.mono (by first | decide | omega)) rfl (pa_cons (qv 5) (pa_cons (pe_fn (ok_way_row T) (hr.mono (by first | decide | omega)) rfl (pa_cons (qv 3) (pa_cons (qv 2) pa_nil))) pa_nil)))) (tupE K rfl rfl (n := 2) (pgs_cons (pg_name (i := 6) sc_is_way_needed.nd rfl (by first | exact Or.inl rfl | exact Or.inr rfl)) (pgs_cons (pg_name (i := 7) sc_is_way_needed.nd rfl (by first | exact Or.inl rfl | exact Or.inr rfl)) pgs_nil))) (pss_one (ps_if (PW.pt (pw_and (qt_cmp op_geK (qv 7) (qv 1)) (pw_and1 (qt_cmp op_neK (pe_fn (ok_door_at T) (hr.mono (by first | decide | omega)) rfl (pa_cons (qv 4) (pa_cons (qv 7) pa_nil))) (pe_ix (ixE K rfl) (qv 3) pe_int (fun _ _ => rfl)))))) (pss_one (ps_ret pe_bl)) pss_nil)))
      (pss_one (ps_ret pe_bl)))))), ?_⟩
  rename_i p i a
  obtain ⟨A, B, w, n, W0, rfl, rfl, hn, hl, hw, q⟩ := h
  obtain ⟨vs, e0, pr⟩ := id W0
  have hlv := pr.length
  have hAB : (A ++ w :: B).length = A.length + B.length + 1 := by simp; omega
  have hAi : A.length < (A ++ w :: B).length := by omega
  obtain ⟨y, hy, t, rfl, et⟩ := paired_at pr (show (A ++ w :: B)[A.length]? = some w by simp)
  walk_at "rd"
  refine ⟨vs, _, .inl (SqL.of e0), atI_nat hy, ?_⟩
  refine ⟨vs, SqL.of e0, fun a1 h1 => ?_⟩
  rw [cut_to vs A.length (by omega)]
  refine ⟨vs, SqL.of (same_new h1 _ _ _ e0), fun a2 h2 => ?_⟩
  rw [show (A.length : Int) + 1 = ((A.length + 1 : Nat) : Int) from rfl, cut_from vs (A.length + 1) (by omega)]
  refine ⟨vs.take A.length, vs.drop (A.length + 1), same_new h2 _ _ _ upd_same, upd_same, by rw [List.length_take, List.length_drop, sizeLine_eq]; omega, fun oa hoa => ?_⟩
  have s3 : Same H (upd (upd (upd H a1 (.lst (vs.take A.length))) a2 (.lst (vs.drop (A.length + 1)))) oa (.lst (vs.take A.length ++ vs.drop (A.length + 1)))) := ((same_new h1 _).trans (same_new h2 _)).trans (same_new hoa _)
  have pO : Paired (WayAt H) (A ++ B) (vs.take A.length ++ vs.drop (A.length + 1)) := by
    have := paired_app (paired_take pr A.length) (paired_drop pr (A.length + 1))
    simpa using this
  have RO : Ways (upd (upd (upd H a1 (.lst (vs.take A.length))) a2 (.lst (vs.drop (A.length + 1)))) oa (.lst (vs.take A.length ++ vs.drop (A.length + 1)))) oa (A ++ B) := ⟨_, upd_same, ways_keep (fun t us q => s3 _ _ q) pO⟩
  generalize upd (upd (upd H a1 (.lst (vs.take A.length))) a2 (.lst (vs.drop (A.length + 1)))) oa (.lst (vs.take A.length ++ vs.drop (A.length + 1))) = H3 at s3 RO ⊢
  have hws : ∀ x ∈ A ++ B, x.1.length ≤ n ∧ x.1.length ≤ 12 ∧ IsLet x.1 := fun x hx => hw x (by
    rcases List.mem_append.mp hx with z | z
    · exact List.mem_append_left _ z
    · exact List.mem_append_right _ (List.mem_cons_of_mem _ z))
  have hww := hw w (List.mem_append_right _ List.mem_cons_self)
  obtain ⟨us, eu, pu⟩ := id RO
  have hlu := pu.length
  have hABl : (A ++ B).length = A.length + B.length := by simp
  have hS : SqL K H3 oa (((A ++ B).zip us).map Prod.snd) := by rw [List.map_snd_zip (by omega)]; exact SqL.of eu
  walk_at "rd"
  refine .inl ⟨⟨_, hS⟩, fun D hD => ?_⟩
  refine comp_list (item := Prod.snd) (xs := (A ++ B).zip us) (h := fun x => [tx (rowOfW n x.1)]) hD hS (by rw [List.length_zip]; omega) (fun _ => by simp) ?_ ?_
  · rintro ⟨x, v⟩ H4 out non hm' s4 ho' hno
    obtain ⟨t, rfl, et⟩ := paired_mem pu _ hm'
    walk_at "rd"
    exact ⟨x, n, s4 _ _ et, rfl, (hws x (List.of_mem_zip hm').1).1, hn, ho' _ _ rfl (Same.refl _)⟩
  intro H4 s4 e4
  rw [flat_way _ _ _ hlu] at e4
  have s34 := s3.trans s4
  walk_at "rd"
  refine ⟨w, n, s34 _ _ et, rfl, hww.1, hn, ?_⟩
  have rl := rowOfW_len (n := n) (x := w) hww.1
  have rr := rowOfW_row (n := n) hww.2.2
  refine ⟨(A ++ B).map (rowOfW n), e4, fun x hx => ?_, by simp only [st_cps]; omega, by rw [List.length_map]; omega, ?_, fun r H5 hr5 s5 P5 => ?_⟩
  · obtain ⟨y, hy, rfl⟩ := List.mem_map.mp hx
    simp only [st_cps]
    rw [rowOfW_len (hws y hy).1, rl]
  · simp only [st_cps]
    exact asked_ways rl fun x hx => (hws x hx).2.1
  simp only [st_cps] at P5
  have low := share_low rl rr (fun x hx => (hws x hx).1)
  unfold neededB at q
  generalize sharesOf ((A ++ B).map (rowOfW n)) (rowOfW n w) = xs at P5 low q
  obtain ⟨fv, ef, pf⟩ := P5
  have lf := pf.length
  have s35 := s4.trans s5
  have s05 := s34.trans s5
  refine .inl ⟨⟨_, SqL.of ef⟩, ?_⟩
  refine loop_list (xs := fv) (fun i σ H' => ∃ u1 u2, σ = [some (.ref p), some (.int A.length), some (.int n), some (.ref t), some (.ref oa), some (.ref D), u1, u2] ∧ Same H5 H' ∧ ∀ s ∈ xs.take i, (decide (A.length ≤ s.2) && decide (((A ++ B)[s.2]?).map (fun x => x.2) ≠ some w.2)) = false) ⟨none, none, rfl, Same.refl _, fun x hx => by simp at hx⟩ (fun i σ H' _ ⟨_, _, _, z, _⟩ => SqL.of (z _ _ ef)) ?_ ?_
  · rintro i v σ H6 hv ⟨u1, u2, rfl, s6, k6⟩
    have hi : i < fv.length := (List.getElem?_eq_some_iff.mp hv).1
    have hix : i < xs.length := by omega
    obtain ⟨y, hy, t2, ey, et2⟩ := paired_at pf (List.getElem?_eq_getElem hix)
    obtain rfl : v = .ref t2 := by rw [hy] at hv; rw [← Option.some.inj hv, ey]
    have lo := low xs[i] (List.getElem_mem hix)
    have hxi : xs.take (i + 1) = xs.take i ++ [xs[i]] := by rw [List.take_add_one, List.getElem?_eq_getElem hix]; rfl
    have hmem : xs[i] ∈ xs := List.getElem_mem hix
    generalize xs[i] = sh at et2 lo hxi hmem
    have next : (decide (A.length ≤ sh.2) && decide (((A ++ B)[sh.2]?).map (fun x => x.2) ≠ some w.2)) = false → ∀ s ∈ xs.take (i + 1), (decide (A.length ≤ s.2) && decide (((A ++ B)[s.2]?).map (fun x => x.2) ≠ some w.2)) = false := fun z s hs => by
      rw [hxi] at hs
      rcases List.mem_append.mp hs with hs | hs
      · exact k6 s hs
      · rw [List.mem_singleton.mp hs]; exact z
    refine ⟨t2, [_, _], rfl, SqT.of (s6 _ _ et2), rfl, _, [_], rfl, _, [], rfl, rfl, ?_⟩
    walk_at "rd"
    refine ite2 (fun c => ?_) fun c => ⟨_, _, rfl, s6, next (by rw [decide_eq_false (by omega)]; rfl)⟩
    refine ⟨A ++ B, sh.2, (RO.same s35).same s6, rfl, by omega, ?_⟩
    walk_at "rd"
    refine ⟨_, _, .inr (SqT.of (s6 _ _ (s05 _ _ et))), rfl, ?_⟩
    have hit : ((A ++ B)[sh.2]?).map (fun x => x.2) ≠ some w.2 → Q (.bl true) H6 := fun z => by
      have := q H6 (s05.trans s6)
      rw [List.any_eq_true.mpr ⟨sh, hmem, by rw [decide_eq_true (by omega), decide_eq_true z]; rfl⟩] at this
      exact this
    cases hdoor : ((A ++ B)[sh.2]?).map (fun x => x.2) with
    | none =>
      unfold optV
      walk_at "rd"
      exact hit (by rw [hdoor]; nofun)
    | some d =>
      unfold optV
      walk_at "rd"
      exact ite2 (fun e => ⟨_, _, rfl, s6, next (by rw [hdoor, e]; simp)⟩) fun e => hit (by rw [hdoor]; intro z; exact e (Option.some.inj z))
  · rintro σ H6 ⟨u1, u2, rfl, s6, k6⟩
    walk_at "rd"
    have := q H6 (s05.trans s6)
    rw [← lf, List.take_length] at k6
    rw [List.any_eq_false.mpr fun s hs => by rw [k6 s hs]; simp] at this
    exact this
theorem SameT.upd {T g : Addr} {H H' : Hp} {o : HO} (s : SameT T H H') (hg : H g = none) : SameT T H (upd H' g o) := by
  refine ⟨fun b u n e => ?_, ?_⟩
  · rw [upd_ne (ne_of_none e hg)]
    exact s.1 b u n e
  · by_cases h : T = g
    · exact ⟨o, by rw [h]; exact upd_same⟩
    · obtain ⟨u, e⟩ := s.2
      exact ⟨u, by rw [upd_ne h]; exact e⟩
theorem tup_way {H : Hp} {x w : Way} {v : V} (h : WayAt H x v) : tupEq H [tx w.1, tx w.2] v = decide (x = w) := by
  obtain ⟨t, rfl, e⟩ := h
  have txs : ∀ x y : List Nat, eqV (tx x) (tx y) = decide (x = y) := fun x y => by
    show (st x == st y) = _
    rw [Bool.eq_iff_iff, beq_iff_eq, st_inj, decide_eq_true_eq]
  unfold tupEq
  simp only [e, List.map_cons, List.map_nil, eqDs, eqD, txs, Bool.and_true]
  rw [Bool.eq_iff_iff]
  simp [Prod.ext_iff]
theorem any_way {H : Hp} {w : Way} : ∀ {B : List Way} {us : List V}, Paired (WayAt H) B us → us.any (tupEq H [tx w.1, tx w.2]) = decide (w ∈ B)
  | _, _, .nil => by simp
  | _, _, .cons (a := x) r t => by
    rw [List.any_cons, tup_way r, any_way t, Bool.eq_iff_iff, Bool.or_eq_true, decide_eq_true_eq, decide_eq_true_eq, decide_eq_true_eq, List.mem_cons]
    exact ⟨fun h => h.imp Eq.symm id, fun h => h.imp Eq.symm id⟩
theorem flat_ways {H : Hp} {w : Way} {B : List Way} {us : List V} (h : Paired (WayAt H) B us) : ∀ y ∈ us, FlatT H y := fun y hy => by
  obtain ⟨x, _, t, e, q⟩ := paired_memr h y hy
  exact ⟨t, _, e, q, rfl⟩
theorem filter_zip {α : Type} {F : α → V → Prop} (k : α → Bool) : ∀ {l : List α} {m : List V}, Paired F l m → Paired F (l.filter k) ((l.zip m).flatMap fun x => if k x.1 = true then [x.2] else [])
  | _, _, .nil => .nil
  | _, _, .cons (a := x) r t => by
    rw [List.zip_cons_cons, List.flatMap_cons, List.filter_cons]
    by_cases h : k x = true
    · rw [if_pos h, if_pos h]
      exact .cons r (filter_zip k t)
    · rw [if_neg h, if_neg h]
      exact filter_zip k t
def sp_ways_thinned (K : PySem.W.Frag) : Sp := fun vs H Q _ => match vs with
  | [.ref p, .int a] => ∃ (ws : List Way) (n : Nat), Ways H p ws ∧ ws.length < 64 ∧ a = (n : Int) ∧ n ≤ 1000 ∧ (∀ x ∈ ws, x.1.length ≤ n ∧ x.1.length ≤ 12 ∧ IsLet x.1) ∧ ∃ c TT, PySem.W.tabIn K "longest_first" = some (c, TT) ∧ H TT = some (.tbl #[]) ∧
      ∀ q H' O B, H q = none → SameT TT H H' → O.Perm ws → (O.Pairwise fun a b => b.1.length ≤ a.1.length) → ThinOk n O 0 B → Ways H' q (ws.filter fun w => decide (w ∈ B)) → Q (.ref q) H'
  | _ => False
theorem ok_ways_thinned (T : Top K mg) : Callee P w K mg base 23 "ways_thinned" ["ways", "size"] (sp_ways_thinned K) := by
  refine T.f_ways_thinned.cal sc_ways_thinned (by intro vs H Q E h; unfold sp_ways_thinned at h; split at h <;> first | rfl | exact h.elim) (fun _ _ _ _ _ _ us hl => match us, hl with | [_, _], _ => rfl) (fun f cdv A outer s H vs Q E hr h => ?_)
  unfold sp_ways_thinned at h
  split at h
  case h_2 => exact h.elim
  refine ⟨_, (pss_cons (ps_set (i := 2) sc_ways_thinned.nd rfl (by first | exact Or.inl rfl | exact Or.inr rfl) (pe_fn (ok_longest_first T) (hr.mono (by first | decide | omega)) rfl (pa_cons (qv 0) pa_nil)))
      (pss_cons (qs_for PassesOwn.never rfl (qi_range3 rfl T.b_range (pe_op op_subK (pe_callB (lenE K rfl) rfl T.b_len bb_len (pa_cons (qv 0) pa_nil)) pe_int) (qe_neg pe_int) (qe_neg pe_int)) (pg_name (i := 3) sc_ways_thinned.nd rfl (by first | exact Or.inl rfl | exact Or.inr rfl)) (pss_one (ps_if (pt_not (qt_val (pe_fn (ok_is_way_needed T) (hr.mono (by first | decide | omega)) rfl (pa_cons (qv 2) (pa_cons (qv 3) (pa_cons (qv 1) pa_nil)))))) (pss_one (ps_expr (qe_popAt (qv 2) (qv 3)))) pss_nil)))
      (pss_one (ps_ret (qe_comp (nt := 1) (fi := [2]) (N' := ["way", "kept"]) rfl (cscope rfl (by decide +kernel)) (cnames (N := ["ways", "size", "kept", "number"]) (sc := defScope s_ways_thinned) rfl rfl (by decide +kernel)) (gk_name (by decide)) (iterE K rfl (qv 0)) (fun _ _ _ _ _ => (pg_name (i := 0) (by show (["way", "kept"] : List Str).Nodup; decide +kernel) rfl (by first | exact Or.inl rfl | exact Or.inr rfl))) (fun _ _ _ _ _ => (pif_one (qt_cmp (op_inT K rfl hr) (qv 0) (qv 1)))) (fun _ _ _ _ _ => (qv 0))))))), ?_⟩
  rename_i p a
  obtain ⟨ws, n, W0, hl, rfl, hn, hw, c, TT, ht, hT, q⟩ := h
  walk_at "rd"
  refine ⟨ws, W0, hl, fun x hx => by have := (hw x hx).2.1; omega, c, TT, ht, hT, fun g H1 O hg s1 W1 hp hd => ?_⟩
  have hlO := hp.length_eq
  have hwO : ∀ x ∈ O, x.1.length ≤ n ∧ x.1.length ≤ 12 ∧ IsLet x.1 := fun x hx => hw x (hp.mem_iff.mp hx)
  obtain ⟨vs, e1, pr⟩ := id (W0.sameT hT s1)
  have hlv := pr.length
  walk_at "rd"
  refine ⟨vs, .inl (SqL.of e1), ⟨by omega, by omega⟩, ?_⟩
  rw [show ((vs.length : Int) - 1 - -1).toNat = O.length by omega, show (vs.length : Int) = (O.length : Int) by omega]
  refine loop_down (fun i σ H' => ∃ (u : Option V) (B : List Way), σ = [some (.ref p), some (.int n), some (.ref g), u] ∧ SameT TT H H' ∧ Ways H' g (O.take (O.length - i) ++ B) ∧ ThinOk n O (O.length - i) B)
    ⟨none, [], rfl, s1, by simpa using W1, by simpa using thin_start n O⟩ ?_ ?_
  · rintro i σ H2 hi ⟨u, B, rfl, s2, W2, th⟩
    have hi : i < O.length := by omega
    obtain ⟨m, hm⟩ : ∃ m, O.length - i = m + 1 := ⟨O.length - i - 1, by omega⟩
    have hml : m < O.length := by omega
    have hni : (O.length : Int) - 1 - (i : Int) = (m : Int) := by omega
    have en : O.length - (i + 1) = m := by omega
    rw [hm] at W2 th
    have eA : O.take (m + 1) ++ B = O.take m ++ O[m] :: B := by rw [take_one hml, List.append_assoc]; rfl
    rw [eA] at W2
    have lA : (O.take m).length = m := by rw [List.length_take]; omega
    have hwA : ∀ x ∈ O.take m ++ O[m] :: B, x.1.length ≤ n ∧ x.1.length ≤ 12 ∧ IsLet x.1 := fun x hx => by
      rcases List.mem_append.mp hx with z | z
      · exact hwO x (List.mem_of_mem_take z)
      · rcases List.mem_cons.mp z with z | z
        · rw [z]; exact hwO _ (List.getElem_mem hml)
        · exact hwO x (List.mem_of_mem_drop (th.2.2.subset z))
    have lB : B.length ≤ O.length - (m + 1) := by have := th.2.2.length_le; rwa [List.length_drop] at this
    have lAB : (O.take m ++ O[m] :: B).length ≤ 64 := by rw [List.length_append, lA, List.length_cons]; omega
    walk_at "rd"
    rw [hni]
    refine ⟨O.take m, B, O[m], n, W2, by rw [lA], rfl, hn, lAB, hwA, fun H3 s3 => ?_⟩
    have iff := neededB_iff (n := n) (A := O.take m) (B := B) (w := O[m]) fun x hx => ⟨(hwA x hx).1, (hwA x hx).2.2⟩
    have W3 := W2.same s3
    have s23 := s2.trans s3
    cases hb : neededB n (O.take m) O[m] B with
    | true =>
      walk_at "rd"
      refine ⟨_, O[m] :: B, rfl, s23, ?_, ?_⟩
      · rw [en]; exact W3
      · rw [en]; exact thin_keep hml th (iff.mp hb)
    | false =>
      obtain ⟨us, eu, pu⟩ := W3
      have hlu := pu.length
      have hmu : m < us.length := by rw [← hlu, List.length_append, lA, List.length_cons]; omega
      walk_at "rd"
      obtain ⟨v, hv⟩ : ∃ v, us[m]? = some v := ⟨us[m], List.getElem?_eq_getElem hmu⟩
      refine ⟨⟨_, eu⟩, us, m, v, rfl, eu, by omega, hv, _, B, rfl, s23.upd hg, ⟨_, upd_same, ?_⟩, ?_⟩
      · rw [en]
        have := paired_erase pu m
        rw [show (O.take m ++ O[m] :: B).eraseIdx m = O.take m ++ B by
          rw [List.eraseIdx_eq_take_drop_succ, List.take_append_of_le_length (by omega), List.take_of_length_le (by omega), List.drop_append, List.drop_of_length_le (by omega), lA]
          simp] at this
        exact ways_keep (fun t vs q => keep_lst eu t vs q) this
      · rw [en]
        exact thin_strike hml th fun z => by rw [iff.mpr z] at hb; cases hb
  · rintro σ H2 ⟨u, B, rfl, s2, W2, th⟩
    rw [Nat.sub_self] at W2 th
    rw [List.take_zero, List.nil_append] at W2
    obtain ⟨ks, ek, pk⟩ := id W2
    obtain ⟨vs, e2, pr⟩ := id (W0.sameT hT s2)
    have hlv := pr.length
    have hS : SqL K H2 p ((ws.zip vs).map Prod.snd) := by rw [List.map_snd_zip (by omega)]; exact SqL.of e2
    walk_at "rd"
    refine .inl ⟨⟨_, hS⟩, fun D hD => ?_⟩
    refine comp_list (item := Prod.snd) (xs := ws.zip vs) (h := fun x => if decide (x.1 ∈ B) = true then [x.2] else []) hD hS (by rw [List.length_zip]; omega) (fun _ => by split <;> simp) ?_ ?_
    · rintro ⟨x, v⟩ H3 out non hm' s3 ho hno
      obtain ⟨t, rfl, et⟩ := paired_mem pr _ hm'
      have pk3 := ways_keep (fun t us q => s3 _ _ q) pk
      walk_at "rd"
      refine ⟨[tx x.1, tx x.2], ks, SqL.of (s3 _ _ ek), s3 _ _ et, rfl, flat_ways (w := x) pk3, ?_⟩
      rw [any_way pk3]
      walk_at "rd"
      exact ite2 (fun z => ho _ _ (if_pos (decide_eq_true z)) (Same.refl _)) fun z => hno _ (if_neg (by simpa using z)) (Same.refl _)
    intro H3 s3 e3
    exact q D H3 O B (s2.free hD) (s2.trans s3) hp hd th ⟨_, e3, filter_zip (fun w => decide (w ∈ B)) (ways_keep (fun t us q => s3 _ _ q) pr)⟩
def doorAll (ws : List Way) (cs : List (List Nat)) : List (Option (List Nat)) := cs.map fun c => doorD ws c (c.length + 1)
def sp__law_doors (K : PySem.W.Frag) : Sp := fun vs H Q _ => match vs with
  | [.ref p, .ref ca] => ∃ (ws : List Way) (cs : List (List Nat)), Ways H p ws ∧ SqL K H ca (cs.map tx) ∧ cs.length ≤ 1000 ∧ (∀ c ∈ cs, c.length ≤ 1000) ∧ ∀ q H', H q = none → Same H H' → H' q = some (.lst ((doorAll ws cs).map optV)) → Q (.ref q) H'
  | _ => False
theorem ok__law_doors (T : Top K mg) : Callee P w K mg base 2 "_law_doors" ["_law_ways_here", "_law_choices_here"] (sp__law_doors K) := by
  refine T.f__law_doors.cal sc__law_doors (by intro vs H Q E h; unfold sp__law_doors at h; split at h <;> first | rfl | exact h.elim) (fun _ _ _ _ _ _ us hl => match us, hl with | [_, _], _ => rfl) (fun f cdv A outer s H vs Q E hr h => ?_)
  unfold sp__law_doors at h
  split at h
  case h_2 => exact h.elim
  refine ⟨_, (pss_one (ps_ret (qe_comp (nt := 1) (fi := [0]) (N' := ["_law_choice", "_law_ways_here"]) rfl (cscope rfl (by decide +kernel)) (cnames (N := ["_law_ways_here", "_law_choices_here"]) (sc := defScope s__law_doors) rfl rfl (by decide +kernel)) (gk_name (by decide)) (iterE K rfl (qv 1)) (fun _ _ _ _ _ => (pg_name (i := 0) (by show (["_law_choice", "_law_ways_here"] : List Str).Nodup; decide +kernel) rfl (by first | exact Or.inl rfl | exact Or.inr rfl))) (fun _ _ _ _ _ => pif_nil) (fun _ _ _ _ _ => (pe_fn (ok__law_door T) (hr.mono (by first | decide | omega)) rfl (pa_cons (qv 1) (pa_cons (qv 0) pa_nil))))))), ?_⟩
  rename_i p ca
  obtain ⟨ws, cs, W0, hc, h1, h2, q⟩ := h
  walk_at "rd"
  refine .inl ⟨⟨_, hc⟩, fun D hD => ?_⟩
  refine comp_list (item := tx) (xs := cs) (h := fun c => [optV (doorD ws c (c.length + 1))]) hD hc (by omega) (fun _ => by simp) ?_ ?_
  · intro c H1 out non hm s1 ho _
    walk_at "rd"
    exact ⟨ws, W0.same s1, h2 c hm, fun H2 s2 => ho _ _ rfl s2⟩
  intro H1 s1 e1
  rw [flat_one' fun c : List Nat => optV (doorD ws c (c.length + 1))] at e1
  refine q D H1 hD s1 ?_
  unfold doorAll
  rw [e1, List.map_map]
  rfl
theorem doors_deep {H : Hp} {p : Addr} {ds : List (Option (List Nat))} (h : H p = some (.lst (ds.map optV))) : Deep K H 1 (.ref p) (.l (ds.map fun d => D.f (optV d))) := by
  refine .inr (.inl ⟨p, _, _, rfl, rfl, SqL.of h, ?_⟩)
  clear h
  induction ds with
  | nil => exact .nil
  | cons d ds ih => exact .cons ⟨rfl, by cases d <;> rfl⟩ ih
theorem eqDs_doors : ∀ a b : List (Option (List Nat)), eqDs (a.map fun d => D.f (optV d)) (b.map fun d => D.f (optV d)) = decide (a = b)
  | [], [] => by simp [eqDs]
  | [], _ :: _ => by simp [eqDs]
  | _ :: _, [] => by simp [eqDs]
  | x :: a, y :: b => by
    have e : eqV (optV x) (optV y) = decide (x = y) := by
      cases x with
      | none => cases y with
        | none => rfl
        | some y => rfl
      | some x => cases y with
        | none => rfl
        | some y =>
          show (st x == st y) = _
          rw [Bool.eq_iff_iff, beq_iff_eq, st_inj, decide_eq_true_eq]
          simp
    rw [List.map_cons, List.map_cons, eqDs, eqDs_doors a b, eqD, e, Bool.eq_iff_iff]
    simp
theorem eqD_way (x y : Way) : eqD (wayD x) (wayD y) = decide (x = y) := by
  have txs : ∀ x y : List Nat, eqV (tx x) (tx y) = decide (x = y) := fun x y => by
    show (st x == st y) = _
    rw [Bool.eq_iff_iff, beq_iff_eq, st_inj, decide_eq_true_eq]
  unfold wayD
  simp only [eqD, eqDs, Bool.and_true, txs]
  rw [Bool.eq_iff_iff]
  simp [Prod.ext_iff]
theorem deep_way {H : Hp} {x : Way} {v : V} (h : WayAt H x v) : Deep K H 1 v (wayD x) := by
  obtain ⟨t, rfl, q⟩ := h
  exact .inr (.inr ⟨t, _, _, rfl, rfl, SqT.of q, .cons (deep_flat 0 rfl) (.cons (deep_flat 0 rfl) .nil)⟩)
def sp__law_left (K : PySem.W.Frag) : Sp := fun vs H Q _ => match vs with
  | [.ref wa, .ref fa] => ∃ (ws L : List Way), Ways H wa ws ∧ Ways H fa L ∧ List.Sublist L ws ∧ ws.length ≤ 100 ∧ ∀ H', Same H H' → Q (.bl true) H'
  | _ => False
theorem ok__law_left (T : Top K mg) : Callee P w K mg base 1 "_law_left" ["_law_ways_here", "_law_found"] (sp__law_left K) := by
  refine T.f__law_left.cal sc__law_left (by intro vs H Q E h; unfold sp__law_left at h; split at h <;> first | rfl | exact h.elim) (fun _ _ _ _ _ _ us hl => match us, hl with | [_, _], _ => rfl) (fun f cdv A outer s H vs Q E hr h => ?_)
  unfold sp__law_left at h
  split at h
  case h_2 => exact h.elim
  refine ⟨_, (pss_cons (ps_set (i := 2) sc__law_left.nd rfl (by first | exact Or.inl rfl | exact Or.inr rfl) pe_int)
      (pss_cons (qs_for PassesOwn.never rfl (iterE K rfl (qv 1)) (pg_name (i := 3) sc__law_left.nd rfl (by first | exact Or.inl rfl | exact Or.inr rfl)) (pss_cons (ps_while PassesOwn.never (PW.pt (pw_and (qt_cmp op_ltK (qv 2) (pe_callB (lenE K rfl) rfl T.b_len bb_len (pa_cons (qv 0) pa_nil))) (pw_and1 (qt_cmp (neDE K rfl hr) (pe_ix (ixE K rfl) (qv 0) (qv 2) (fun _ _ => rfl)) (qv 3))))) (pss_one (ps_set (i := 2) sc__law_left.nd rfl (by first | exact Or.inl rfl | exact Or.inr rfl) (pe_op op_addK (qv 2) pe_int))))
      (pss_cons (ps_if (PW.pt (pw_or (qt_cmp op_eqK (qv 2) (pe_callB (lenE K rfl) rfl T.b_len bb_len (pa_cons (qv 0) pa_nil))) (pw_or1 (pt_not (qt_val (qe_isinst .tuple rfl T.b_isinstance (qv 3) rfl T.b_tuple bb_tuple)))))) (pss_one (ps_ret pe_bl)) pss_nil)
      (pss_one (ps_set (i := 2) sc__law_left.nd rfl (by first | exact Or.inl rfl | exact Or.inr rfl) (pe_op op_addK (qv 2) pe_int))))))
      (pss_one (ps_ret pe_bl)))), ?_⟩
  rename_i wa fa
  obtain ⟨ws, L, Ww, Wf, sub, hl, q⟩ := h
  obtain ⟨wv, ew, pw⟩ := id Ww
  obtain ⟨fv, ef, pf⟩ := id Wf
  have lw := pw.length
  have lf := pf.length
  have ls := sub.length_le
  walk_at "rd"
  refine .inl ⟨⟨_, SqL.of ef⟩, ?_⟩
  refine loop_list (xs := fv) (fun i σ H' => ∃ (u : Option V) (k : Nat), σ = [some (.ref wa), some (.ref fa), some (.int k), u] ∧ H' = H ∧ List.Sublist (L.drop i) (ws.drop k) ∧ k ≤ ws.length)
    ⟨none, 0, rfl, rfl, by simpa using sub, Nat.zero_le _⟩ (fun i σ H' _ ⟨_, _, _, z, _⟩ => by rw [z]; exact SqL.of ef) ?_ ?_
  · rintro i v σ H1 hv ⟨u, k, rfl, rfl, sb, hk⟩
    have hi : i < fv.length := (List.getElem?_eq_some_iff.mp hv).1
    have hil : i < L.length := by omega
    obtain ⟨y, hy, at_⟩ := paired_at pf (List.getElem?_eq_getElem hil)
    obtain rfl : v = y := by rw [hy] at hv; exact (Option.some.inj hv).symm
    rw [List.drop_eq_getElem_cons hil] at sb
    generalize L[i] = x at at_ sb
    walk_at "rd"
    refine ⟨fun m σ H' => ∃ k : Nat, m = ws.length - k ∧ σ = [some (.ref wa), some (.ref fa), some (.int k), some v] ∧ H' = H1 ∧ List.Sublist (x :: L.drop (i + 1)) (ws.drop k) ∧ k ≤ ws.length, ⟨_, k, rfl, rfl, rfl, sb, hk⟩, ?_⟩
    rintro m σ H' ⟨k, rfl, rfl, rfl, sb, hk⟩
    have hkl : k < ws.length := by
      rcases Nat.lt_or_ge k ws.length with z | z
      · exact z
      · rw [List.drop_eq_nil_of_le z] at sb
        cases sb
    obtain ⟨yw, hyw, atw⟩ := paired_at pw (List.getElem?_eq_getElem hkl)
    obtain ⟨t, rfl, et⟩ := id at_
    rw [List.drop_eq_getElem_cons hkl] at sb
    walk_at "rd"
    refine ⟨wv, .inl (SqL.of ew), ?_⟩
    rw [if_pos (by omega)]
    refine ⟨wv, _, .inl (SqL.of ew), atI_nat hyw, ?_⟩
    obtain ⟨tw, rfl, etw⟩ := id atw
    walk_at "rd"
    refine ⟨1, _, _, by decide, deep_way atw, deep_way at_, ?_⟩
    rw [eqD_way]
    by_cases c : ws[k] = x
    · rw [decide_eq_true c]
      walk_at "rd"
      refine ⟨wv, .inl (SqL.of ew), ?_⟩
      rw [if_neg (by omega)]
      refine .inr ⟨⟨_, et⟩, some (.ref t), k + 1, rfl, ?_, by omega⟩
      rw [c] at sb
      exact List.cons_sublist_cons.mp sb
    · rw [decide_eq_false c]
      walk_at "rd"
      refine ⟨fun σ' H2 => σ' = [some (.ref wa), some (.ref fa), some (.int ((k + 1 : Nat) : Int)), some (.ref t)] ∧ H2 = H', fun σ' H2 ⟨z1, z2⟩ => ⟨ws.length - (k + 1), by omega, k + 1, rfl, z1, z2, ?_, by omega⟩, rfl, rfl⟩
      cases sb with
      | cons _ h => exact h
      | cons_cons _ h => exact absurd rfl c
  · rintro σ H1 ⟨u, k, rfl, rfl, sb, hk⟩
    walk_at "rd"
    exact q H1 (Same.refl _)
theorem flat_begin : ∀ (l : List Way) (m : List V), l.length = m.length → ((l.zip m).flatMap fun pr => [tx pr.1.1]) = (l.map fun x => x.1).map tx
  | [], _, _ => rfl
  | x :: l, [], h => by cases h
  | x :: l, v :: m, h => by
    rw [List.zip_cons_cons, List.flatMap_cons, flat_begin l m (by simpa using h)]
    rfl
def WaysIn (k : Nat) (ws : List Way) : Prop := (∀ x ∈ ws, x.1.length ≤ k ∧ IsLet x.1) ∧ (ws.map fun x => x.1).Nodup
def sp__law_with_both (K : PySem.W.Frag) : Sp := fun vs H Q _ => match vs with
  | [.ref p, .int c] => ∃ ws : List Way, Ways H p ws ∧ ws.length ≤ 50 ∧ WaysIn 5 ws ∧ ∀ q H' ws', Same H H' → Ways H' q ws' → ws'.length ≤ ws.length + 2 → WaysIn 5 ws' → Q (.ref q) H'
  | _ => False
theorem ok__law_with_both (T : Top K mg) : Callee P w K mg base 1 "_law_with_both" ["_law_ways_here", "_law_cell"] (sp__law_with_both K) := by
  refine T.f__law_with_both.cal sc__law_with_both (by intro vs H Q E h; unfold sp__law_with_both at h; split at h <;> first | rfl | exact h.elim) (fun _ _ _ _ _ _ us hl => match us, hl with | [_, _], _ => rfl) (fun f cdv A outer s H vs Q E hr h => ?_)
  unfold sp__law_with_both at h
  split at h
  case h_2 => exact h.elim
  refine ⟨_, (pss_cons (ps_if (qt_cmp (eqNilE K rfl (hu1 hr)) (qv 0) (pe_lst pa_nil)) (pss_one (ps_ret (qv 0))) pss_nil)
      (pss_cons (ps_asg (pe_ix (ixE K rfl) (qv 0) (pe_op op_modK (qv 1) (pe_callB (lenE K rfl) rfl T.b_len bb_len (pa_cons (qv 0) pa_nil))) (fun _ _ => rfl)) (seqE K rfl rfl (n := 2) (pgs_cons (pg_name (i := 2) sc__law_with_both.nd rfl (by first | exact Or.inl rfl | exact Or.inr rfl)) (pgs_cons (pg_name (i := 3) sc__law_with_both.nd rfl (by first | exact Or.inl rfl | exact Or.inr rfl)) pgs_nil))))
      (pss_cons (ps_setC (i := 4) (nt := 2) (fi := []) (N' := ["_law_one", "_law_there"]) sc__law_with_both.nd rfl (by first | exact Or.inl rfl | exact Or.inr rfl) rfl (cscope rfl (by decide +kernel)) (cnames (N := ["_law_ways_here", "_law_cell", "_law_beginning", "_law_door_here", "_law_known", "_law_found", "_law_sign"]) (sc := defScope s__law_with_both) rfl rfl (by decide +kernel)) (gk_tup2 (by decide) (by decide)) (iterE K rfl (qv 0)) (fun _ _ _ _ _ => (tupE K rfl rfl (n := 2) (pgs_cons (pg_name (i := 0) (by show (["_law_one", "_law_there"] : List Str).Nodup; decide +kernel) rfl (by first | exact Or.inl rfl | exact Or.inr rfl)) (pgs_cons (pg_name (i := 1) (by show (["_law_one", "_law_there"] : List Str).Nodup; decide +kernel) rfl (by first | exact Or.inl rfl | exact Or.inr rfl)) pgs_nil)))) (fun _ _ _ _ _ => pif_nil) (fun _ _ _ _ _ => (qv 0)))
      (pss_cons (ps_set (i := 5) sc__law_with_both.nd rfl (by first | exact Or.inl rfl | exact Or.inr rfl) (pe_callTy (call_listK K rfl rfl) rfl T.b_list bb_list (pa_cons (qv 0) pa_nil)))
      (pss_cons (qs_for PassesOwn.never rfl (iterE K rfl (pe_lst (pa_cons (qs [48]) (pa_cons (qs [49]) pa_nil)))) (pg_name (i := 6) sc__law_with_both.nd rfl (by first | exact Or.inl rfl | exact Or.inr rfl)) (pss_one (ps_if (PW.pt (pw_and (qt_cmp (notinE K rfl) (pe_op op_addK (qv 2) (qv 6)) (qv 4)) (pw_and1 (qt_cmp op_ltK (pe_callB (lenE K rfl) rfl T.b_len bb_len (pa_cons (qv 2) pa_nil)) pe_int)))) (pss_one (ps_expr (qe_append (qv 5) (pe_tup (pa_cons (pe_op op_addK (qv 2) (qv 6)) (pa_cons (pe_ix (ixE K rfl) (pe_ix (ixE K rfl) (qv 0) (pe_op op_modK (pe_op op_fdivK (qv 1) pe_int) (pe_callB (lenE K rfl) rfl T.b_len bb_len (pa_cons (qv 0) pa_nil))) (fun _ _ => rfl)) pe_int (fun _ _ => rfl)) pa_nil)))))) pss_nil)))
      (pss_one (ps_ret (qv 5)))))))), ?_⟩
  rename_i p c
  obtain ⟨ws, W0, hl, ⟨hw, nd⟩, q⟩ := h
  obtain ⟨vs, e0, pr⟩ := id W0
  have hlv := pr.length
  walk_at "rd"
  refine ⟨by decide, fun ea hea => ⟨vs, SqL.of (same_new hea _ _ _ e0), SqL.of upd_same, ite2 (fun _ => q p _ ws (same_new hea _) (W0.same (same_new hea _)) (by omega) ⟨hw, nd⟩) fun hne => ?_⟩⟩
  have s1 := same_new hea (.lst [])
  have hv : 0 < vs.length := List.length_pos_iff.mpr hne
  have W1 := W0.same s1
  have e1 := s1 _ _ e0
  have pr1 := ways_keep (fun t us q => s1 _ _ q) pr
  generalize upd H ea (.lst []) = H1 at s1 W1 e1 pr1 ⊢
  have pick : ∀ z : Int, ∃ j : Nat, z % (vs.length : Int) = j ∧ j < vs.length := fun z => by
    have a0 := Int.emod_nonneg z (show (vs.length : Int) ≠ 0 by omega)
    have a1 := Int.emod_lt_of_pos z (show (0 : Int) < vs.length by omega)
    exact ⟨(z % (vs.length : Int)).toNat, by omega, by omega⟩
  walk_at "rd"
  obtain ⟨j, hj, hjl⟩ := pick c
  have hjw : j < ws.length := by omega
  obtain ⟨y, hy, t, rfl, et⟩ := paired_at pr1 (List.getElem?_eq_getElem hjw)
  have hb := hw ws[j] (List.getElem_mem hjw)
  generalize ws[j] = x at et hb
  refine ⟨vs, .inl (SqL.of e1), by omega, vs, _, .inl (SqL.of e1), by rw [hj]; exact atI_nat hy, ?_⟩
  refine ⟨[_, _], .inr (SqT.of et), rfl, _, [_], rfl, _, [], rfl, rfl, ?_⟩
  have hS : SqL K H1 p ((ws.zip vs).map Prod.snd) := by rw [List.map_snd_zip (by omega)]; exact SqL.of e1
  walk_at "rd"
  refine .inl ⟨⟨_, hS⟩, fun D hD => ?_⟩
  refine comp_list (item := Prod.snd) (xs := ws.zip vs) (h := fun x => [tx x.1.1]) hD hS (by rw [List.length_zip]; omega) (fun _ => by simp) ?_ ?_
  · rintro ⟨x, v⟩ H3 out non hm' s3 ho hno
    obtain ⟨t, rfl, et⟩ := paired_mem pr1 _ hm'
    refine ⟨t, [_, _], rfl, SqT.of (s3 _ _ et), rfl, _, [_], rfl, _, [], rfl, rfl, ?_⟩
    walk_at "rd"
    exact ho _ _ rfl (Same.refl _)
  intro H2 s2 e2
  rw [flat_begin _ _ hlv] at e2
  have e12 := s2 _ _ e1
  walk_at "rd"
  refine ⟨vs, .inl (SqL.of e12), fun g hg => ?_⟩
  have s3 := same_new hg (.lst vs)
  have s13 := s2.trans s3
  have W3 : Ways (upd H2 g (.lst vs)) g ws := ⟨vs, upd_same, ways_keep (fun t us q => s13 _ _ q) pr1⟩
  have e13 := s3 _ _ e12
  have e23 := s3 _ _ e2
  have s03 := s1.trans s13
  have hg0 : H g = none := s1.free (s2.free hg)
  have hg1 : H1 g = none := s2.free hg
  generalize upd H2 g (.lst vs) = H3 at s3 s13 W3 e13 e23 s03 ⊢
  refine ⟨by decide, fun la hla => ?_⟩
  walk_at "rd"
  refine .inl ⟨⟨_, SqL.of upd_same⟩, ?_⟩
  have hlag : la ≠ g := fun z => by
    obtain ⟨us, eg, _⟩ := W3
    rw [z, eg] at hla
    cases hla
  have hDg : D ≠ g := fun z => by rw [z, hg] at e2; cases e2
  have hpg : p ≠ g := fun z => by rw [z, hg1] at e1; cases e1
  have s4 := same_new hla (.lst [V.str (st [48]), V.str (st [49])])
  have W4 := W3.same s4
  have e14 := s4 _ _ e13
  have e24 := s4 _ _ e23
  have ela : upd H3 la (.lst [V.str (st [48]), V.str (st [49])]) la = some (.lst ([[48], [49]].map tx)) := upd_same
  have s14 := s13.trans s4
  generalize upd H3 la (.lst [V.str (st [48]), V.str (st [49])]) = H4 at s4 W4 e14 e24 ela s14 ⊢
  refine loop_items tx [[48], [49]] (fun i σ H' => ∃ (u : Option V) (zs : List Way), σ = [some (.ref p), some (.int c), some (tx x.1), some (tx x.2), some (.ref D), some (.ref g), u] ∧ Same H1 H' ∧ H' la = some (.lst ([[48], [49]].map tx)) ∧ H' D = some (.lst ((ws.map fun x => x.1).map tx)) ∧
      Ways H' g zs ∧ WaysIn 5 zs ∧ zs.length ≤ ws.length + i ∧ ∀ y ∈ zs.map fun x => x.1, y ∈ (ws.map fun x => x.1) ∨ ∃ k, k < i ∧ y = x.1 ++ [48 + k])
    ⟨none, ws, rfl, s14, ela, e24, W4, ⟨hw, nd⟩, by omega, fun y hy => .inl hy⟩ (fun i σ H' _ ⟨_, _, _, _, z, _⟩ => SqL.of z) ?_ ?_
  · rintro i z σ H5 hz ⟨u, zs, rfl, s5, el5, eD5, W5, in5, l5, k5⟩
    obtain ⟨hi2, rfl⟩ : i < 2 ∧ z = [48 + i] := by
      match i, hz with
      | 0, hz => exact ⟨by decide, (Option.some.inj hz).symm⟩
      | 1, hz => exact ⟨by decide, (Option.some.inj hz).symm⟩
    have e15 := s5 _ _ e1
    have pr5 := ways_keep (fun t us q => s5 _ _ q) pr1
    have fl : ((ws.map fun x => x.1).map tx).all flatV = true := by
      rw [List.all_map, List.all_eq_true]
      intro _ _
      rfl
    have stay : ∀ y ∈ zs.map fun x => x.1, y ∈ (ws.map fun x => x.1) ∨ ∃ k, k < i + 1 ∧ y = x.1 ++ [48 + k] := fun y hy => by
      rcases k5 y hy with z | ⟨k, hk, e⟩
      · exact .inl z
      · exact .inr ⟨k, by omega, e⟩
    walk_at "rd"
    refine ⟨by omega, _, .inl (SqL.of eD5), rfl, fl, ite2 (fun g0 => ⟨by omega, ite2 (fun g1 => ?_) fun _ => ⟨_, zs, rfl, s5, el5, eD5, W5, in5, by omega, stay⟩⟩) fun _ => ⟨_, zs, rfl, s5, el5, eD5, W5, in5, by omega, stay⟩⟩
    obtain ⟨us, eg, pu⟩ := id W5
    have hlu := pu.length
    obtain ⟨j2, hj2, hjl2⟩ := pick (c / 11)
    have hjw2 : j2 < ws.length := by omega
    obtain ⟨y, hy, t2, rfl, et2⟩ := paired_at pr5 (List.getElem?_eq_getElem hjw2)
    refine ⟨⟨_, eg⟩, by omega, vs, .inl (SqL.of e15), by omega, vs, _, .inl (SqL.of e15), by rw [hj2]; exact atI_nat hy, ?_⟩
    walk_at "rd"
    refine ⟨_, _, .inr (SqT.of et2), rfl, by decide, fun t3 ht3 => ?_⟩
    have ngt : g ≠ t3 := ne_of_none eg ht3
    have egt : upd H5 t3 (.tup [tx (x.1 ++ [48 + i]), tx ws[j2].2]) g = some (.lst us) := (upd_ne ngt).trans eg
    have nla : la ≠ t3 := ne_of_none el5 ht3
    have nD : D ≠ t3 := ne_of_none eD5 ht3
    refine ⟨us, egt, sizeBig (by omega), _, zs ++ [(x.1 ++ [48 + i], ws[j2].2)], rfl, same_upd (s5.trans (same_new ht3 _)) hg1, by rw [upd_ne hlag, upd_ne nla]; exact el5, by rw [upd_ne hDg, upd_ne nD]; exact eD5, ⟨_, upd_same, paired_snoc (ways_keep ?_ pu) ⟨t3, rfl, by rw [upd_ne ngt.symm, upd_same]⟩⟩, ⟨fun y hy => ?_, ?_⟩, by rw [List.length_append]; simp; omega, fun y hy => ?_⟩
    · intro b us' hb'
      exact keep_lst egt b us' (same_new ht3 _ _ _ hb')
    · rcases List.mem_append.mp hy with hy | hy
      · exact in5.1 y hy
      · rw [List.mem_singleton.mp hy]
        refine ⟨by show (x.1 ++ [48 + i]).length ≤ 5; rw [List.length_append]; simp; omega, fun k hk => ?_⟩
        rcases List.mem_append.mp hk with hk | hk
        · exact hb.2 k hk
        · rw [List.mem_singleton.mp hk]
          omega
    · rw [List.map_append]
      refine List.nodup_append.mpr ⟨in5.2, by simp, fun a ha b hb' => ?_⟩
      have e : b = x.1 ++ [48 + i] := by simpa using hb'
      intro exy
      rw [exy, e] at ha
      rcases k5 _ ha with z | ⟨k, hk, e2⟩
      · have : inV (tx (x.1 ++ [48 + i])) ((ws.map fun x => x.1).map tx) = true := by
          unfold inV
          rw [List.any_eq_true]
          exact ⟨_, List.mem_map.mpr ⟨_, z, rfl⟩, by simp [eqV]⟩
        rw [show inV (tx (x.1 ++ [48 + i])) ((ws.map fun x => x.1).map tx) = false from g0] at this
        cases this
      · have := List.append_cancel_left e2
        simp at this
        omega
    · rw [List.map_append] at hy
      rcases List.mem_append.mp hy with hy | hy
      · exact stay y hy
      · have e : y = x.1 ++ [48 + i] := by simpa using hy
        exact .inr ⟨i, by omega, e⟩
  · rintro σ H5 ⟨u, zs, rfl, s5, el5, eD5, W5, in5, l5, k5⟩
    walk_at "rd"
    exact q g H5 zs (s1.trans s5) W5 l5 in5
theorem choices_mem : ∀ (n : Nat) (c : List Nat), c.length = n → IsLet c → c ∈ choicesL n
  | 0, c, h, _ => by rw [List.length_eq_zero_iff.mp h]; simp [choicesL]
  | n + 1, c, h, hl => by
    have hne : c ≠ [] := fun z => by rw [z] at h; cases h
    have e := List.dropLast_concat_getLast hne
    have hd : c.dropLast ∈ choicesL n := choices_mem n _ (by rw [List.length_dropLast]; omega) fun k hk => hl k (by rw [← e]; exact List.mem_append_left _ hk)
    rw [choicesL]
    rcases hl (c.getLast hne) (List.getLast_mem hne) with z | z
    · exact List.mem_append_left _ (List.mem_map.mpr ⟨_, hd, by rw [← z]; exact e⟩)
    · exact List.mem_append_right _ (List.mem_map.mpr ⟨_, hd, by rw [← z]; exact e⟩)
theorem cut_map {α : Type} (f : α → V) (l : List α) (lo hi : Option Int) : ∃ cs : List α, cutV (l.map f) lo hi = cs.map f ∧ cs.length ≤ l.length ∧ ∀ c ∈ cs, c ∈ l := by
  refine ⟨(l.drop (HT.sIx (l.map f).length 0 lo)).take (HT.sIx (l.map f).length (l.map f).length hi - HT.sIx (l.map f).length 0 lo), ?_, ?_, ?_⟩
  · unfold cutV
    rw [← List.map_drop, ← List.map_take]
  · rw [List.length_take, List.length_drop]
    omega
  · intro c hc
    exact List.mem_of_mem_drop (List.mem_of_mem_take hc)
theorem cut_len_le {α : Type} (f : α → V) (l : List α) (lo hi : Nat) : (cutV (l.map f) (some lo) (some hi)).length ≤ hi - lo := by
  unfold cutV
  rw [List.length_take, HT.sIx_nat, HT.sIx_nat]
  omega
theorem flat_lens : ∀ (l : List Way) (m : List V), l.length = m.length → ((l.zip m).flatMap fun pr => [V.int pr.1.1.length]) = (l.map fun x => (x.1.length : Int)).map V.int
  | [], _, _ => rfl
  | x :: l, [], h => by cases h
  | x :: l, v :: m, h => by
    rw [List.zip_cons_cons, List.flatMap_cons, flat_lens l m (by simpa using h)]
    rfl
def sp_law (K : PySem.W.Frag) : Sp := fun vs H Q _ => match vs with
  | [.ref a] => ∃ ns : List Int, SqL K H a (ns.map V.int) ∧ ns.length ≤ 63 ∧ (∃ c TT, PySem.W.tabIn K "longest_first" = some (c, TT) ∧ H TT = some (.tbl #[])) ∧ ∀ H', Q (.bl true) H'
  | _ => False
theorem ok_law (T : Top K mg) {f : Addr} {fd : FuncData} (F : Fun K "law" "law" s_law f fd) : FnOk P w K mg base CX0 24 f fd ["_law_script"] (sp_law K) := by
  refine F.ok sc_law (by intro vs H Q E h; unfold sp_law at h; split at h <;> first | rfl | exact h.elim) (fun cdv A outer s H vs Q E hr h => ?_)
  unfold sp_law at h
  split at h
  case h_2 => exact h.elim
  refine ⟨_, (pss_cons (ps_set (i := 1) sc_law.nd rfl (by first | exact Or.inl rfl | exact Or.inr rfl) (pe_fn (ok__law_names T) (hr.mono (by first | decide | omega)) rfl (pa_cons (pe_fn (ok__law_cell_at T) (hr.mono (by first | decide | omega)) rfl (pa_cons (qv 0) (pa_cons pe_int pa_nil))) (pa_cons pe_int pa_nil))))
      (pss_join (ps_if (qt_cmp op_eqK (pe_op op_modK (pe_op op_fdivK (pe_fn (ok__law_cell_at T) (hr.mono (by first | decide | omega)) rfl (pa_cons (qv 0) (pa_cons pe_int pa_nil))) pe_int) pe_int) pe_int) (pss_one (ps_set (i := 1) sc_law.nd rfl (by first | exact Or.inl rfl | exact Or.inr rfl) (pe_slice (slE K rfl) (qv 1) po_none (qo_some pe_int)))) pss_nil)
      (pss_cons (ps_set (i := 2) sc_law.nd rfl (by first | exact Or.inl rfl | exact Or.inr rfl) (pe_fn (ok__law_ways T) (hr.mono (by first | decide | omega)) rfl (pa_cons (pe_slice (slE K rfl) (qv 0) (qo_some pe_int) (qo_some pe_int)) (pa_cons pe_int (pa_cons (qv 1) pa_nil)))))
      (pss_join (ps_if (qt_cmp op_eqK (pe_op op_modK (pe_op op_fdivK (pe_fn (ok__law_cell_at T) (hr.mono (by first | decide | omega)) rfl (pa_cons (qv 0) (pa_cons pe_int pa_nil))) pe_int) pe_int) pe_int) (pss_one (ps_set (i := 2) sc_law.nd rfl (by first | exact Or.inl rfl | exact Or.inr rfl) (pe_fn (ok__law_with_both T) (hr.mono (by first | decide | omega)) rfl (pa_cons (qv 2) (pa_cons (pe_op op_fdivK (pe_fn (ok__law_cell_at T) (hr.mono (by first | decide | omega)) rfl (pa_cons (qv 0) (pa_cons pe_int pa_nil))) pe_int) pa_nil))))) pss_nil)
      (pss_cons (ps_set (i := 3) sc_law.nd rfl (by first | exact Or.inl rfl | exact Or.inr rfl) (pe_callB (call_maxK K rfl rfl) rfl T.b_max bb_max (pa_cons (pe_op op_addK (pe_lst (pa_cons pe_int pa_nil)) (qe_comp (nt := 2) (fi := []) (N' := ["_law_beginning", "_law_door_here"]) rfl (cscope rfl (by decide +kernel)) (cnames (N := ["_law_script", "_law_doors_here", "_law_ways_here", "_law_many", "_law_size", "_law_handed", "_law_found", "_law_choices_here", "_law_due", "_law_k"]) (sc := defScope s_law) rfl rfl (by decide +kernel)) (gk_tup2 (by decide) (by decide)) (iterE K rfl (qv 2)) (fun _ _ _ _ _ => (tupE K rfl rfl (n := 2) (pgs_cons (pg_name (i := 0) (by show (["_law_beginning", "_law_door_here"] : List Str).Nodup; decide +kernel) rfl (by first | exact Or.inl rfl | exact Or.inr rfl)) (pgs_cons (pg_name (i := 1) (by show (["_law_beginning", "_law_door_here"] : List Str).Nodup; decide +kernel) rfl (by first | exact Or.inl rfl | exact Or.inr rfl)) pgs_nil)))) (fun _ _ _ _ _ => pif_nil) (fun _ _ _ _ _ => (pe_callB (lenE K rfl) rfl T.b_len bb_len (pa_cons (qv 0) pa_nil))))) pa_nil)))
      (pss_cons (ps_set (i := 4) sc_law.nd rfl (by first | exact Or.inl rfl | exact Or.inr rfl) (qv 3))
      (pss_join (ps_if (qt_cmp op_eqK (pe_op op_modK (pe_fn (ok__law_cell_at T) (hr.mono (by first | decide | omega)) rfl (pa_cons (qv 0) (pa_cons pe_int pa_nil))) pe_int) pe_int) (pss_one (ps_set (i := 4) sc_law.nd rfl (by first | exact Or.inl rfl | exact Or.inr rfl) (pe_op op_addK (qv 3) (pe_op op_modK (pe_op op_fdivK (pe_fn (ok__law_cell_at T) (hr.mono (by first | decide | omega)) rfl (pa_cons (qv 0) (pa_cons pe_int pa_nil))) pe_int) pe_int)))) pss_nil)
      (pss_cons (ps_set (i := 5) sc_law.nd rfl (by first | exact Or.inl rfl | exact Or.inr rfl) (pe_callTy (call_listK K rfl rfl) rfl T.b_list bb_list (pa_cons (qv 2) pa_nil)))
      (pss_cons (ps_set (i := 6) sc_law.nd rfl (by first | exact Or.inl rfl | exact Or.inr rfl) (pe_fn (ok_ways_thinned T) (hr.mono (by first | decide | omega)) rfl (pa_cons (qv 5) (pa_cons (qv 4) pa_nil))))
      (pss_cons (ps_if (PW.pt (pw_or (pt_not (qt_val (qe_isinst .list rfl T.b_isinstance (qv 6) rfl T.b_list bb_list))) (pw_or (qt_cmp (neDE K rfl hr) (qv 5) (qv 2)) (pw_or1 (pt_not (qt_val (pe_fn (ok__law_left T) (hr.mono (by first | decide | omega)) rfl (pa_cons (qv 2) (pa_cons (qv 6) pa_nil))))))))) (pss_one (ps_ret pe_bl)) pss_nil)
      (pss_cons (ps_set (i := 7) sc_law.nd rfl (by first | exact Or.inl rfl | exact Or.inr rfl) (pe_fn (ok__law_choices T) (hr.mono (by first | decide | omega)) rfl (pa_cons (qv 3) pa_nil)))
      (pss_cons (ps_set (i := 8) sc_law.nd rfl (by first | exact Or.inl rfl | exact Or.inr rfl) (pe_fn (ok__law_doors T) (hr.mono (by first | decide | omega)) rfl (pa_cons (qv 2) (pa_cons (qv 7) pa_nil))))
      (pss_cons (ps_if (qt_cmp (neDE K rfl hr) (pe_fn (ok__law_doors T) (hr.mono (by first | decide | omega)) rfl (pa_cons (qv 6) (pa_cons (qv 7) pa_nil))) (qv 8)) (pss_one (ps_ret pe_bl)) pss_nil)
      (pss_cons (qs_for PassesOwn.never rfl (qi_range1 rfl T.b_range (pe_callB (lenE K rfl) rfl T.b_len bb_len (pa_cons (qv 6) pa_nil))) (pg_name (i := 9) sc_law.nd rfl (by first | exact Or.inl rfl | exact Or.inr rfl)) (pss_one (ps_if (qt_cmp (eqDE K rfl hr) (pe_fn (ok__law_doors T) (hr.mono (by first | decide | omega)) rfl (pa_cons (pe_op op_addK (pe_slice (slE K rfl) (qv 6) po_none (qo_some (qv 9))) (pe_slice (slE K rfl) (qv 6) (qo_some (pe_op op_addK (qv 9) pe_int)) po_none)) (pa_cons (qv 7) pa_nil))) (qv 8)) (pss_one (ps_ret pe_bl)) pss_nil)))
      (pss_cons (ps_expr (qe_append (qv 6) (qs [110, 111, 110, 101])))
      (pss_one (ps_ret (qe_cmp (eqDE K rfl hr) (qv 5) (qv 2))))))))))))))))))), ?_⟩
  rename_i a
  obtain ⟨ns, hS, hlen, ⟨c, TT, ht, hT⟩, q⟩ := h
  walk_at "rd"
  refine cell_here hS (by decide) ⟨by omega, by omega, fun da H1 hda s1 e1 => ?_⟩
  have hS1 := s1.seq hS
  have hT1 := s1 _ _ hT
  obtain ⟨dl, hdl, e1⟩ : ∃ dl : List (List Nat), dl.length = 2 ∧ H1 da = some (.lst (dl.map tx)) := ⟨_, by simp [nameL], e1⟩
  walk_at "rd"
  refine ⟨fun σ' H' => ∃ (da : Addr) (dl : List (List Nat)), σ' = [some (.ref a), some (.ref da), none, none, none, none, none, none, none, none] ∧ Same H1 H' ∧ 1 ≤ dl.length ∧ H' da = some (.lst (dl.map tx)), ?_, ?_⟩
  · refine cell_here hS1 (by decide) ?_
    walk_at "rd"
    refine ite2 (fun _ => ⟨_, SqL.of e1, fun d2 hd2 => ?_⟩) fun _ => ⟨da, dl, rfl, Same.refl _, by omega, e1⟩
    have e : cutV (dl.map tx) none (some 1) = (dl.take 1).map tx := by
      have := cut_to (dl.map tx) 1 (by rw [List.length_map]; omega)
      rw [List.map_take]
      exact this
    rw [e]
    exact ⟨d2, dl.take 1, rfl, same_new hd2 _, by rw [List.length_take]; omega, upd_same⟩
  rintro σ' H2 ⟨da, dl, rfl, s2, hdl, e2⟩
  have hS2 := s2.seq hS1
  have hT2 := s2 _ _ hT1
  walk_at "rd"
  obtain ⟨cs, hcs, hcl, _⟩ := cut_map V.int ns (some 2) (some 12)
  refine ⟨_, hS2, fun qa hqa => ?_⟩
  rw [hcs]
  refine ⟨cs, 4, dl, SqL.of upd_same, rfl, by omega, by omega, (same_new hqa _).seq (SqL.of e2), by omega, fun wa H3 ws hwa s3 w3 l3 b3 nd => ?_⟩
  have s23 : Same H2 H3 := (same_new hqa _).trans s3
  have hS3 := s23.seq hS2
  have hT3 := s23 _ _ hT2
  walk_at "rd"
  refine ⟨fun σ' H' => ∃ (wa : Addr) (ws : List Way), σ' = [some (.ref a), some (.ref da), some (.ref wa), none, none, none, none, none, none, none] ∧ Same H3 H' ∧ Ways H' wa ws ∧ ws.length ≤ 60 ∧ WaysIn 5 ws, ?_, ?_⟩
  · have in3 : WaysIn 5 ws := ⟨fun x hx => ⟨by have := (b3 x hx).1; omega, (b3 x hx).2⟩, nd⟩
    have l10 : ws.length ≤ 50 := by
      have : (cutV (ns.map V.int) (some 2) (some 12)).length ≤ 12 - 2 := cut_len_le V.int ns 2 12
      rw [hcs, List.length_map] at this
      omega
    refine cell_here hS3 (by decide) ?_
    walk_at "rd"
    refine ite2 (fun _ => cell_here hS3 (by decide) ?_) fun _ => ⟨wa, ws, rfl, Same.refl _, w3, by omega, in3⟩
    walk_at "rd"
    exact ⟨ws, w3, l10, in3, fun q H' ws' s' w' l' i' => ⟨q, ws', rfl, s', w', by omega, i'⟩⟩
  clear hcs hcl nd b3 l3 w3 s3 hwa
  rintro σ' H2 ⟨wa, ws, rfl, s24, w2, l2, b2, nd⟩
  have hS2 := s24.seq hS3
  have hT2 := s24 _ _ hT3
  obtain ⟨vs, e2, pr⟩ := id w2
  have hlv := pr.length
  have hSw : SqL K H2 wa ((ws.zip vs).map Prod.snd) := by rw [List.map_snd_zip (by omega)]; exact SqL.of e2
  walk_at "rd"
  refine ⟨by decide, fun pa hpa => .inl ⟨⟨_, (same_new hpa _).seq hSw⟩, fun D hD => ?_⟩⟩
  have s3 := same_new hpa (.lst [V.int 1])
  refine comp_list (item := Prod.snd) (xs := ws.zip vs) (h := fun x => [V.int x.1.1.length]) hD (s3.seq hSw) (by rw [List.length_zip]; omega) (fun _ => by simp) ?_ ?_
  · rintro ⟨x, v⟩ H3 out non hm s3' ho hno
    obtain ⟨t, rfl, et⟩ := paired_mem pr _ hm
    have := (b2 x (List.of_mem_zip hm).1).1
    refine ⟨t, [tx x.1, tx x.2], rfl, SqT.of (s3' _ _ (s3 _ _ et)), rfl, tx x.1, [tx x.2], rfl, tx x.2, [], rfl, rfl, ?_⟩
    walk_at "rd"
    exact ⟨by omega, ho _ _ rfl (Same.refl _)⟩
  intro H3 s3' e3
  rw [flat_lens _ _ hlv] at e3
  have s23 := s3.trans s3'
  have epa := s3' _ _ (upd_same (H := H2) (a := pa) (o := .lst [V.int 1]))
  walk_at "rd"
  refine ⟨_, _, epa, e3, by rw [List.length_map, List.length_map, sizeLine_eq]; simp; omega, fun ra hra => ?_⟩
  walk_at "rd"
  refine ⟨1 :: ws.map fun x => (x.1.length : Int), SqL.of upd_same, by simp, fun M hM hle => ?_⟩
  obtain ⟨k, rfl, hk1, hk5, hkw⟩ : ∃ k : Nat, M = (k : Int) ∧ 1 ≤ k ∧ k ≤ 5 ∧ ∀ x ∈ ws, x.1.length ≤ k := by
    have h1 := hle 1 List.mem_cons_self
    refine ⟨M.toNat, by omega, by omega, ?_, fun x hx => ?_⟩
    · rcases List.mem_cons.mp hM with z | z
      · omega
      · obtain ⟨x, hx, rfl⟩ := List.mem_map.mp z
        have := (b2 x hx).1
        omega
    · have := hle _ (List.mem_cons_of_mem _ (List.mem_map.mpr ⟨x, hx, rfl⟩))
      omega
  have s24 := s23.trans (same_new hra (.lst (V.int 1 :: (ws.map fun x => (x.1.length : Int)).map V.int)))
  generalize upd H3 ra (.lst (V.int 1 :: (ws.map fun x => (x.1.length : Int)).map V.int)) = H4 at s24 ⊢
  clear hle hM e3 epa s23 s3' s3 hD hra hpa
  have hS4 := s24.seq hS2
  have hT4 := s24 _ _ hT2
  have w4 := w2.same s24
  refine ⟨fun σ' H' => ∃ n : Nat, σ' = [some (.ref a), some (.ref da), some (.ref wa), some (.int k), some (.int n), none, none, none, none, none] ∧ k ≤ n ∧ n ≤ 100 ∧ H' = H4, ?_, ?_⟩
  · refine cell_here hS4 (by decide) ?_
    walk_at "rd"
    refine ite2 (fun _ => cell_here hS4 (by decide) ?_) fun _ => ⟨k, rfl, Nat.le_refl _, by omega⟩
    walk_at "rd"
    have a0 : 0 ≤ cell ns (Int.toNat 1) / 88 % 43 := Int.emod_nonneg _ (by decide)
    have a1 : cell ns (Int.toNat 1) / 88 % 43 < 43 := Int.emod_lt_of_pos _ (by decide)
    exact ⟨k + (cell ns (Int.toNat 1) / 88 % 43).toNat, by rw [show ((k + (cell ns (Int.toNat 1) / 88 % 43).toNat : Nat) : Int) = (k : Int) + cell ns (Int.toNat 1) / 88 % 43 by omega], by omega, by omega⟩
  rintro σ' H' ⟨n, rfl, hkn, hn, rfl⟩
  obtain ⟨vs, e4, pr⟩ := id w4
  walk_at "rd"
  refine ⟨vs, .inl (SqL.of e4), fun ha hha => ?_⟩
  have s5 := same_new hha (.lst vs)
  have wh : Ways (upd H' ha (.lst vs)) ha ws := ⟨vs, upd_same, ways_keep (fun t us q => s5 _ _ q) pr⟩
  have ww := w4.same s5
  have hT5 := s5 _ _ hT4
  generalize upd H' ha (.lst vs) = H5 at s5 wh ww hT5 ⊢
  refine ⟨ws, n, wh, by omega, rfl, by omega, fun x hx => ⟨by have := hkw x hx; omega, by have := hkw x hx; omega, (b2 x hx).2⟩, c, TT, ht, hT5, fun fa H6 O B hfa s6 hp hd th W6 => ?_⟩
  obtain ⟨same, sharp⟩ := thin_end hkn nd hkw hp hd th
  have sub : List.Sublist (ws.filter fun w => decide (w ∈ B)) ws := List.filter_sublist
  generalize ws.filter (fun w => decide (w ∈ B)) = L at same sharp sub W6
  clear th hd hp
  have wh6 := wh.sameT hT5 s6
  have ww6 := ww.sameT hT5 s6
  have hLl := sub.length_le
  obtain ⟨fv, ef, pf⟩ := id W6
  have lf := pf.length
  have eqd : eqD (.l (ws.map wayD)) (.l (ws.map wayD)) = true := by rw [eqD]; exact eqDs_refl_way ws
  walk_at "rd"
  refine .inl ⟨⟨_, ef⟩, 2, _, _, by decide, ways_deep wh6, ways_deep ww6, ?_⟩
  rw [eqd]
  walk_at "rd"
  refine ⟨ws, L, ww6, W6, sub, by omega, fun H7 s7 => ?_⟩
  walk_at "rd"
  refine ⟨k, rfl, by omega, fun ca H8 hca s8 e8 => ?_⟩
  have s68 := s7.trans s8
  have chl : (choicesL k).length ≤ 32 := by rw [choicesL_len]; exact Nat.pow_le_pow_right (n := 2) (j := 5) (by decide) hk5
  have chw : ∀ c ∈ choicesL k, c.length ≤ 1000 := fun c hc => by have := choicesL_width _ c hc; omega
  walk_at "rd"
  refine ⟨ws, choicesL k, ww6.same s68, SqL.of e8, by omega, chw, fun du H9 hdu s9 e9 => ?_⟩
  walk_at "rd"
  refine ⟨L, choicesL k, W6.same (s68.trans s9), SqL.of (s9 _ _ e8), by omega, chw, fun db H10 hdb s10 e10 => ?_⟩
  walk_at "rd"
  refine ⟨1, _, _, by decide, doors_deep e10, doors_deep (s10 _ _ e9), ?_⟩
  have eqs : doorAll L (choicesL k) = doorAll ws (choicesL k) := List.map_congr_left fun c hc => same c (choicesL_width _ c hc) (choices_let _ c hc)
  rw [eqD, eqDs_doors, decide_eq_true eqs]
  walk_at "rd"
  have s610 := s68.trans (s9.trans s10)
  obtain ⟨lv, el, prl⟩ := id (W6.same s610)
  have ll := prl.length
  refine ⟨lv, .inl (SqL.of el), by omega, by omega, ?_⟩
  rw [Int.toNat_natCast]
  refine loop_range (fun i σ H' => ∃ u, σ = [some (.ref a), some (.ref da), some (.ref wa), some (.int k), some (.int n), some (.ref ha), some (.ref fa), some (.ref ca), some (.ref du), u] ∧ Same H10 H') ⟨none, rfl, Same.refl _⟩ ?_ ?_
  · rintro i σ H11 hi ⟨u, rfl, s11⟩
    have hil : i < L.length := by omega
    walk_at "rd"
    refine ⟨lv, SqL.of (s11 _ _ el), fun a1 h1 => ?_⟩
    rw [cut_to lv i (by omega)]
    refine ⟨lv, SqL.of (same_new h1 _ _ _ (s11 _ _ el)), fun a2 h2 => ?_⟩
    rw [show (i : Int) + 1 = ((i + 1 : Nat) : Int) from rfl, cut_from lv (i + 1) (by omega)]
    refine ⟨lv.take i, lv.drop (i + 1), same_new h2 _ _ _ upd_same, upd_same, by rw [List.length_take, List.length_drop, sizeLine_eq]; omega, fun oa hoa => ?_⟩
    have s12' : Same H11 (upd (upd (upd H11 a1 (.lst (lv.take i))) a2 (.lst (lv.drop (i + 1)))) oa (.lst (lv.take i ++ lv.drop (i + 1)))) := ((same_new h1 _).trans (same_new h2 _)).trans (same_new hoa _)
    have RO : Ways (upd (upd (upd H11 a1 (.lst (lv.take i))) a2 (.lst (lv.drop (i + 1)))) oa (.lst (lv.take i ++ lv.drop (i + 1)))) oa (L.eraseIdx i) := ⟨_, upd_same, by
      rw [List.eraseIdx_eq_take_drop_succ]
      exact ways_keep (fun t us q => s12' _ _ (s11 _ _ q)) (paired_app (paired_take prl i) (paired_drop prl (i + 1)))⟩
    generalize upd (upd (upd H11 a1 (.lst (lv.take i))) a2 (.lst (lv.drop (i + 1)))) oa (.lst (lv.take i ++ lv.drop (i + 1))) = H12 at s12' RO ⊢
    have s1012 := s11.trans s12'
    refine ⟨L.eraseIdx i, choicesL k, RO, SqL.of (s1012 _ _ (s10 _ _ (s9 _ _ e8))), by omega, chw, fun dc H13 hdc s13 e13 => ?_⟩
    walk_at "rd"
    refine ⟨1, _, _, by decide, doors_deep e13, doors_deep (s13 _ _ (s1012 _ _ (s10 _ _ e9))), ?_⟩
    have ne : doorAll (L.eraseIdx i) (choicesL k) ≠ doorAll ws (choicesL k) := fun z => by
      obtain ⟨c, c1, c2, c3⟩ := sharp i hil
      exact c3 (List.map_inj_left.mp z c (choices_mem _ _ c1 c2))
    rw [eqD, eqDs_doors, decide_eq_false ne]
    walk_at "rd"
    exact ⟨_, rfl, s1012.trans s13⟩
  · rintro σ H11 ⟨u, rfl, s11⟩
    walk_at "rd"
    have s611 := s610.trans s11
    have ef11 := s611 _ _ ef
    refine ⟨⟨_, ef11⟩, fv, ef11, sizeBig (by omega), ?_⟩
    have sE : SameT TT H5 (upd H11 fa (.lst (fv ++ [V.str (st [110, 111, 110, 101])]))) := (s6.trans s611).upd hfa
    refine ⟨2, _, _, by decide, ways_deep (wh.sameT hT5 sE), ways_deep (ww.sameT hT5 sE), ?_⟩
    rw [eqd]
    exact q _
end
theorem all_mk {K : PySem.W.Frag} {h : Heap} {mg : Str → Option Value} (X : K.In h) (G : h.Ns mainGlobals mg)
    {f0 : Addr} {od0 an0 : Option Addr} {sl0 : Array (Option Value)} {oc0 kV0 dc0 pm0 cd0 ct0 : Value}
    {f1 : Addr} {od1 an1 : Option Addr} {sl1 : Array (Option Value)} {oc1 kV1 dc1 pm1 cd1 ct1 : Value}
    {f2 : Addr} {od2 an2 : Option Addr} {sl2 : Array (Option Value)} {oc2 kV2 dc2 pm2 cd2 ct2 : Value}
    {f3 : Addr} {od3 an3 : Option Addr} {sl3 : Array (Option Value)} {oc3 kV3 dc3 pm3 cd3 ct3 : Value}
    {f4 : Addr} {od4 an4 : Option Addr} {sl4 : Array (Option Value)} {oc4 kV4 dc4 pm4 cd4 ct4 : Value}
    {f5 : Addr} {od5 an5 : Option Addr} {sl5 : Array (Option Value)} {oc5 kV5 dc5 pm5 cd5 ct5 : Value}
    {f6 : Addr} {od6 an6 : Option Addr} {sl6 : Array (Option Value)} {oc6 kV6 dc6 pm6 cd6 ct6 : Value}
    {f7 : Addr} {od7 an7 : Option Addr} {sl7 : Array (Option Value)} {oc7 kV7 dc7 pm7 cd7 ct7 : Value}
    {f8 : Addr} {od8 an8 : Option Addr} {sl8 : Array (Option Value)} {oc8 kV8 dc8 pm8 cd8 ct8 : Value}
    {f9 : Addr} {od9 an9 : Option Addr} {sl9 : Array (Option Value)} {oc9 kV9 dc9 pm9 cd9 ct9 : Value}
    {f10 : Addr} {od10 an10 : Option Addr} {sl10 : Array (Option Value)} {oc10 kV10 dc10 pm10 cd10 ct10 : Value}
    {f11 : Addr} {od11 an11 : Option Addr} {sl11 : Array (Option Value)} {oc11 kV11 dc11 pm11 cd11 ct11 : Value}
    {f12 : Addr} {od12 an12 : Option Addr} {sl12 : Array (Option Value)} {oc12 kV12 dc12 pm12 cd12 ct12 : Value}
    {f13 : Addr} {od13 an13 : Option Addr} {sl13 : Array (Option Value)} {oc13 kV13 dc13 pm13 cd13 ct13 : Value}
    {f14 : Addr} {od14 an14 : Option Addr} {sl14 : Array (Option Value)} {oc14 kV14 dc14 pm14 cd14 ct14 : Value}
    {f15 : Addr} {od15 an15 : Option Addr} {sl15 : Array (Option Value)} {oc15 kV15 dc15 pm15 cd15 ct15 : Value}
    {f16 : Addr} {od16 an16 : Option Addr} {sl16 : Array (Option Value)} {oc16 kV16 dc16 pm16 cd16 ct16 : Value}
    {f17 : Addr} {od17 an17 : Option Addr} {sl17 : Array (Option Value)} {oc17 kV17 dc17 pm17 cd17 ct17 : Value}
    {f18 : Addr} {od18 an18 : Option Addr} {sl18 : Array (Option Value)} {oc18 kV18 dc18 pm18 cd18 ct18 : Value}
    {f19 : Addr} {od19 an19 : Option Addr} {sl19 : Array (Option Value)} {oc19 kV19 dc19 pm19 cd19 ct19 : Value}
    {f20 : Addr} {od20 an20 : Option Addr} {sl20 : Array (Option Value)} {oc20 kV20 dc20 pm20 cd20 ct20 : Value}
    {f21 : Addr} {od21 an21 : Option Addr} {sl21 : Array (Option Value)} {oc21 kV21 dc21 pm21 cd21 ct21 : Value}
    {f22 : Addr} {od22 an22 : Option Addr} {sl22 : Array (Option Value)} {oc22 kV22 dc22 pm22 cd22 ct22 : Value}
    {f23 : Addr} {od23 an23 : Option Addr} {sl23 : Array (Option Value)} {oc23 kV23 dc23 pm23 cd23 ct23 : Value}
    {f24 : Addr} {od24 an24 : Option Addr} {sl24 : Array (Option Value)} {oc24 kV24 dc24 pm24 cd24 ct24 : Value}
    {f25 : Addr} {od25 an25 : Option Addr} {sl25 : Array (Option Value)} {oc25 kV25 dc25 pm25 cd25 ct25 : Value}
    (a0 : PySem.W.nsIn K mainGlobals "row_meet" = some (some (.ref f0))) (l0 : K.lookup f0 = some ⟨oc0, od0, .func (PySem.W.fnOf "row_meet" "row_meet" (defArgs s_row_meet) (defBody s_row_meet) (defScope s_row_meet) .none kV0 dc0 pm0 an0 cd0 ct0), sl0⟩) (c0 : PySem.W.codeIn K cd0 "row_meet" = true) (k0 : PySem.W.keepIn K (.ref f0) = true)
    (a1 : PySem.W.nsIn K mainGlobals "row_with" = some (some (.ref f1))) (l1 : K.lookup f1 = some ⟨oc1, od1, .func (PySem.W.fnOf "row_with" "row_with" (defArgs s_row_with) (defBody s_row_with) (defScope s_row_with) .none kV1 dc1 pm1 an1 cd1 ct1), sl1⟩) (c1 : PySem.W.codeIn K cd1 "row_with" = true) (k1 : PySem.W.keepIn K (.ref f1) = true)
    (a2 : PySem.W.nsIn K mainGlobals "row_narrowed" = some (some (.ref f2))) (l2 : K.lookup f2 = some ⟨oc2, od2, .func (PySem.W.fnOf "row_narrowed" "row_narrowed" (defArgs s_row_narrowed) (defBody s_row_narrowed) (defScope s_row_narrowed) .none kV2 dc2 pm2 an2 cd2 ct2), sl2⟩) (c2 : PySem.W.codeIn K cd2 "row_narrowed" = true) (k2 : PySem.W.keepIn K (.ref f2) = true)
    (a3 : PySem.W.nsIn K mainGlobals "heap_width" = some (some (.ref f3))) (l3 : K.lookup f3 = some ⟨oc3, od3, .func (PySem.W.fnOf "heap_width" "heap_width" (defArgs s_heap_width) (defBody s_heap_width) (defScope s_heap_width) .none kV3 dc3 pm3 an3 cd3 ct3), sl3⟩) (c3 : PySem.W.codeIn K cd3 "heap_width" = true) (k3 : PySem.W.keepIn K (.ref f3) = true)
    (a4 : PySem.W.nsIn K mainGlobals "heap_places" = some (some (.ref f4))) (l4 : K.lookup f4 = some ⟨oc4, od4, .func (PySem.W.fnOf "heap_places" "heap_places" (defArgs s_heap_places) (defBody s_heap_places) (defScope s_heap_places) .none kV4 dc4 pm4 an4 cd4 ct4), sl4⟩) (c4 : PySem.W.codeIn K cd4 "heap_places" = true) (k4 : PySem.W.keepIn K (.ref f4) = true)
    (a5 : PySem.W.nsIn K mainGlobals "fork_of" = some (some (.ref f5))) (l5 : K.lookup f5 = some ⟨oc5, od5, .func (PySem.W.fnOf "fork_of" "fork_of" (defArgs s_fork_of) (defBody s_fork_of) (defScope s_fork_of) .none kV5 dc5 pm5 an5 cd5 ct5), sl5⟩) (c5 : PySem.W.codeIn K cd5 "fork_of" = true) (k5 : PySem.W.keepIn K (.ref f5) = true)
    (a6 : PySem.W.nsIn K mainGlobals "firsts_of" = some (some (.ref f6))) (l6 : K.lookup f6 = some ⟨oc6, od6, .func (PySem.W.fnOf "firsts_of" "firsts_of" (defArgs s_firsts_of) (defBody s_firsts_of) (defScope s_firsts_of) .none kV6 dc6 pm6 an6 cd6 ct6), sl6⟩) (c6 : PySem.W.codeIn K cd6 "firsts_of" = true) (k6 : PySem.W.keepIn K (.ref f6) = true)
    (a7 : PySem.W.nsIn K mainGlobals "fork_below" = some (some (.ref f7))) (l7 : K.lookup f7 = some ⟨oc7, od7, .func (PySem.W.fnOf "fork_below" "fork_below" (defArgs s_fork_below) (defBody s_fork_below) (defScope s_fork_below) .none kV7 dc7 pm7 an7 cd7 ct7), sl7⟩) (c7 : PySem.W.codeIn K cd7 "fork_below" = true) (k7 : PySem.W.keepIn K (.ref f7) = true)
    (a8 : PySem.W.nsIn K mainGlobals "firsts_side" = some (some (.ref f8))) (l8 : K.lookup f8 = some ⟨oc8, od8, .func (PySem.W.fnOf "firsts_side" "firsts_side" (defArgs s_firsts_side) (defBody s_firsts_side) (defScope s_firsts_side) .none kV8 dc8 pm8 an8 cd8 ct8), sl8⟩) (c8 : PySem.W.codeIn K cd8 "firsts_side" = true) (k8 : PySem.W.keepIn K (.ref f8) = true)
    (a9 : PySem.W.nsIn K mainGlobals "fork_parts" = some (some (.ref f9))) (l9 : K.lookup f9 = some ⟨oc9, od9, .func (PySem.W.fnOf "fork_parts" "fork_parts" (defArgs s_fork_parts) (defBody s_fork_parts) (defScope s_fork_parts) .none kV9 dc9 pm9 an9 cd9 ct9), sl9⟩) (c9 : PySem.W.codeIn K cd9 "fork_parts" = true) (k9 : PySem.W.keepIn K (.ref f9) = true)
    (a10 : PySem.W.nsIn K mainGlobals "heap_shares" = some (some (.ref f10))) (l10 : K.lookup f10 = some ⟨oc10, od10, .func (PySem.W.fnOf "heap_shares" "heap_shares" (defArgs s_heap_shares) (defBody s_heap_shares) (defScope s_heap_shares) .none kV10 dc10 pm10 an10 cd10 ct10), sl10⟩) (c10 : PySem.W.codeIn K cd10 "heap_shares" = true) (k10 : PySem.W.keepIn K (.ref f10) = true)
    (a11 : PySem.W.nsIn K mainGlobals "longest_first" = some (some (.ref f11))) (l11 : K.lookup f11 = some ⟨oc11, od11, .func (PySem.W.fnOf "longest_first" "longest_first" (defArgs s_longest_first) (defBody s_longest_first) (defScope s_longest_first) .none kV11 dc11 pm11 an11 cd11 ct11), sl11⟩) (c11 : PySem.W.codeIn K cd11 "longest_first" = true) (k11 : PySem.W.keepIn K (.ref f11) = true)
    (a12 : PySem.W.nsIn K mainGlobals "way_row" = some (some (.ref f12))) (l12 : K.lookup f12 = some ⟨oc12, od12, .func (PySem.W.fnOf "way_row" "way_row" (defArgs s_way_row) (defBody s_way_row) (defScope s_way_row) .none kV12 dc12 pm12 an12 cd12 ct12), sl12⟩) (c12 : PySem.W.codeIn K cd12 "way_row" = true) (k12 : PySem.W.keepIn K (.ref f12) = true)
    (a13 : PySem.W.nsIn K mainGlobals "door_at" = some (some (.ref f13))) (l13 : K.lookup f13 = some ⟨oc13, od13, .func (PySem.W.fnOf "door_at" "door_at" (defArgs s_door_at) (defBody s_door_at) (defScope s_door_at) .none kV13 dc13 pm13 an13 cd13 ct13), sl13⟩) (c13 : PySem.W.codeIn K cd13 "door_at" = true) (k13 : PySem.W.keepIn K (.ref f13) = true)
    (a14 : PySem.W.nsIn K mainGlobals "ways_thinned" = some (some (.ref f14))) (l14 : K.lookup f14 = some ⟨oc14, od14, .func (PySem.W.fnOf "ways_thinned" "ways_thinned" (defArgs s_ways_thinned) (defBody s_ways_thinned) (defScope s_ways_thinned) .none kV14 dc14 pm14 an14 cd14 ct14), sl14⟩) (c14 : PySem.W.codeIn K cd14 "ways_thinned" = true) (k14 : PySem.W.keepIn K (.ref f14) = true)
    (a15 : PySem.W.nsIn K mainGlobals "is_way_needed" = some (some (.ref f15))) (l15 : K.lookup f15 = some ⟨oc15, od15, .func (PySem.W.fnOf "is_way_needed" "is_way_needed" (defArgs s_is_way_needed) (defBody s_is_way_needed) (defScope s_is_way_needed) .none kV15 dc15 pm15 an15 cd15 ct15), sl15⟩) (c15 : PySem.W.codeIn K cd15 "is_way_needed" = true) (k15 : PySem.W.keepIn K (.ref f15) = true)
    (a16 : PySem.W.nsIn K mainGlobals "_law_cell_at" = some (some (.ref f16))) (l16 : K.lookup f16 = some ⟨oc16, od16, .func (PySem.W.fnOf "_law_cell_at" "_law_cell_at" (defArgs s__law_cell_at) (defBody s__law_cell_at) (defScope s__law_cell_at) .none kV16 dc16 pm16 an16 cd16 ct16), sl16⟩) (c16 : PySem.W.codeIn K cd16 "_law_cell_at" = true) (k16 : PySem.W.keepIn K (.ref f16) = true)
    (a17 : PySem.W.nsIn K mainGlobals "_law_stream" = some (some (.ref f17))) (l17 : K.lookup f17 = some ⟨oc17, od17, .func (PySem.W.fnOf "_law_stream" "_law_stream" (defArgs s__law_stream) (defBody s__law_stream) (defScope s__law_stream) .none kV17 dc17 pm17 an17 cd17 ct17), sl17⟩) (c17 : PySem.W.codeIn K cd17 "_law_stream" = true) (k17 : PySem.W.keepIn K (.ref f17) = true)
    (a18 : PySem.W.nsIn K mainGlobals "_law_names" = some (some (.ref f18))) (l18 : K.lookup f18 = some ⟨oc18, od18, .func (PySem.W.fnOf "_law_names" "_law_names" (defArgs s__law_names) (defBody s__law_names) (defScope s__law_names) .none kV18 dc18 pm18 an18 cd18 ct18), sl18⟩) (c18 : PySem.W.codeIn K cd18 "_law_names" = true) (k18 : PySem.W.keepIn K (.ref f18) = true)
    (a19 : PySem.W.nsIn K mainGlobals "_law_choices" = some (some (.ref f19))) (l19 : K.lookup f19 = some ⟨oc19, od19, .func (PySem.W.fnOf "_law_choices" "_law_choices" (defArgs s__law_choices) (defBody s__law_choices) (defScope s__law_choices) .none kV19 dc19 pm19 an19 cd19 ct19), sl19⟩) (c19 : PySem.W.codeIn K cd19 "_law_choices" = true) (k19 : PySem.W.keepIn K (.ref f19) = true)
    (a20 : PySem.W.nsIn K mainGlobals "_law_ways" = some (some (.ref f20))) (l20 : K.lookup f20 = some ⟨oc20, od20, .func (PySem.W.fnOf "_law_ways" "_law_ways" (defArgs s__law_ways) (defBody s__law_ways) (defScope s__law_ways) .none kV20 dc20 pm20 an20 cd20 ct20), sl20⟩) (c20 : PySem.W.codeIn K cd20 "_law_ways" = true) (k20 : PySem.W.keepIn K (.ref f20) = true)
    (a21 : PySem.W.nsIn K mainGlobals "_law_door" = some (some (.ref f21))) (l21 : K.lookup f21 = some ⟨oc21, od21, .func (PySem.W.fnOf "_law_door" "_law_door" (defArgs s__law_door) (defBody s__law_door) (defScope s__law_door) .none kV21 dc21 pm21 an21 cd21 ct21), sl21⟩) (c21 : PySem.W.codeIn K cd21 "_law_door" = true) (k21 : PySem.W.keepIn K (.ref f21) = true)
    (a22 : PySem.W.nsIn K mainGlobals "_law_doors" = some (some (.ref f22))) (l22 : K.lookup f22 = some ⟨oc22, od22, .func (PySem.W.fnOf "_law_doors" "_law_doors" (defArgs s__law_doors) (defBody s__law_doors) (defScope s__law_doors) .none kV22 dc22 pm22 an22 cd22 ct22), sl22⟩) (c22 : PySem.W.codeIn K cd22 "_law_doors" = true) (k22 : PySem.W.keepIn K (.ref f22) = true)
    (a23 : PySem.W.nsIn K mainGlobals "_law_left" = some (some (.ref f23))) (l23 : K.lookup f23 = some ⟨oc23, od23, .func (PySem.W.fnOf "_law_left" "_law_left" (defArgs s__law_left) (defBody s__law_left) (defScope s__law_left) .none kV23 dc23 pm23 an23 cd23 ct23), sl23⟩) (c23 : PySem.W.codeIn K cd23 "_law_left" = true) (k23 : PySem.W.keepIn K (.ref f23) = true)
    (a24 : PySem.W.nsIn K mainGlobals "_law_with_both" = some (some (.ref f24))) (l24 : K.lookup f24 = some ⟨oc24, od24, .func (PySem.W.fnOf "_law_with_both" "_law_with_both" (defArgs s__law_with_both) (defBody s__law_with_both) (defScope s__law_with_both) .none kV24 dc24 pm24 an24 cd24 ct24), sl24⟩) (c24 : PySem.W.codeIn K cd24 "_law_with_both" = true) (k24 : PySem.W.keepIn K (.ref f24) = true)
    (a25 : PySem.W.nsIn K mainGlobals "law" = some (some (.ref f25))) (l25 : K.lookup f25 = some ⟨oc25, od25, .func (PySem.W.fnOf "law" "law" (defArgs s_law) (defBody s_law) (defScope s_law) .none kV25 dc25 pm25 an25 cd25 ct25), sl25⟩) (c25 : PySem.W.codeIn K cd25 "law" = true) (k25 : PySem.W.keepIn K (.ref f25) = true)
    (z_zip : PySem.W.nsIn K mainGlobals "zip" = some none)
    (z_len : PySem.W.nsIn K mainGlobals "len" = some none)
    (z_range : PySem.W.nsIn K mainGlobals "range" = some none)
    (z_any : PySem.W.nsIn K mainGlobals "any" = some none)
    (z_enumerate : PySem.W.nsIn K mainGlobals "enumerate" = some none)
    (z_isinstance : PySem.W.nsIn K mainGlobals "isinstance" = some none)
    (z_int : PySem.W.nsIn K mainGlobals "int" = some none)
    (z_sorted : PySem.W.nsIn K mainGlobals "sorted" = some none)
    (z_tuple : PySem.W.nsIn K mainGlobals "tuple" = some none)
    (z_list : PySem.W.nsIn K mainGlobals "list" = some none)
    (z_max : PySem.W.nsIn K mainGlobals "max" = some none)
    (lam_longest_first : ∃ c T, LamFn K mg "longest_first" c T)
    : Top K mg where
  f_row_meet := ⟨_, _, fun_mk (st := s_row_meet) l0 c0 k0, PySem.W.mg_of X G a0⟩
  f_row_with := ⟨_, _, fun_mk (st := s_row_with) l1 c1 k1, PySem.W.mg_of X G a1⟩
  f_row_narrowed := ⟨_, _, fun_mk (st := s_row_narrowed) l2 c2 k2, PySem.W.mg_of X G a2⟩
  f_heap_width := ⟨_, _, fun_mk (st := s_heap_width) l3 c3 k3, PySem.W.mg_of X G a3⟩
  f_heap_places := ⟨_, _, fun_mk (st := s_heap_places) l4 c4 k4, PySem.W.mg_of X G a4⟩
  f_fork_of := ⟨_, _, fun_mk (st := s_fork_of) l5 c5 k5, PySem.W.mg_of X G a5⟩
  f_firsts_of := ⟨_, _, fun_mk (st := s_firsts_of) l6 c6 k6, PySem.W.mg_of X G a6⟩
  f_fork_below := ⟨_, _, fun_mk (st := s_fork_below) l7 c7 k7, PySem.W.mg_of X G a7⟩
  f_firsts_side := ⟨_, _, fun_mk (st := s_firsts_side) l8 c8 k8, PySem.W.mg_of X G a8⟩
  f_fork_parts := ⟨_, _, fun_mk (st := s_fork_parts) l9 c9 k9, PySem.W.mg_of X G a9⟩
  f_heap_shares := ⟨_, _, fun_mk (st := s_heap_shares) l10 c10 k10, PySem.W.mg_of X G a10⟩
  f_longest_first := ⟨_, _, fun_mk (st := s_longest_first) l11 c11 k11, PySem.W.mg_of X G a11⟩
  f_way_row := ⟨_, _, fun_mk (st := s_way_row) l12 c12 k12, PySem.W.mg_of X G a12⟩
  f_door_at := ⟨_, _, fun_mk (st := s_door_at) l13 c13 k13, PySem.W.mg_of X G a13⟩
  f_ways_thinned := ⟨_, _, fun_mk (st := s_ways_thinned) l14 c14 k14, PySem.W.mg_of X G a14⟩
  f_is_way_needed := ⟨_, _, fun_mk (st := s_is_way_needed) l15 c15 k15, PySem.W.mg_of X G a15⟩
  f__law_cell_at := ⟨_, _, fun_mk (st := s__law_cell_at) l16 c16 k16, PySem.W.mg_of X G a16⟩
  f__law_stream := ⟨_, _, fun_mk (st := s__law_stream) l17 c17 k17, PySem.W.mg_of X G a17⟩
  f__law_names := ⟨_, _, fun_mk (st := s__law_names) l18 c18 k18, PySem.W.mg_of X G a18⟩
  f__law_choices := ⟨_, _, fun_mk (st := s__law_choices) l19 c19 k19, PySem.W.mg_of X G a19⟩
  f__law_ways := ⟨_, _, fun_mk (st := s__law_ways) l20 c20 k20, PySem.W.mg_of X G a20⟩
  f__law_door := ⟨_, _, fun_mk (st := s__law_door) l21 c21 k21, PySem.W.mg_of X G a21⟩
  f__law_doors := ⟨_, _, fun_mk (st := s__law_doors) l22 c22 k22, PySem.W.mg_of X G a22⟩
  f__law_left := ⟨_, _, fun_mk (st := s__law_left) l23 c23 k23, PySem.W.mg_of X G a23⟩
  f__law_with_both := ⟨_, _, fun_mk (st := s__law_with_both) l24 c24 k24, PySem.W.mg_of X G a24⟩
  f_law := ⟨_, _, fun_mk (st := s_law) l25 c25 k25, PySem.W.mg_of X G a25⟩
  b_zip := PySem.W.mg_none_of X G z_zip
  b_len := PySem.W.mg_none_of X G z_len
  b_range := PySem.W.mg_none_of X G z_range
  b_any := PySem.W.mg_none_of X G z_any
  b_enumerate := PySem.W.mg_none_of X G z_enumerate
  b_isinstance := PySem.W.mg_none_of X G z_isinstance
  b_int := PySem.W.mg_none_of X G z_int
  b_sorted := PySem.W.mg_none_of X G z_sorted
  b_tuple := PySem.W.mg_none_of X G z_tuple
  b_list := PySem.W.mg_none_of X G z_list
  b_max := PySem.W.mg_none_of X G z_max
  lam_longest_first := lam_longest_first
theorem law_bind {P : Program} {w : World} {K : PySem.W.Frag} {mg : Str → Option Value} (T : Top K mg) : ∃ f fd, (∀ base : Heap, FnOk P w K mg base CX0 24 f fd ["_law_script"] (sp_law K)) ∧ (∀ (s : Shared) (u : Value), BindsTo s fd ⟨[u], []⟩ [("_law_script", u)]) ∧ mg "law" = some (.ref f) := by
  obtain ⟨f, fd, F, m⟩ := T.f_law
  refine ⟨f, fd, fun base => ok_law T F, ?_, m⟩
  obtain ⟨oc, od, kV, doc, pm, an, cdv, ct, osl, rfl, lk, hcd⟩ := F.ex
  exact fun s u => .of_eq rfl
theorem walk {l : PySem.W.OpenLaw} {q : Program} {loose : List Str} {XP : (Str → Option Value) → Heap → Prop} {d : DefRec} {K : Params → PySem.W.Frag} {as : List Addr} {nn tt : Nat} {c T : Addr} (hn : l.most = some 63) (hdf : d.params.defaults = []) (has : ∀ P, as = (K P).map (·.1)) (htt : 0 < tt)
    (hT : ∀ (w : World), L2.LamOk (K w.params) "longest_first" c T)
    (F : ∀ (w : World) (mg : Str → Option Value) (fa : Addr) (h : Heap), L2.LamOk (K w.params) "longest_first" c T → (L2.cut (K w.params)).In h → h.Ns mainGlobals mg → mg d.name = some (.ref fa) →
      ∃ fd : FuncData, (∀ (s : Shared) (u : Value), BindsTo s fd ⟨[u], []⟩ [("_law_script", u)]) ∧ ∀ base : Heap, (L2.cut (K w.params)).In base → base.Ns mainGlobals mg → FnOk l.prog w (L2.cut (K w.params)) mg base CX0 24 fa fd ["_law_script"] (sp_law (L2.cut (K w.params)))) :
    PySem.W.WalkX q loose XP (PySem.W.X.obsZ as) (PySem.W.X.valZ K nn tt) l.row.toRowW d [] (fun f vs => PySem.call f vs) :=
  L2.walk_ofXT (n := 63) (k := 24) (x := "_law_script") (c := c) (T := T) (K := fun p => L2.cut (K p)) (CX := fun _ => CX0) (sp := fun w => sp_law (L2.cut (K w.params))) hn (by decide) hdf ⟨rfl, by decide, by decide, rfl⟩ (fun w s Y => (hT w).zz Y has htt) (fun w mg fa h => F w mg fa h (hT w)) (fun w _ a ns hl hH hS => ⟨ns, hS, hl, ⟨c, T, L2.cut_tab (hT w).tb, hH⟩, fun _ => rfl⟩) fun _ _ _ _ _ z => z
end Law
open PySem PySem.W PyProof.Rows
set_option maxRecDepth 100000 in
set_option maxHeartbeats 0 in
theorem PySem.Challenge.cw_throng_k23_ways_thinned_holds : PySem.Challenge.rw_throng_k23_ways_thinned.Holds := by
  w_on; o_law; z_head; (case hw => w_witness2)
  k_fill
  refine' Law.walk (l := PySem.Challenge.rw_throng_k23_ways_thinned) (c := ?c) (T := ?T) rfl rfl (fun _ => rfl) (by decide) ?hT ?F
  case hT =>
    intro w
    refine' L2.lamok_mk ?a ?l ?hcd ?e1 ?e2 ?e4 ?e5 ?e6 ?e7 ?ne ?b1 ?b2 ?b3 ?b4 ?eT
    (case a => k_is); (case l => k_is); (case hcd => rfl); (case e1 => k_is); (case e2 => rfl); (case e4 => rfl); (case e5 => rfl); (case e6 => rfl); (case e7 => rfl); (case ne => decide); (case b1 => k_is); (case b4 => k_is); (case b2 => decide); (case b3 => decide); (case eT => k_is)
  case F =>
    intro w mg fa h LO KX G hmg
    have T : Law.Top (L2.KOf KX) mg := by
      dsimp only [L2.KOf]
      refine' Law.all_mk KX G ?a0 ?l0 ?c0 ?k0 ?a1 ?l1 ?c1 ?k1 ?a2 ?l2 ?c2 ?k2 ?a3 ?l3 ?c3 ?k3 ?a4 ?l4 ?c4 ?k4 ?a5 ?l5 ?c5 ?k5 ?a6 ?l6 ?c6 ?k6 ?a7 ?l7 ?c7 ?k7 ?a8 ?l8 ?c8 ?k8 ?a9 ?l9 ?c9 ?k9 ?a10 ?l10 ?c10 ?k10 ?a11 ?l11 ?c11 ?k11 ?a12 ?l12 ?c12 ?k12 ?a13 ?l13 ?c13 ?k13 ?a14 ?l14 ?c14 ?k14 ?a15 ?l15 ?c15 ?k15 ?a16 ?l16 ?c16 ?k16 ?a17 ?l17 ?c17 ?k17 ?a18 ?l18 ?c18 ?k18 ?a19 ?l19 ?c19 ?k19 ?a20 ?l20 ?c20 ?k20 ?a21 ?l21 ?c21 ?k21 ?a22 ?l22 ?c22 ?k22 ?a23 ?l23 ?c23 ?k23 ?a24 ?l24 ?c24 ?k24 ?a25 ?l25 ?c25 ?k25 ?z_zip ?z_len ?z_range ?z_any ?z_enumerate ?z_isinstance ?z_int ?z_sorted ?z_tuple ?z_list ?z_max ⟨_, _, LO.fn KX G⟩
      (case a0 => refine L2.cut_ns ?_; k_is); (case l0 => refine' L2.cut_lookup ?x ?y; (case x => k_is); (case y => rfl)); (case c0 => refine L2.cut_code ?_; k_is); (case k0 => refine L2.cut_keepF ?_; k_is)
      (case a1 => refine L2.cut_ns ?_; k_is); (case l1 => refine' L2.cut_lookup ?x ?y; (case x => k_is); (case y => rfl)); (case c1 => refine L2.cut_code ?_; k_is); (case k1 => refine L2.cut_keepF ?_; k_is)
      (case a2 => refine L2.cut_ns ?_; k_is); (case l2 => refine' L2.cut_lookup ?x ?y; (case x => k_is); (case y => rfl)); (case c2 => refine L2.cut_code ?_; k_is); (case k2 => refine L2.cut_keepF ?_; k_is)
      (case a3 => refine L2.cut_ns ?_; k_is); (case l3 => refine' L2.cut_lookup ?x ?y; (case x => k_is); (case y => rfl)); (case c3 => refine L2.cut_code ?_; k_is); (case k3 => refine L2.cut_keepF ?_; k_is)
      (case a4 => refine L2.cut_ns ?_; k_is); (case l4 => refine' L2.cut_lookup ?x ?y; (case x => k_is); (case y => rfl)); (case c4 => refine L2.cut_code ?_; k_is); (case k4 => refine L2.cut_keepF ?_; k_is)
      (case a5 => refine L2.cut_ns ?_; k_is); (case l5 => refine' L2.cut_lookup ?x ?y; (case x => k_is); (case y => rfl)); (case c5 => refine L2.cut_code ?_; k_is); (case k5 => refine L2.cut_keepF ?_; k_is)
      (case a6 => refine L2.cut_ns ?_; k_is); (case l6 => refine' L2.cut_lookup ?x ?y; (case x => k_is); (case y => rfl)); (case c6 => refine L2.cut_code ?_; k_is); (case k6 => refine L2.cut_keepF ?_; k_is)
      (case a7 => refine L2.cut_ns ?_; k_is); (case l7 => refine' L2.cut_lookup ?x ?y; (case x => k_is); (case y => rfl)); (case c7 => refine L2.cut_code ?_; k_is); (case k7 => refine L2.cut_keepF ?_; k_is)
      (case a8 => refine L2.cut_ns ?_; k_is); (case l8 => refine' L2.cut_lookup ?x ?y; (case x => k_is); (case y => rfl)); (case c8 => refine L2.cut_code ?_; k_is); (case k8 => refine L2.cut_keepF ?_; k_is)
      (case a9 => refine L2.cut_ns ?_; k_is); (case l9 => refine' L2.cut_lookup ?x ?y; (case x => k_is); (case y => rfl)); (case c9 => refine L2.cut_code ?_; k_is); (case k9 => refine L2.cut_keepF ?_; k_is)
      (case a10 => refine L2.cut_ns ?_; k_is); (case l10 => refine' L2.cut_lookup ?x ?y; (case x => k_is); (case y => rfl)); (case c10 => refine L2.cut_code ?_; k_is); (case k10 => refine L2.cut_keepF ?_; k_is)
      (case a11 => refine L2.cut_ns ?_; k_is); (case l11 => refine' L2.cut_lookup ?x ?y; (case x => k_is); (case y => rfl)); (case c11 => refine L2.cut_code ?_; k_is); (case k11 => refine L2.cut_keepF ?_; k_is)
      (case a12 => refine L2.cut_ns ?_; k_is); (case l12 => refine' L2.cut_lookup ?x ?y; (case x => k_is); (case y => rfl)); (case c12 => refine L2.cut_code ?_; k_is); (case k12 => refine L2.cut_keepF ?_; k_is)
      (case a13 => refine L2.cut_ns ?_; k_is); (case l13 => refine' L2.cut_lookup ?x ?y; (case x => k_is); (case y => rfl)); (case c13 => refine L2.cut_code ?_; k_is); (case k13 => refine L2.cut_keepF ?_; k_is)
      (case a14 => refine L2.cut_ns ?_; k_is); (case l14 => refine' L2.cut_lookup ?x ?y; (case x => k_is); (case y => rfl)); (case c14 => refine L2.cut_code ?_; k_is); (case k14 => refine L2.cut_keepF ?_; k_is)
      (case a15 => refine L2.cut_ns ?_; k_is); (case l15 => refine' L2.cut_lookup ?x ?y; (case x => k_is); (case y => rfl)); (case c15 => refine L2.cut_code ?_; k_is); (case k15 => refine L2.cut_keepF ?_; k_is)
      (case a16 => refine L2.cut_ns ?_; k_is); (case l16 => refine' L2.cut_lookup ?x ?y; (case x => k_is); (case y => rfl)); (case c16 => refine L2.cut_code ?_; k_is); (case k16 => refine L2.cut_keepF ?_; k_is)
      (case a17 => refine L2.cut_ns ?_; k_is); (case l17 => refine' L2.cut_lookup ?x ?y; (case x => k_is); (case y => rfl)); (case c17 => refine L2.cut_code ?_; k_is); (case k17 => refine L2.cut_keepF ?_; k_is)
      (case a18 => refine L2.cut_ns ?_; k_is); (case l18 => refine' L2.cut_lookup ?x ?y; (case x => k_is); (case y => rfl)); (case c18 => refine L2.cut_code ?_; k_is); (case k18 => refine L2.cut_keepF ?_; k_is)
      (case a19 => refine L2.cut_ns ?_; k_is); (case l19 => refine' L2.cut_lookup ?x ?y; (case x => k_is); (case y => rfl)); (case c19 => refine L2.cut_code ?_; k_is); (case k19 => refine L2.cut_keepF ?_; k_is)
      (case a20 => refine L2.cut_ns ?_; k_is); (case l20 => refine' L2.cut_lookup ?x ?y; (case x => k_is); (case y => rfl)); (case c20 => refine L2.cut_code ?_; k_is); (case k20 => refine L2.cut_keepF ?_; k_is)
      (case a21 => refine L2.cut_ns ?_; k_is); (case l21 => refine' L2.cut_lookup ?x ?y; (case x => k_is); (case y => rfl)); (case c21 => refine L2.cut_code ?_; k_is); (case k21 => refine L2.cut_keepF ?_; k_is)
      (case a22 => refine L2.cut_ns ?_; k_is); (case l22 => refine' L2.cut_lookup ?x ?y; (case x => k_is); (case y => rfl)); (case c22 => refine L2.cut_code ?_; k_is); (case k22 => refine L2.cut_keepF ?_; k_is)
      (case a23 => refine L2.cut_ns ?_; k_is); (case l23 => refine' L2.cut_lookup ?x ?y; (case x => k_is); (case y => rfl)); (case c23 => refine L2.cut_code ?_; k_is); (case k23 => refine L2.cut_keepF ?_; k_is)
      (case a24 => refine L2.cut_ns ?_; k_is); (case l24 => refine' L2.cut_lookup ?x ?y; (case x => k_is); (case y => rfl)); (case c24 => refine L2.cut_code ?_; k_is); (case k24 => refine L2.cut_keepF ?_; k_is)
      (case a25 => refine L2.cut_ns ?_; k_is); (case l25 => refine' L2.cut_lookup ?x ?y; (case x => k_is); (case y => rfl)); (case c25 => refine L2.cut_code ?_; k_is); (case k25 => refine L2.cut_keepF ?_; k_is)
      (case z_zip => refine L2.cut_ns ?_; k_is)
      (case z_len => refine L2.cut_ns ?_; k_is)
      (case z_range => refine L2.cut_ns ?_; k_is)
      (case z_any => refine L2.cut_ns ?_; k_is)
      (case z_enumerate => refine L2.cut_ns ?_; k_is)
      (case z_isinstance => refine L2.cut_ns ?_; k_is)
      (case z_int => refine L2.cut_ns ?_; k_is)
      (case z_sorted => refine L2.cut_ns ?_; k_is)
      (case z_tuple => refine L2.cut_ns ?_; k_is)
      (case z_list => refine L2.cut_ns ?_; k_is)
      (case z_max => refine L2.cut_ns ?_; k_is)
    obtain ⟨f, fd, F, b, m⟩ := Law.law_bind (P := PySem.Challenge.pw_throng_k23_ways_thinned) (w := w) T
    have e0 := hmg.symm.trans m
    cases e0
    exact ⟨fd, b, fun base _ _ => F base⟩
#print axioms PySem.Challenge.cw_throng_k23_ways_thinned_holds
