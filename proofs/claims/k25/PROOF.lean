import PyProof.Rows.All
import Wide.All
import OpenK.AllK
import Wide.FinOn
import Lean
import PyProof.EqAt
import PyProof.EqKinds
import PyProof.TupleCall
import KE.KLam
import KE.KSortKey
import KE.KSorted
import PySem.Challenge.RW_throng_k25_tree_refuses
set_option Elab.async false
set_option linter.all false
set_option maxRecDepth 100000
namespace L2
open PySem PySem.Spec PyProof.Rows

abbrev Key := Sum Int Str
def keyIs : Key → Value → Bool
  | .inl k, v => Value.isInt k v
  | .inr x, v => Value.isStrOf x v
def keyH (w : World) : Key → Int
  | .inl k => hashInt k
  | .inr x => hashStr w x
theorem keyIs_shape : ∀ {k : Key} {v : Value}, keyIs k v = true → (∃ i t, k = Sum.inl i ∧ v = Value.int i t) ∨ (∃ x t, k = Sum.inr x ∧ v = Value.str x t)
  | .inl i, v, h => by
    obtain ⟨t, e⟩ := Value.isInt_shape (k := i) (v := v) h
    exact .inl ⟨i, t, rfl, e⟩
  | .inr x, v, h => by
    obtain ⟨t, e⟩ := Value.isStrOf_shape (x := x) (v := v) h
    exact .inr ⟨x, t, rfl, e⟩
theorem keyIs_int (i : Int) (t : Tok) : keyIs (.inl i) (.int i t) = true := by simp [keyIs, Value.isInt]
theorem keyIs_str (x : Str) (t : Tok) : keyIs (.inr x) (.str x t) = true := by simp [keyIs, Value.isStrOf]
theorem key_ll (a b : Int) : decide ((Sum.inl a : Key) = Sum.inl b) = (a == b) := by
  by_cases e : a = b
  · subst e; simp
  · have h : ¬ (Sum.inl a : Key) = Sum.inl b := fun q => e (Sum.inl.inj q)
    rw [decide_eq_false h]
    exact (beq_eq_false_iff_ne.mpr e).symm
theorem key_rr (a b : Str) : decide ((Sum.inr a : Key) = Sum.inr b) = decide (a = b) := by
  by_cases e : a = b
  · subst e; simp
  · have h : ¬ (Sum.inr a : Key) = Sum.inr b := fun q => e (Sum.inr.inj q)
    rw [decide_eq_false h, decide_eq_false e]
theorem key_lr (a : Int) (b : Str) : decide ((Sum.inl a : Key) = Sum.inr b) = false := decide_eq_false (fun q => nomatch q)
theorem key_rl (a : Str) (b : Int) : decide ((Sum.inr a : Key) = Sum.inl b) = false := decide_eq_false (fun q => nomatch q)

def mixKind (prog : Program) (w : World) : PySem.KeyKind prog w Key where
  is := keyIs
  hash := keyH w
  inj := fun v a b ha hb => by
    rcases keyIs_shape ha with ⟨i, t, rfl, rfl⟩ | ⟨x, t, rfl, rfl⟩
    · rcases keyIs_shape hb with ⟨j, u, rfl, e⟩ | ⟨y, u, rfl, e⟩
      · injection e with e1 _; rw [e1]
      · exact nomatch e
    · rcases keyIs_shape hb with ⟨j, u, rfl, e⟩ | ⟨y, u, rfl, e⟩
      · exact nomatch e
      · injection e with e1 _; rw [e1]
  byValue := fun k v h => by
    rcases keyIs_shape h with ⟨i, t, rfl, rfl⟩ | ⟨x, t, rfl, rfl⟩ <;> rfl
  pyHash := fun hv h => by
    rcases keyIs_shape hv with ⟨i, t, rfl, rfl⟩ | ⟨x, t, rfl, rfl⟩
    · exact wpAny_pyHash_int h
    · exact wpAny_pyHash_str h
  eqBool := fun hu hv h => by
    rcases keyIs_shape hu with ⟨i, t, rfl, rfl⟩ | ⟨x, t, rfl, rfl⟩
    · rcases keyIs_shape hv with ⟨j, u, rfl, rfl⟩ | ⟨y, u, rfl, rfl⟩
      · rw [key_ll] at h; exact wpAny_eqBool_int h
      · rw [key_lr] at h; exact SeqAt.EqAt.int_str i t y u _ _ _ _ h
    · rcases keyIs_shape hv with ⟨j, u, rfl, rfl⟩ | ⟨y, u, rfl, rfl⟩
      · rw [key_rl] at h; exact SeqAt.EqAt.str_int x t j u _ _ _ _ h
      · rw [key_rr] at h; exact wpAny_eqBool_str h
  «strs» := fun k x t v h => by
    rcases keyIs_shape h with ⟨i, u, rfl, e⟩ | ⟨y, u, rfl, e⟩
    · exact nomatch e
    · injection e with e1 _
      subst e1
      cases v <;> rfl

theorem mixKind_int (prog : Program) (w : World) (i : Int) (t : Tok) : (mixKind prog w).is (.inl i) (.int i t) = true := keyIs_int i t
theorem mixKind_str (prog : Program) (w : World) (x : Str) (t : Tok) : (mixKind prog w).is (.inr x) (.str x t) = true := keyIs_str x t
end L2

namespace L2
open PySem PySem.Spec PyProof.Rows

inductive V where
  | non | bl (b : Bool) | int (i : Int) | str (x : Str) | byt (b : Array UInt8) | flt (b : UInt64) | ref (a : Addr) | ty (n : String)
  deriving DecidableEq

def RelV : V → Value → Prop
  | .non, u => u = Value.none
  | .bl b, u => u = Value.bool b
  | .int i, u => ∃ t, u = Value.int i t
  | .str x, u => ∃ t, u = Value.str x t
  | .byt b, u => ∃ t, u = Value.bytes b t
  | .flt b, u => ∃ t, u = Value.float b t
  | .ref a, u => u = Value.ref a
  | .ty n, u => u = Value.type n

abbrev Vals : List V → List Value → Prop := Paired RelV
theorem Vals.length {xs : List V} {us : List Value} (r : Vals xs us) : xs.length = us.length := Paired.length r
theorem Vals.get : ∀ {xs : List V} {us : List Value} {i : Nat} {x : V}, Vals xs us → xs[i]? = some x → ∃ u, us[i]? = some u ∧ RelV x u
  | _, _, _, _, .nil, e => by simp at e
  | _, _, 0, _, .cons r _, e => by simp at e; subst e; exact ⟨_, rfl, r⟩
  | _, _, i + 1, x, .cons _ t, e => by
    obtain ⟨u, h1, h2⟩ := Vals.get (i := i) (x := x) t (by simpa using e)
    exact ⟨u, by simpa using h1, h2⟩
theorem Vals.set {x : V} {u : Value} (r : RelV x u) : ∀ {xs : List V} {us : List Value} (i : Nat), Vals xs us → Vals (xs.set i x) (us.set i u)
  | _, _, _, .nil => .nil
  | _, _, 0, .cons _ t => .cons r t
  | _, _, i + 1, .cons q t => .cons q (Vals.set r i t)
theorem Vals.append : ∀ {xs ys : List V} {us ws : List Value}, Vals xs us → Vals ys ws → Vals (xs ++ ys) (us ++ ws)
  | _, _, _, _, .nil, s => s
  | _, _, _, _, .cons r t, s => .cons r (Vals.append t s)
theorem Vals.take : ∀ {xs : List V} {us : List Value} (n : Nat), Vals xs us → Vals (xs.take n) (us.take n)
  | _, _, 0, _ => .nil
  | _, _, _ + 1, .nil => .nil
  | _, _, n + 1, .cons r t => .cons r (Vals.take n t)
theorem Vals.drop : ∀ {xs : List V} {us : List Value} (n : Nat), Vals xs us → Vals (xs.drop n) (us.drop n)
  | _, _, 0, r => r
  | _, _, _ + 1, .nil => .nil
  | _, _, n + 1, .cons _ t => Vals.drop n t
theorem Vals.none_of : ∀ {xs : List V} {us : List Value} {i : Nat}, Vals xs us → xs[i]? = none → us[i]? = none := fun {xs us i} r e => by
  have h1 := r.length
  have h2 : xs.length ≤ i := List.getElem?_eq_none_iff.mp e
  exact List.getElem?_eq_none_iff.mpr (by omega)

def RelO : Option V → Option Value → Prop
  | some v, some u => RelV v u
  | none, none => True
  | _, _ => False
def KV {κ : Type} : List (κ × V) → List (κ × Value) → Prop := Paired fun (p : κ × V) (q : κ × Value) => p.1 = q.1 ∧ RelV p.2 q.2

def kV : Key → V
  | .inl i => .int i
  | .inr x => .str x

inductive HO where
  | lst (xs : List V)
  | tup (xs : List V)
  | dK (kvs : List (Key × V)) | dT (kvs : List (List Key × V))
  | set (S : Int → Bool) (n : Nat)
  | ins (C dx : Addr) (fs : List (Str × V))
  | own (x : Addr)
  | xd (fs : List (Str × V))
  | met (f x : Addr)
  | rng (lo hi : Int)
  | frz (o : Obj) (u : HO)
  | tbl (ps : Array Value)
  | ext (φ : Heap → Prop)

abbrev Hp := Addr → Option HO
def upd (H : Hp) (a : Addr) (o : HO) : Hp := fun b => if b = a then some o else H b
theorem upd_same {H : Hp} {a : Addr} {o : HO} : upd H a o a = some o := by unfold upd; rw [if_pos rfl]
theorem upd_ne {H : Hp} {a b : Addr} {o : HO} (h : b ≠ a) : upd H a o b = H b := by unfold upd; rw [if_neg h]
theorem ne_of {H : Hp} {a b : Addr} {o u : HO} (h : H a = some o) (h' : H b = some u) (d : o ≠ u) : a ≠ b := by
  intro e; subst e; rw [h] at h'; exact d (Option.some.inj h')
theorem ne_of_none {H : Hp} {a b : Addr} {o : HO} (h : H a = some o) (h' : H b = none) : a ≠ b := by
  intro e; subst e; rw [h] at h'; cases h'

section
variable (P : Program) (w : World)
def ObjOk (H : Hp) (h : Heap) (a : Addr) : HO → Prop
  | .lst xs => xs.length ≤ sizeLine ∧ ∃ (its : List Value) (n : Nat), Vals xs its ∧ h.get? a = some { cls := .type "list", data := .seq its.toArray n }
  | .tup xs => xs.length ≤ sizeLine ∧ ∃ its : List Value, Vals xs its ∧ IsTup h a its.toArray
  | .dK kvs => kvs.length ≤ sizeLine ∧ (a == sysModules) = false ∧ ∃ vs, KV kvs vs ∧ h.DictOf (mixKind P w) a vs
  | .dT kvs => kvs.length ≤ sizeLine ∧ (a == sysModules) = false ∧ ∃ xs : List (List Key × Addr × Value),
      Paired (fun (p : List Key × V) (q : List Key × Addr × Value) => p.1 = q.1 ∧ H q.2.1 = some (.tup (p.1.map kV)) ∧ RelV p.2 q.2.2) kvs xs ∧
      ∃ o es ep, h.get? a = some o ∧ o.ExactDict ∧ o.data = .dict es ep ∧ es.toList = xs.map (entryOfKey (tupleKind (mixKind P w))) ∧ (xs.map (·.1)).Nodup
  | .set S n => h.SetOf (intKind P w) a S n
  | .ins C dx fs => H dx = some (.own a) ∧ fs.length ≤ 1000 ∧ dx ≠ a ∧ h.get? a = some (PySem.W.instObj C dx) ∧
      ∃ mA, h.Ns1 dx mA ∧ (∀ f, RelO (fs.lookup f) (mA f)) ∧ PySem.Within mA (fs.map (·.1))
  | .own _ => ∃ o, h.get? a = some o
  | .xd fs => ∃ mA, h.Ns1 a mA ∧ ∀ f, RelO (fs.lookup f) (mA f)
  | .rng lo hi => ∃ t u v, h.get? a = some { cls := .type "range", data := .fields #[.int lo t, .int hi u, .int 1 v] }
  | .frz o u => h.get? a = some o ∧ ObjOk H h a u
  | .tbl ps => h.get? a = some { cls := .none, data := .fields ps }
  | .met f x => h.get? a = some (PySem.W.methodObj (.ref f) (.ref x))
  | .ext φ => φ h ∧ (∃ o, h.get? a = some o) ∧ ∀ h1 h2 : Heap, φ h1 → (∀ o, h1.get? a = some o → h2.get? a = some o) → φ h2
def HOk (H : Hp) (h : Heap) : Prop := ∀ a o, H a = some o → ObjOk P w H h a o
end

section
variable {P : Program} {w : World} {H H' : Hp} {h h' : Heap} {a : Addr} {o : HO}
theorem ObjOk.lt (x : ObjOk P w H h a o) : a < h.objs.size := by
  cases o with
  | lst xs => obtain ⟨_, _, _, _, e⟩ := x; exact Heap.lt_size e
  | tup xs => obtain ⟨_, _, _, p⟩ := x; exact p.lt
  | dK kvs => obtain ⟨_, _, _, _, o, _, _, e, _⟩ := x; exact Heap.lt_size e
  | dT kvs => obtain ⟨_, _, _, _, o, _, _, e, _⟩ := x; exact Heap.lt_size e
  | set S n => obtain ⟨o, _, _, _, e, _⟩ := x; exact Heap.lt_size e
  | ins C dx fs => obtain ⟨_, _, _, e, _⟩ := x; exact Heap.lt_size e
  | own y => obtain ⟨_, e⟩ := x; exact Heap.lt_size e
  | xd fs => obtain ⟨_, ⟨_, _, _, e, _⟩, _⟩ := x; exact Heap.lt_size e
  | rng lo hi => obtain ⟨_, _, _, e⟩ := x; exact Heap.lt_size e
  | frz ob u => obtain ⟨e, _⟩ := x; exact Heap.lt_size e
  | tbl ps => exact Heap.lt_size (show h.get? a = some _ from x)
  | met f y => exact Heap.lt_size (show h.get? a = some _ from x)
  | ext φ => obtain ⟨_, ⟨_, e⟩, _⟩ := x; exact Heap.lt_size e
theorem Paired.mapP {α β : Type} {F G : α → β → Prop} : ∀ {l₁ : List α} {l₂ : List β}, Paired F l₁ l₂ → (∀ a b, F a b → G a b) → Paired G l₁ l₂
  | _, _, .nil, _ => .nil
  | _, _, .cons r t, f => .cons (f _ _ r) (Paired.mapP t f)
theorem Paired.imp' {α β : Type} {F G : α → β → Prop} (f : ∀ a b, F a b → G a b) {l₁ : List α} {l₂ : List β} (r : Paired F l₁ l₂) : Paired G l₁ l₂ := Paired.mapP r f
theorem ObjOk.stay (x : ObjOk P w H h a o) (k : ∀ b u, (b = a ∨ H b = some (.own a)) → h.get? b = some u → h'.get? b = some u)
    (ho : ∀ b, H b = some (.own a) → H' b = some (.own a)) (ht : ∀ b xs, H b = some (.tup xs) → H' b = some (.tup xs)) : ObjOk P w H' h' a o := by
  induction o with
  | lst xs => obtain ⟨z, its, n, r, e⟩ := x; exact ⟨z, its, n, r, k _ _ (.inl rfl) e⟩
  | tup xs => obtain ⟨z, its, r, ob, e, c⟩ := x; exact ⟨z, its, r, ob, k _ _ (.inl rfl) e, c⟩
  | dK kvs => obtain ⟨z, y, vs, r, ob, es, ep, e, c⟩ := x; exact ⟨z, y, vs, r, ob, es, ep, k _ _ (.inl rfl) e, c⟩
  | dT kvs =>
    obtain ⟨z, y, xs, r, ob, es, ep, e, c⟩ := x
    exact ⟨z, y, xs, Paired.mapP r fun p q z => ⟨z.1, ht _ _ z.2.1, z.2.2⟩, ob, es, ep, k _ _ (.inl rfl) e, c⟩
  | set S n => obtain ⟨ob, es, ep, t, e, c⟩ := x; exact ⟨ob, es, ep, t, k _ _ (.inl rfl) e, c⟩
  | ins C dx fs =>
    obtain ⟨d, z, ne, e, mA, ⟨od, es, ep, e2, c⟩, r⟩ := x
    exact ⟨ho _ d, z, ne, k _ _ (.inl rfl) e, mA, ⟨od, es, ep, k _ _ (.inr d) e2, c⟩, r⟩
  | own y => obtain ⟨ob, e⟩ := x; exact ⟨ob, k _ _ (.inl rfl) e⟩
  | xd fs => obtain ⟨mA, ⟨od, es, ep, e, c⟩, r⟩ := x; exact ⟨mA, ⟨od, es, ep, k _ _ (.inl rfl) e, c⟩, r⟩
  | rng lo hi => obtain ⟨t, u, v, e⟩ := x; exact ⟨t, u, v, k _ _ (.inl rfl) e⟩
  | frz ob u ih => obtain ⟨e, q⟩ := x; exact ⟨k _ _ (.inl rfl) e, ih q⟩
  | tbl ps =>
    have e : h.get? a = some { cls := .none, data := .fields ps } := x
    show h'.get? a = some { cls := .none, data := .fields ps }
    exact k a _ (.inl rfl) e
  | met f y =>
    have e : h.get? a = some (PySem.W.methodObj (.ref f) (.ref y)) := x
    show h'.get? a = some (PySem.W.methodObj (.ref f) (.ref y))
    exact k a _ (.inl rfl) e
  | ext φ => obtain ⟨p, ⟨o, e⟩, st⟩ := x; exact ⟨st _ _ p fun o q => k _ _ (.inl rfl) q, ⟨o, k _ _ (.inl rfl) e⟩, st⟩
theorem HOk.lt (x : HOk P w H h) (e : H a = some o) : a < h.objs.size := (x a o e).lt
theorem HOk.fresh (x : HOk P w H h) (e : h.objs.size ≤ a) : H a = none := by
  cases q : H a with
  | none => rfl
  | some u => exact absurd (Nat.lt_of_lt_of_le (x.lt q) e) (Nat.lt_irrefl _)
theorem HOk.kept (x : HOk P w H h) (k : ∀ b u, h.get? b = some u → h'.get? b = some u) : HOk P w H h' := fun a o e =>
  (x a o e).stay (fun b u _ q => k b u q) (fun _ q => q) fun _ _ q => q
theorem HOk.laid (x : HOk P w H h) (k : ∀ b u, h.get? b = some u → h'.get? b = some u) (hp : h.objs.size ≤ a) (new : ObjOk P w (upd H a o) h' a o) : HOk P w (upd H a o) h' := fun b u e => by
  have hn := x.fresh hp
  by_cases hb : b = a
  · subst hb; rw [upd_same] at e; cases e; exact new
  · rw [upd_ne hb] at e
    exact (x b u e).stay (fun c v _ q => k c v q) (fun c q => by rw [upd_ne (ne_of_none q hn)]; exact q) fun c xs q => by rw [upd_ne (ne_of_none q hn)]; exact q
end

def Rd (H : Hp) (a : Addr) (u : HO) : Prop := H a = some u ∨ ∃ o, H a = some (.frz o u)
theorem Rd.of {H : Hp} {a : Addr} {u : HO} (h : H a = some u) : Rd H a u := .inl h
theorem Rd.ok {P : Program} {w : World} {H : Hp} {h : Heap} {a : Addr} {u : HO} (r : Rd H a u) (x : HOk P w H h) : ObjOk P w H h a u := by
  rcases r with r | ⟨o, r⟩
  · exact x a u r
  · obtain ⟨_, q⟩ := x a _ r
    exact q
def Mut : Option HO → Prop
  | some (.lst _) => True
  | some (.dK _) => True
  | some (.dT _) => True
  | some (.set _ _) => True
  | some (.ins _ _ _) => True
  | some (.ext _) => True
  | _ => False
section
variable {P : Program} {w : World} {H : Hp} {h h' : Heap} {x e : Addr} {o' : HO}
theorem HOk.write (ok : HOk P w H h) (mu : Mut (H x)) (he : e = x ∨ H e = some (.own x)) (k : ∀ b u, b ≠ e → h.get? b = some u → h'.get? b = some u) (heo : ∃ u, h'.get? e = some u)
    (new : ObjOk P w (upd H x o') h' x o') : HOk P w (upd H x o') h' := fun b u q => by
  have nown : ∀ c y, H c = some (.own y) → c ≠ x := fun c y r z => by subst z; rw [r] at mu; exact mu
  have ntup : ∀ c xs, H c = some (.tup xs) → c ≠ x := fun c xs r z => by subst z; rw [r] at mu; exact mu
  by_cases hb : b = x
  · subst hb; rw [upd_same] at q; cases q; exact new
  · rw [upd_ne hb] at q
    by_cases hbe : b = e
    · have q' : H b = some (.own x) := by
        rcases he with z | z
        · exact absurd (hbe.trans z) hb
        · rw [hbe]; exact z
      rw [q] at q'; cases q'
      obtain ⟨v, hv⟩ := heo
      exact ⟨v, by rw [hbe]; exact hv⟩
    · refine (ok b u q).stay (fun c v hc r => k c v ?_ r) (fun c r => by rw [upd_ne (nown c b r)]; exact r) fun c xs r => by rw [upd_ne (ntup c xs r)]; exact r
      rcases hc with rfl | hc
      · exact hbe
      · rintro rfl
        rcases he with z | z
        · exact nown c b hc z
        · rw [hc] at z; cases z; exact hb rfl
end

structure Un (fs ex : List Addr) (H H' : Hp) (h h' : Heap) : Prop where
  keep : ∀ b o, h.get? b = some o → H b = none → b ∉ fs → b ∉ ex → h'.get? b = some o
  slot : ∀ b o, h.get? b = some o → H b = none → b ∈ fs → b ∉ ex → ∃ sl, h'.get? b = some { o with slots := sl }
  free : ∀ b o, h.get? b = some o → H b = none → b ∉ ex → H' b = none
  there : ∀ b o, h.get? b = some o → b ∉ ex → ∃ o', h'.get? b = some o'
  tups : ∀ b xs, H b = some (.tup xs) → H' b = some (.tup xs)
  frzs : ∀ b o xs, H b = some (.frz o (.lst xs)) → H' b = some (.frz o (.lst xs))
  tbls : ∀ b ps, H b = some (.tbl ps) → ∃ more, H' b = some (.tbl (ps ++ more))
section
variable {fs fs' ex ex' : List Addr} {H H1 H2 : Hp} {h h1 h2 h' : Heap} {a x e : Addr} {o : HO}
theorem Un.any (u : Un fs ex H H1 h h1) {b : Addr} {ob : Obj} (q : h.get? b = some ob) (n : H b = none) (hx : b ∉ ex) : ∃ sl, h1.get? b = some { ob with slots := sl } := by
  by_cases hb : b ∈ fs
  · exact u.slot b ob q n hb hx
  · exact ⟨ob.slots, u.keep b ob q n hb hx⟩
theorem Un.trans (a : Un fs ex H H1 h h1) (b : Un fs ex H1 H2 h1 h2) : Un fs ex H H2 h h2 where
  keep := fun c ob q n hc hx => b.keep c ob (a.keep c ob q n hc hx) (a.free c ob q n hx) hc hx
  slot := fun c ob q n hc hx => by
    obtain ⟨sl, e1⟩ := a.slot c ob q n hc hx
    obtain ⟨sl', e2⟩ := b.slot c _ e1 (a.free c ob q n hx) hc hx
    exact ⟨sl', e2⟩
  free := fun c ob q n hx => by
    obtain ⟨o', e1⟩ := a.there c ob q hx
    exact b.free c o' e1 (a.free c ob q n hx) hx
  there := fun c ob q hx => by
    obtain ⟨o', e1⟩ := a.there c ob q hx
    exact b.there c o' e1 hx
  tups := fun c xs q => b.tups c xs (a.tups c xs q)
  frzs := fun c ob xs q => b.frzs c ob xs (a.frzs c ob xs q)
  tbls := fun c ps q => by
    obtain ⟨m1, e1⟩ := a.tbls c ps q
    obtain ⟨m2, e2⟩ := b.tbls c _ e1
    exact ⟨m1 ++ m2, by rw [e2, Array.append_assoc]⟩
theorem Un.kept (k : ∀ b u, h.get? b = some u → h'.get? b = some u) : Un fs ex H H h h' :=
  ⟨fun b ob q _ _ _ => k b ob q, fun b ob q _ _ _ => ⟨ob.slots, k b ob q⟩, fun _ _ _ n _ => n, fun b ob q _ => ⟨ob, k b ob q⟩, fun _ _ q => q, fun _ _ _ q => q, fun _ ps q => ⟨#[], by rw [q]; simp⟩⟩
theorem Un.refl : Un fs ex H H h h := Un.kept fun _ _ q => q
theorem Un.laid (k : ∀ b u, h.get? b = some u → h'.get? b = some u) (hp : h.objs.size ≤ a) (hn : H a = none) : Un fs ex H (upd H a o) h h' where
  keep := fun b u q _ _ _ => k b u q
  slot := fun b u q _ _ _ => ⟨u.slots, k b u q⟩
  free := fun b u q n _ => by rw [upd_ne (Nat.ne_of_lt (Nat.lt_of_lt_of_le (Heap.lt_size q) hp))]; exact n
  there := fun b u q _ => ⟨u, k b u q⟩
  tups := fun b xs q => by rw [upd_ne (ne_of_none q hn)]; exact q
  frzs := fun b u xs q => by rw [upd_ne (ne_of_none q hn)]; exact q
  tbls := fun b ps q => ⟨#[], by rw [upd_ne (ne_of_none q hn), q]; simp⟩
theorem Un.write (mu : Mut (H x)) (he : e = x ∨ H e = some (.own x)) (k : ∀ b u, b ≠ e → h.get? b = some u → h'.get? b = some u) (heo : ∃ u, h'.get? e = some u) : Un fs ex H (upd H x o) h h' := by
  have hx : ∀ b, H b = none → b ≠ x := fun b n z => by subst z; rw [n] at mu; exact mu
  have hb : ∀ b, H b = none → b ≠ e := fun b n z => by
    subst z
    rcases he with r | r
    · exact hx b n r
    · rw [n] at r; cases r
  have hm : ∀ b u, H b = some u → ¬ Mut (some u) → b ≠ x := fun b u q nm z => by subst z; rw [q] at mu; exact nm mu
  refine ⟨fun b u q n _ _ => k b u (hb b n) q, fun b u q n _ _ => ⟨u.slots, k b u (hb b n) q⟩, fun b u q n _ => by rw [upd_ne (hx b n)]; exact n, fun b u q _ => ?_,
    fun b xs q => by rw [upd_ne (hm b _ q fun z => z)]; exact q, fun b u xs q => by rw [upd_ne (hm b _ q fun z => z)]; exact q, fun b ps q => ⟨#[], by rw [upd_ne (hm b _ q fun z => z), q]; simp⟩⟩
  by_cases hbe : b = e
  · subst hbe; exact heo
  · exact ⟨u, k b u hbe q⟩
theorem Un.mono (u : Un fs ex H H1 h h1) (hs : ∀ b ∈ fs, b ∈ fs') (hx : ∀ b ∈ ex, b ∈ ex') : Un fs' ex' H H1 h h1 :=
  ⟨fun b ob q n hb he => u.keep b ob q n (fun z => hb (hs b z)) fun z => he (hx b z), fun _ _ q n _ he => u.any q n fun z => he (hx _ z), fun b ob q n he => u.free b ob q n fun z => he (hx b z), fun b ob q he => u.there b ob q fun z => he (hx b z), u.tups, u.frzs, u.tbls⟩
end

def trk (h : Heap) (H : Hp) : List Addr := (List.range h.objs.size).filter fun a => (H a).isSome
def hidT (h : Heap) (H : Hp) : Heap := PySem.W.hideAll h (trk h H)
theorem hidT_size (h : Heap) (H : Hp) : (hidT h H).objs.size = h.objs.size := PySem.W.hideAll_size _ _
theorem hidT_get {h : Heap} {H : Hp} {b : Addr} {o : Obj} (e : h.get? b = some o) (n : H b = none) : (hidT h H).get? b = some o :=
  PySem.W.hideAll_get _ e fun hm => by
    have q : (H b).isSome = true := (List.mem_filter.mp hm).2
    rw [n] at q; simp at q
theorem of_hidT {h : Heap} {H : Hp} {b : Addr} {o : Obj} (e : (hidT h H).get? b = some o) : h.get? b = some o ∧ H b = none := by
  have e' : h.get? b = some o := PySem.W.of_hideAll (trk h H) e
  refine ⟨e', ?_⟩
  cases q : H b with
  | none => rfl
  | some x =>
    have hm : b ∈ trk h H := List.mem_filter.mpr ⟨List.mem_range.mpr (Heap.lt_size e'), by simp [q]⟩
    have z : (hidT h H).get? b = none := PySem.W.hideAll_none (trk h H) hm
    rw [z] at e; cases e

def allNews (g h : Heap) (L : Addr) : List (Addr × Obj) := (List.range h.objs.size).filterMap fun a => if a = L ∨ (g.get? a).isSome = true then none else (h.get? a).map fun o => (a, o)
def rest (g h : Heap) (L d : Addr) : List (Addr × Obj) := (allNews g h L).filter fun p => decide (p.1 ≠ d)
end L2

namespace L2
open PySem PySem.Spec PyProof.Rows

structure Mod (K : PySem.W.Frag) (mg : Str → Option Value) (base : Heap) : Prop where
  kin : K.In base
  glob : base.Ns mainGlobals mg
  blt : ∃ mb, base.Ns builtinsNs mb ∧ ∀ x : Str, x ≠ "__name__" → mb x = bootBuiltins x
  nolimit : base.NoLimit

/-- the context: a def's body (or a comprehension's block) running. base: fixed through the whole law; s₀, H₀: the entry; outer: the frames whose slots others may change (a def's callers); stack: all frames that run;
   ex: iterators that were made ahead of the entry and are walked here (a comprehension's); fn: the names whose cells were made at the entry (a def: all; a comprehension's block: its own); calm: not within an except suite; pn: pins that every state bears; xe: what is wanted of an exception that leaves the code -/
structure Cx where
  prog : Program
  w : World
  K : PySem.W.Frag
  mg : Str → Option Value
  base : Heap
  A : Around
  N : List Str
  s₀ : Shared
  H₀ : Hp
  env : Env
  outer : List Env
  stack : List Env
  ex : List Addr
  fn : Str → Bool
  calm : Bool
  pn : List (Addr × Obj)
  xe : Value → Shared → Prop
def frs (l : List Env) : List Addr := l.filterMap (·.frame)
abbrev Cx.fs (X : Cx) : List Addr := frs X.outer

def Vis (sc : Scope) (x : Str) : Prop := sc.names.lookup x = some .local ∨ sc.names.lookup x = some .cell ∨ sc.names.lookup x = some .free
def Loc (sc : Scope) (x : Str) : Prop := sc.names.lookup x = some .local ∨ sc.names.lookup x = some .cell
def Look (env : Env) (h : Heap) (m : Str → Option Value) (x : Str) (u : Value) : Prop :=
  (env.kindOf x = some .local ∧ m x = some u) ∨ ((env.kindOf x = some .cell ∨ env.kindOf x = some .free) ∧ ∃ c, env.cells.lookup x = some c ∧ h.IsCell c (some u))

structure Cx.Ok (X : Cx) : Prop where
  mod : Mod X.K X.mg X.base
  kind : X.env.scope.kind = .function
  glob : X.env.globals = mainGlobals
  blt : X.env.builtins = builtinsNs
  above : X.s₀.heap.objs.size ≤ X.env.locals
  inj : ∀ x y c, X.env.cells.lookup x = some c → X.env.cells.lookup y = some c → x = y
  has : ∀ x, (X.env.kindOf x = some .cell ∨ X.env.kindOf x = some .free) → ∃ c, X.env.cells.lookup x = some c
  cab : ∀ x c, X.fn x = true → X.env.cells.lookup x = some c → X.s₀.heap.objs.size ≤ c
  hd : X.calm = true → X.A.handled = none
  frames : X.A.frames = some X.stack
  stk : X.stack = X.outer ∨ (X.stack = X.env :: X.outer ∧ X.env.frame = some X.env.locals)
  exf : ∀ b ∈ X.ex, b ≠ X.env.locals ∧ ∀ x c, X.env.cells.lookup x = some c → c ≠ b
  bs : ∀ b o, X.base.get? b = some o → X.s₀.heap.get? b = some o ∧ X.H₀ b = none
  bsz : X.base.objs.size ≤ X.s₀.heap.objs.size
  noex : ∀ b o, X.base.get? b = some o → b ∉ X.ex
  exfs : ∀ b ∈ X.ex, b ∉ X.fs
  funs : X.s₀.heap.FunFrames X.base X.outer
  frf : ∀ b ∈ X.fs, X.H₀ b = none

structure Inv (X : Cx) (pins : List (Addr × Obj)) (σ : List (Option V)) (H : Hp) (s : Shared) : Prop where
  ok : X.Ok
  os : s.os = X.s₀.os
  bare : AllBare s.gens
  base : Un X.fs X.ex X.H₀ H X.s₀.heap s.heap
  loc : ∃ m, s.heap.Ns X.env.locals m ∧ ∀ (i : Nat) (x : Str) (v : V), X.N[i]? = some x → σ[i]? = some (some v) → Vis X.env.scope x → ∃ u, RelV v u ∧ Look X.env s.heap m x u
  cell : ∀ x c, X.env.cells.lookup x = some c → ∃ v, s.heap.IsCell c v
  free : H X.env.locals = none
  freeC : ∀ x c, X.env.cells.lookup x = some c → H c = none
  pin : ∀ p ∈ X.pn ++ pins, s.heap.get? p.1 = some p.2 ∧ H p.1 = none ∧ p.1 ≠ X.env.locals ∧ p.1 ∉ X.fs ∧ ∀ v, p.2.data ≠ .cell v
  hok : HOk X.prog X.w H s.heap
  len : σ.length = X.N.length
  tk : 0 < s.toks

section
variable {X : Cx} {pins : List (Addr × Obj)} {σ : List (Option V)} {H H' : Hp} {s : Shared} {h' : Heap}

theorem Cx.Ok.nofr (ok : X.Ok) {b : Addr} {o : Obj} (e : X.base.get? b = some o) : b ∉ X.fs := fun hb => by
  have := (ok.funs.mem hb).1
  rw [e] at this; cases this
theorem Inv.bs (I : Inv X pins σ H s) : ∀ b o, X.base.get? b = some o → s.heap.get? b = some o ∧ H b = none := fun b o e =>
  ⟨I.base.keep b o (I.ok.bs b o e).1 (I.ok.bs b o e).2 (I.ok.nofr e) (I.ok.noex b o e), I.base.free b o (I.ok.bs b o e).1 (I.ok.bs b o e).2 (I.ok.noex b o e)⟩
theorem Inv.bk (I : Inv X pins σ H s) : ∀ b o, X.base.get? b = some o → s.heap.get? b = some o := fun b o e => (I.bs b o e).1
theorem Inv.mod (I : Inv X pins σ H s) : Mod X.K X.mg X.base := I.ok.mod
theorem Inv.kIn (I : Inv X pins σ H s) : X.K.In s.heap := I.ok.mod.kin.keeps I.bk
theorem Inv.nolimit (I : Inv X pins σ H s) : s.heap.NoLimit := I.ok.mod.nolimit.keeps I.bk
theorem Inv.fr (I : Inv X pins σ H s) : ∃ m, Fr X.base X.env.locals s.heap m :=
  let ⟨m, hn, _⟩ := I.loc
  ⟨m, hn, I.bk, Nat.le_trans I.ok.bsz I.ok.above⟩
theorem Inv.lt (I : Inv X pins σ H s) : X.env.locals < s.heap.objs.size := let ⟨_, hn, _⟩ := I.loc; hn.lt
theorem Inv.sz (I : Inv X pins σ H s) : X.s₀.heap.objs.size ≤ s.heap.objs.size := Nat.le_trans I.ok.above (Nat.le_of_lt I.lt)
theorem Inv.nofs (I : Inv X pins σ H s) {a : Addr} (h : s.heap.objs.size ≤ a) : a ∉ X.fs := fun hb => by
  obtain ⟨_, o, ho, _⟩ := I.ok.funs.mem hb
  exact absurd (Nat.lt_of_lt_of_le (Heap.lt_size ho) (Nat.le_trans I.sz h)) (Nat.lt_irrefl _)
theorem Inv.cne (I : Inv X pins σ H s) : ∀ x c, X.env.cells.lookup x = some c → c ≠ X.env.locals := fun x c e z => by
  obtain ⟨v, o, ho, hd⟩ := I.cell x c e
  obtain ⟨m, ⟨o', es, ep, ho', hd', _⟩, _⟩ := I.loc
  rw [z, ho'] at ho; cases ho; rw [hd'] at hd; cases hd
theorem Inv.funs (I : Inv X pins σ H s) : s.heap.FunFrames X.base X.outer := by
  have all : ∀ (l : List Env), (∀ b ∈ frs l, b ∈ X.fs) → X.s₀.heap.FunFrames X.base l → s.heap.FunFrames X.base l := by
    intro l
    induction l with
    | nil => intro _ _; trivial
    | cons env r ih =>
      intro hs hl
      obtain ⟨hk, ⟨L, o, hf, hn, ho, hd⟩, hr⟩ := hl
      have hL : L ∈ X.fs := hs L (by unfold frs; rw [List.filterMap_cons, hf]; exact List.mem_cons_self)
      obtain ⟨sl, e⟩ := I.base.slot L o ho (I.ok.frf L hL) hL fun z => I.ok.exfs L z hL
      exact ⟨hk, ⟨L, _, hf, hn, e, hd⟩, ih (fun b hb => hs b (by unfold frs; rw [List.filterMap_cons, hf]; exact List.mem_cons_of_mem _ hb)) hr⟩
  exact all X.outer (fun _ hb => hb) I.ok.funs

theorem Inv.stack (I : Inv X pins σ H s) : s.heap.FunFrames X.base X.stack := by
  rcases I.ok.stk with e | ⟨e, hf⟩
  · rw [e]; exact I.funs
  · rw [e]
    obtain ⟨m, hn, _⟩ := I.loc
    refine .cons (by rw [I.ok.kind]; decide) hf hn ?_ I.funs
    exact Heap.get?_none_of_le (Nat.le_trans I.ok.bsz I.ok.above)
theorem Inv.stkSub (I : Inv X pins σ H s) : ∀ b ∈ frs X.stack, b ∈ X.env.locals :: X.fs := fun b hb => by
  rcases I.ok.stk with e | ⟨e, hf⟩
  · rw [e] at hb; exact List.mem_cons_of_mem _ hb
  · rw [e] at hb
    unfold frs at hb
    rw [List.filterMap_cons, hf] at hb
    exact hb
theorem Inv.stkFree (I : Inv X pins σ H s) : ∀ b ∈ frs X.stack, H b = none := fun b hb => by
  rcases List.mem_cons.mp (I.stkSub b hb) with e | hb
  · rw [e]; exact I.free
  · obtain ⟨_, o, ho, _⟩ := I.ok.funs.mem hb
    exact I.base.free b o ho (I.ok.frf b hb) fun z => I.ok.exfs b z hb

theorem Inv.step {g' : Array GenState} {t' : Nat} {d' : Drawn} {ch : List Addr} (I : Inv X pins σ H s)
    (hch : ∀ b ∈ ch, (b ∈ X.ex ∨ X.s₀.heap.objs.size ≤ b) ∧ b ≠ X.env.locals ∧ (∀ x c, X.env.cells.lookup x = some c → c ≠ b) ∧ ∀ p ∈ X.pn ++ pins, p.1 ≠ b)
    (keep : ∀ b o, b ≠ X.env.locals → b ∉ X.fs → b ∉ ch → s.heap.get? b = some o → H b = none → h'.get? b = some o)
    (slot : ∀ b o, b ≠ X.env.locals → b ∈ X.fs → b ∉ ch → s.heap.get? b = some o → H b = none → ∃ sl, h'.get? b = some { o with slots := sl }) (free : ∀ b o, b ∉ ch → s.heap.get? b = some o → H b = none → H' b = none)
    (there : ∀ b o, b ∉ ch → s.heap.get? b = some o → ∃ o', h'.get? b = some o')
    (tups : ∀ b xs, H b = some (.tup xs) → H' b = some (.tup xs)) (frzs : ∀ b o xs, H b = some (.frz o (.lst xs)) → H' b = some (.frz o (.lst xs))) (tbls : ∀ b ps, H b = some (.tbl ps) → ∃ more, H' b = some (.tbl (ps ++ more)))
    (ns : ∀ m, s.heap.Ns X.env.locals m → h'.Ns X.env.locals m) (hok : HOk X.prog X.w H' h') (hg : AllBare g') (ht : 0 < t' := by first | assumption | exact Nat.succ_pos _ | (apply Inv.tk; assumption) | omega) :
    Inv X pins σ H' { s with heap := h', gens := g', drawn := d', toks := t' } := by
  have neL : ∀ b o, X.s₀.heap.get? b = some o → b ≠ X.env.locals := fun b o e => Nat.ne_of_lt (Nat.lt_of_lt_of_le (Heap.lt_size e) I.ok.above)
  have neC : ∀ b o, X.s₀.heap.get? b = some o → b ∉ X.ex → b ∉ ch := fun b o e hx hb => by
    rcases (hch b hb).1 with z | z
    · exact hx z
    · exact absurd (Nat.lt_of_lt_of_le (Heap.lt_size e) z) (Nat.lt_irrefl _)
  have cellK : ∀ x c, X.env.cells.lookup x = some c → ∀ v, s.heap.IsCell c v → h'.IsCell c v := fun x c e v ⟨o, ho, hd⟩ => by
    have nch : c ∉ ch := fun z => (hch c z).2.2.1 x c e rfl
    by_cases hc : c ∈ X.fs
    · obtain ⟨sl, q⟩ := slot c o (I.cne x c e) hc nch ho (I.freeC x c e)
      exact ⟨_, q, hd⟩
    · exact ⟨o, keep c o (I.cne x c e) hc nch ho (I.freeC x c e), hd⟩
  refine ⟨I.ok, I.os, hg, ⟨fun b o e n hb hx => ?_, fun b o e n hb hx => ?_, fun b o e n hx => ?_, fun b o e hx => ?_, fun b xs e => tups b xs (I.base.tups b xs e), fun b o xs e => frzs b o xs (I.base.frzs b o xs e), fun b ps e => ?_⟩, ?_, fun x c e => ?_, ?_, fun x c e => ?_, fun p hp => ?_, hok, I.len, ht⟩
  · exact keep b o (neL b o e) hb (neC b o e hx) (I.base.keep b o e n hb hx) (I.base.free b o e n hx)
  · obtain ⟨sl, e1⟩ := I.base.slot b o e n hb hx
    obtain ⟨sl', e2⟩ := slot b _ (neL b o e) hb (neC b o e hx) e1 (I.base.free b o e n hx)
    exact ⟨sl', e2⟩
  · obtain ⟨o', e1⟩ := I.base.there b o e hx
    exact free b o' (neC b o e hx) e1 (I.base.free b o e n hx)
  · obtain ⟨o', e1⟩ := I.base.there b o e hx
    exact there b o' (neC b o e hx) e1
  · obtain ⟨m1, e1⟩ := I.base.tbls b ps e
    obtain ⟨m2, e2⟩ := tbls b _ e1
    exact ⟨m1 ++ m2, by rw [e2, Array.append_assoc]⟩
  · obtain ⟨m, hn, hl⟩ := I.loc
    refine ⟨m, ns m hn, fun i x v e1 e2 e3 => ?_⟩
    obtain ⟨u, r, l⟩ := hl i x v e1 e2 e3
    refine ⟨u, r, ?_⟩
    rcases l with l | ⟨k, c, e, z⟩
    · exact .inl l
    · exact .inr ⟨k, c, e, cellK x c e _ z⟩
  · obtain ⟨v, z⟩ := I.cell x c e
    exact ⟨v, cellK x c e v z⟩
  · obtain ⟨m, ⟨o, _, _, ho, _⟩, _⟩ := I.loc
    exact free _ o (fun z => (hch _ z).2.1 rfl) ho I.free
  · obtain ⟨v, o, ho, hd⟩ := I.cell x c e
    exact free c o (fun z => (hch c z).2.2.1 x c e rfl) ho (I.freeC x c e)
  · obtain ⟨e, n, ne, nf, d⟩ := I.pin p hp
    have nch : p.1 ∉ ch := fun z => (hch p.1 z).2.2.2 p hp rfl
    exact ⟨keep p.1 p.2 ne nf nch e n, free p.1 p.2 nch e n, ne, nf, d⟩
theorem Inv.un {t' : Nat} (I : Inv X pins σ H s) (u : Un X.fs [] H H' s.heap h') (hok : HOk X.prog X.w H' h') (ht : 0 < t' := by first | assumption | exact Nat.succ_pos _ | (apply Inv.tk; assumption) | omega) : Inv X pins σ H' { s with heap := h', toks := t' } := by
  obtain ⟨m, ⟨o, es, ep, ho, r⟩, _⟩ := id I.loc
  obtain ⟨sl, hL⟩ := u.any ho I.free (by simp)
  exact I.step (g' := s.gens) (d' := s.drawn) (ch := []) (fun _ z => nomatch z) (fun b o _ hb _ e n => u.keep b o e n hb (by simp)) (fun b o _ hb _ e n => u.slot b o e n hb (by simp)) (fun b o _ e n => u.free b o e n (by simp)) (fun b o _ e => u.there b o e (by simp)) u.tups u.frzs u.tbls (fun m' hm => by
    obtain ⟨o', es', ep', ho', r'⟩ := hm
    rw [ho] at ho'; cases ho'
    exact ⟨_, es', ep', hL, r'⟩) hok I.bare ht
theorem Inv.call {g' : Array GenState} {t' : Nat} {d' : Drawn} {ch : List Addr} (I : Inv X pins σ H s) (u : Un (frs X.stack) ch H H' s.heap h') (hok : HOk X.prog X.w H' h') (hg : AllBare g')
    (hch : ∀ b ∈ ch, (b ∈ X.ex ∨ X.s₀.heap.objs.size ≤ b) ∧ b ≠ X.env.locals ∧ (∀ x c, X.env.cells.lookup x = some c → c ≠ b) ∧ ∀ p ∈ X.pn ++ pins, p.1 ≠ b) (ht : 0 < t' := by first | assumption | exact Nat.succ_pos _ | (apply Inv.tk; assumption) | omega) :
    Inv X pins σ H' { s with heap := h', gens := g', drawn := d', toks := t' } := by
  obtain ⟨m, ⟨o, es, ep, ho, r⟩, _⟩ := id I.loc
  obtain ⟨sl, hL⟩ := u.any ho I.free fun z => (hch _ z).2.1 rfl
  exact I.step (ch := ch) hch (fun b o hL hb hc e n => u.keep b o e n (fun z => (List.mem_cons.mp (I.stkSub b z)).elim hL hb) hc) (fun b o _ _ hc e n => u.any e n hc) (fun b o hc e n => u.free b o e n hc) (fun b o hc e => u.there b o e hc) u.tups u.frzs u.tbls (fun m' hm => by
    obtain ⟨o', es', ep', ho', r'⟩ := hm
    rw [ho] at ho'; cases ho'
    exact ⟨_, es', ep', hL, r'⟩) hok hg ht
theorem Inv.turned {t' : Nat} {it : Addr} (I : Inv X pins σ H s) (k : ∀ b o, b ≠ it → s.heap.get? b = some o → h'.get? b = some o) (hn : H it = none) (hL : it ≠ X.env.locals)
    (h1 : it ∈ X.ex ∨ X.s₀.heap.objs.size ≤ it) (h2 : ∀ x c, X.env.cells.lookup x = some c → c ≠ it) (h3 : ∀ p ∈ X.pn ++ pins, p.1 ≠ it) (ht : 0 < t' := by first | assumption | exact Nat.succ_pos _ | (apply Inv.tk; assumption) | omega) : Inv X pins σ H { s with heap := h', toks := t' } := by
  have nit : ∀ b u, H b = some u → b ≠ it := fun b u e z => by rw [z, hn] at e; cases e
  refine I.step (g' := s.gens) (d' := s.drawn) (ch := [it]) (fun b hb => ?_) (fun b o _ _ hc e _ => k b o (fun z => hc (by simp [z])) e) (fun b o _ _ hc e _ => ⟨o.slots, k b o (fun z => hc (by simp [z])) e⟩) (fun _ _ _ _ n => n)
    (fun b o hc e => ⟨o, k b o (fun z => hc (by simp [z])) e⟩) (fun _ _ e => e) (fun _ _ _ e => e) (fun b ps e => ⟨#[], by rw [e]; simp⟩) (fun m hm => ?_) (fun b u e => ?_) I.bare
  · have e : b = it := by simpa using hb
    subst e
    exact ⟨h1, hL, h2, h3⟩
  · obtain ⟨o, es, ep, ho, r⟩ := hm
    exact ⟨o, es, ep, k _ o (Ne.symm hL) ho, r⟩
  · refine (I.hok b u e).stay (fun c v hc q => k c v ?_ q) (fun _ q => q) fun _ _ q => q
    rcases hc with z | z
    · rw [z]; exact nit b u e
    · exact nit c _ z
theorem Inv.tok (I : Inv X pins σ H s) (t : Nat) (ht : 0 < t := by first | assumption | exact Nat.succ_pos _ | (apply Inv.tk; assumption) | omega) : Inv X pins σ H { s with toks := t } := I.un (h' := s.heap) (t' := t) Un.refl I.hok ht
theorem Inv.kept {t' : Nat} (I : Inv X pins σ H s) (k : ∀ b u, s.heap.get? b = some u → h'.get? b = some u) (ht : 0 < t' := by first | assumption | exact Nat.succ_pos _ | (apply Inv.tk; assumption) | omega) : Inv X pins σ H { s with heap := h', toks := t' } := I.un (Un.kept k) (I.hok.kept k) ht
theorem Inv.laid {a : Addr} {o : HO} {t' : Nat} (I : Inv X pins σ H s) (k : ∀ b u, s.heap.get? b = some u → h'.get? b = some u) (hp : s.heap.objs.size ≤ a) (new : ObjOk X.prog X.w (upd H a o) h' a o) (ht : 0 < t' := by first | assumption | exact Nat.succ_pos _ | (apply Inv.tk; assumption) | omega) :
    Inv X pins σ (upd H a o) { s with heap := h', toks := t' } := I.un (Un.laid k hp (I.hok.fresh hp)) (I.hok.laid k hp new) ht
theorem Inv.write {x e : Addr} {o : HO} {t' : Nat} (I : Inv X pins σ H s) (mu : Mut (H x)) (he : e = x ∨ H e = some (.own x)) (k : ∀ b u, b ≠ e → s.heap.get? b = some u → h'.get? b = some u) (heo : ∃ u, h'.get? e = some u)
    (new : ObjOk X.prog X.w (upd H x o) h' x o) (ht : 0 < t' := by first | assumption | exact Nat.succ_pos _ | (apply Inv.tk; assumption) | omega) : Inv X pins σ (upd H x o) { s with heap := h', toks := t' } := I.un (Un.write mu he k heo) (I.hok.write mu he k heo new) ht
theorem Inv.weak {σ' : List (Option V)} (I : Inv X pins σ H s) (hl : σ'.length = σ.length) (w : ∀ (i : Nat) v, σ'[i]? = some (some v) → σ[i]? = some (some v)) : Inv X pins σ' H s :=
  ⟨I.ok, I.os, I.bare, I.base, let ⟨m, hn, hl'⟩ := I.loc; ⟨m, hn, fun i x v e1 e2 e3 => hl' i x v e1 (w i v e2) e3⟩, I.cell, I.free, I.freeC, I.pin, I.hok, hl.trans I.len, I.tk⟩
theorem Inv.pins_of {pins' : List (Addr × Obj)} (I : Inv X pins σ H s) (h : ∀ p ∈ pins', s.heap.get? p.1 = some p.2 ∧ H p.1 = none ∧ p.1 ≠ X.env.locals ∧ p.1 ∉ X.fs ∧ ∀ v, p.2.data ≠ .cell v) : Inv X pins' σ H s :=
  ⟨I.ok, I.os, I.bare, I.base, I.loc, I.cell, I.free, I.freeC, fun p hp => (List.mem_append.mp hp).elim (fun z => I.pin p (List.mem_append_left _ z)) (h p), I.hok, I.len, I.tk⟩

theorem nodup_ix {N : List Str} (hN : N.Nodup) {i j : Nat} {x : Str} (a : N[i]? = some x) (b : N[j]? = some x) : i = j := by
  obtain ⟨h1, e1⟩ := List.getElem?_eq_some_iff.mp a
  obtain ⟨h2, e2⟩ := List.getElem?_eq_some_iff.mp b
  exact (List.getElem_inj hN).mp (e1.trans e2.symm)

theorem store_ok2 {M : Model} {A : Around} {E : Value → Shared → Prop} {i : Nat} {x : Str} {v : V} {u : Value} {Q : Unit → Shared → Prop} (I : Inv X pins σ H s) (hN : X.N.Nodup) (hi : X.N[i]? = some x) (hx : Loc X.env.scope x) (r : RelV v u)
    (h : ∀ s', Inv X pins (σ.set i (some v)) H s' → (∃ a, Heap.SameBut a s.heap s'.heap ∧ (a = X.env.locals ∨ X.env.cells.lookup x = some a)) → Q () s') (hf : X.fn x = true ∨ X.env.scope.names.lookup x = some .local := by first | exact .inl rfl | exact .inr rfl | assumption) : wpAny M A (storeName X.env x u) Q E s := by
  obtain ⟨m, hn, hl⟩ := id I.loc
  have hcls : (X.env.scope.kind == .class || (X.env.scope.kind == .module && X.env.locals != X.env.globals)) = false := by rw [I.ok.kind]; rfl
  have hiσ : i < σ.length := by rw [I.len]; exact (List.getElem?_eq_some_iff.mp hi).1
  have cne := I.cne
  have tracked : ∀ {a : Addr} {h' : Heap}, (∃ o, s.heap.get? a = some o ∧ H a = none) → Heap.SameBut a s.heap h' → HOk X.prog X.w H h' := fun {a h'} ha hs b ob e => by
    obtain ⟨_, _, hfree⟩ := ha
    refine (I.hok b ob e).stay (fun c w' hc q => (hs.2 c ?_).trans q) (fun _ q => q) fun _ _ q => q
    rintro rfl
    rcases hc with rfl | hc
    · rw [hfree] at e; cases e
    · rw [hfree] at hc; cases hc
  rcases hx with hk | hk
  · refine wpAny_storeName_local hk hn (fun h' hn' hs => ?_) hcls
    obtain ⟨oL, _, _, hoL, _⟩ := id hn
    refine h _ ⟨I.ok, I.os, I.bare, ⟨fun b o e n hb hx => ?_, fun b o e n hb hx => ?_, I.base.free, fun b o e hx => ?_, I.base.tups, I.base.frzs, I.base.tbls⟩, ⟨_, hn', fun j y v' e1 e2 e3 => ?_⟩, fun y c e => ?_, I.free, I.freeC, fun p hp => ?_, tracked ⟨oL, hoL, I.free⟩ hs, by simpa using I.len, (by first | exact Nat.succ_pos _ | exact I.tk)⟩ ⟨_, hs, .inl rfl⟩
    · exact (hs.2 b (Nat.ne_of_lt (Nat.lt_of_lt_of_le (Heap.lt_size e) I.ok.above))).trans (I.base.keep b o e n hb hx)
    · obtain ⟨sl, e1⟩ := I.base.slot b o e n hb hx
      exact ⟨sl, (hs.2 b (Nat.ne_of_lt (Nat.lt_of_lt_of_le (Heap.lt_size e) I.ok.above))).trans e1⟩
    · obtain ⟨o', e1⟩ := I.base.there b o e hx
      exact ⟨o', (hs.2 b (Nat.ne_of_lt (Nat.lt_of_lt_of_le (Heap.lt_size e) I.ok.above))).trans e1⟩
    · by_cases hj : j = i
      · subst hj
        rw [hi] at e1; cases e1
        rw [List.getElem?_set_self hiσ] at e2
        cases e2
        exact ⟨u, r, .inl ⟨hk, by simp⟩⟩
      · rw [List.getElem?_set_ne (Ne.symm hj)] at e2
        obtain ⟨u', r', q⟩ := hl j y v' e1 e2 e3
        refine ⟨u', r', ?_⟩
        rcases q with ⟨k, e⟩ | ⟨k, c, e, z⟩
        · refine .inl ⟨k, ?_⟩
          have : y ≠ x := fun e => hj (nodup_ix hN e1 (e ▸ hi))
          simp [this, e]
        · exact .inr ⟨k, c, e, z.sameBut hs (cne y c e)⟩
    · obtain ⟨w', z⟩ := I.cell y c e
      exact ⟨w', z.sameBut hs (cne y c e)⟩
    · obtain ⟨e, n, ne, nf, d⟩ := I.pin p hp
      exact ⟨(hs.2 p.1 ne).trans e, n, ne, nf, d⟩
  · have hfn : X.fn x = true := by
      rcases hf with z | z
      · exact z
      · rw [z] at hk; cases hk
    obtain ⟨c, hc⟩ := I.ok.has x (.inl hk)
    obtain ⟨w', z⟩ := I.cell x c hc
    refine wpAny_storeName_cell I.ok.kind hk hc z (fun h' hc' hs => ?_)
    obtain ⟨oc, hoc, hocd⟩ := id z
    refine h { s with heap := h' } ⟨I.ok, I.os, I.bare, ⟨fun b o e n hb hx => ?_, fun b o e n hb hx => ?_, I.base.free, fun b o e hx => ?_, I.base.tups, I.base.frzs, I.base.tbls⟩, ⟨m, hn.sameBut hs (Ne.symm (cne x c hc)), fun j y v' e1 e2 e3 => ?_⟩, fun y c' e => ?_, I.free, I.freeC, fun p hp => ?_, tracked ⟨oc, hoc, I.freeC x c hc⟩ hs, by simpa using I.len, I.tk⟩ ⟨c, hs, .inr hc⟩
    · exact (hs.2 b (Nat.ne_of_lt (Nat.lt_of_lt_of_le (Heap.lt_size e) (I.ok.cab x c hfn hc)))).trans (I.base.keep b o e n hb hx)
    · obtain ⟨sl, e1⟩ := I.base.slot b o e n hb hx
      exact ⟨sl, (hs.2 b (Nat.ne_of_lt (Nat.lt_of_lt_of_le (Heap.lt_size e) (I.ok.cab x c hfn hc)))).trans e1⟩
    · obtain ⟨o', e1⟩ := I.base.there b o e hx
      exact ⟨o', (hs.2 b (Nat.ne_of_lt (Nat.lt_of_lt_of_le (Heap.lt_size e) (I.ok.cab x c hfn hc)))).trans e1⟩
    · by_cases hj : j = i
      · subst hj
        rw [hi] at e1; cases e1
        rw [List.getElem?_set_self hiσ] at e2
        cases e2
        exact ⟨u, r, .inr ⟨.inl hk, c, hc, hc'⟩⟩
      · rw [List.getElem?_set_ne (Ne.symm hj)] at e2
        obtain ⟨u', r', q⟩ := hl j y v' e1 e2 e3
        refine ⟨u', r', ?_⟩
        rcases q with q | ⟨k, c', e, z'⟩
        · exact .inl q
        · refine .inr ⟨k, c', e, z'.sameBut hs ?_⟩
          rintro rfl
          exact hj (nodup_ix hN e1 (I.ok.inj _ _ _ e hc ▸ hi))
    · by_cases hcc : c' = c
      · subst hcc; exact ⟨_, hc'⟩
      · obtain ⟨w2, z2⟩ := I.cell y c' e
        exact ⟨w2, z2.sameBut hs hcc⟩
    · obtain ⟨e, n, ne, nf, d⟩ := I.pin p hp
      refine ⟨(hs.2 p.1 ?_).trans e, n, ne, nf, d⟩
      intro q
      rw [q, hoc] at e
      have q' : oc = p.2 := Option.some.inj e
      exact d w' (by rw [← q']; exact hocd)
theorem store_ok {M : Model} {A : Around} {E : Value → Shared → Prop} {i : Nat} {x : Str} {v : V} {u : Value} {Q : Unit → Shared → Prop} (I : Inv X pins σ H s) (hN : X.N.Nodup) (hi : X.N[i]? = some x) (hx : Loc X.env.scope x) (r : RelV v u)
    (h : ∀ s', Inv X pins (σ.set i (some v)) H s' → Q () s') (hf : X.fn x = true ∨ X.env.scope.names.lookup x = some .local := by first | exact .inl rfl | exact .inr rfl | assumption) : wpAny M A (storeName X.env x u) Q E s :=
  store_ok2 I hN hi hx r (fun s' I' _ => h s' I') hf
theorem Inv.call' {s' : Shared} {ch : List Addr} (I : Inv X pins σ H s) (ho : s'.os = s.os) (u : Un (frs X.stack) ch H H' s.heap s'.heap) (hok : HOk X.prog X.w H' s'.heap) (hg : AllBare s'.gens)
    (hch : ∀ b ∈ ch, (b ∈ X.ex ∨ X.s₀.heap.objs.size ≤ b) ∧ b ≠ X.env.locals ∧ (∀ x c, X.env.cells.lookup x = some c → c ≠ b) ∧ ∀ p ∈ X.pn ++ pins, p.1 ≠ b) (ht : 0 < s'.toks := by first | assumption | exact Nat.succ_pos _ | (apply Inv.tk; assumption) | omega) : Inv X pins σ H' s' := by
  obtain ⟨h', g', d', t', o'⟩ := s'
  have e : o' = s.os := ho
  subst e
  exact I.call (g' := g') (t' := t') (d' := d') u hok hg hch ht
end

abbrev XK := Value → Option Addr → Hp → Prop
abbrev St := List (Option V)
abbrev VK := V → Hp → Prop
abbrev TE := St → Hp → VK → Prop
abbrev TT := St → Hp → (Bool → Hp → Prop) → Prop
abbrev TA := St → Hp → (List V → Hp → Prop) → Prop
structure Ends where
  nx : St → Hp → Prop
  rt : VK
  bk : St → Hp → Prop := fun _ _ => False
  ct : St → Hp → Prop := fun _ _ => False
abbrev TS := Ends → St → Hp → Prop

def EP (X : Cx) (pins : List (Addr × Obj)) (σ : St) (Q : VK) (u : Value) (s' : Shared) : Prop := ∃ v H', Inv X pins σ H' s' ∧ RelV v u ∧ Q v H'
def TP (X : Cx) (pins : List (Addr × Obj)) (σ : St) (Q : Bool → Hp → Prop) (b : Bool) (s' : Shared) : Prop := ∃ H', Inv X pins σ H' s' ∧ Q b H'
def AP (X : Cx) (pins : List (Addr × Obj)) (σ : St) (Q : List V → Hp → Prop) (us : List Value) (s' : Shared) : Prop := ∃ vs H', Inv X pins σ H' s' ∧ Vals vs us ∧ Q vs H'
def SP (X : Cx) (pins : List (Addr × Obj)) (D : Ends) (f : Flow) (s' : Shared) : Prop :=
  match f with
  | .next => ∃ σ' H', Inv X pins σ' H' s' ∧ D.nx σ' H'
  | .brk => ∃ σ' H', Inv X pins σ' H' s' ∧ D.bk σ' H'
  | .cont => ∃ σ' H', Inv X pins σ' H' s' ∧ D.ct σ' H'
  | .ret u => ∃ v σ' H', Inv X pins σ' H' s' ∧ RelV v u ∧ D.rt v H'

def PE (X : Cx) (e : Expr) (t : TE) : Prop :=
  ∀ (pins : List (Addr × Obj)) (s : Shared) (σ : St) (H : Hp) (Q : VK), Inv X pins σ H s → t σ H Q → wpAny (model X.prog X.w) X.A (eval e X.env) (EP X pins σ Q) X.xe s
def PT (X : Cx) (e : Expr) (t : TT) : Prop :=
  ∀ (pins : List (Addr × Obj)) (s : Shared) (σ : St) (H : Hp) (Q : Bool → Hp → Prop), Inv X pins σ H s → t σ H Q → wpAny (model X.prog X.w) X.A (isTrue e X.env (eval e X.env)) (TP X pins σ Q) X.xe s
def PW (X : Cx) (e : Expr) (t : TT) : Prop :=
  ∀ (whole : Sem Value) (pins : List (Addr × Obj)) (s : Shared) (σ : St) (H : Hp) (Q : Bool → Hp → Prop), Inv X pins σ H s → t σ H Q → wpAny (model X.prog X.w) X.A (isTrue e X.env whole) (TP X pins σ Q) X.xe s
theorem PW.pt {X : Cx} {e : Expr} {t : TT} (h : PW X e t) : PT X e t := h _
def PA (X : Cx) (es : List Expr) (t : TA) : Prop :=
  ∀ (pos : Pos) (pins : List (Addr × Obj)) (s : Shared) (σ : St) (H : Hp) (Q : List V → Hp → Prop), Inv X pins σ H s → t σ H Q → wpAny (model X.prog X.w) X.A (spliced (backTo pos (starEach es X.env))) (AP X pins σ Q) X.xe s
def PS (X : Cx) (st : Stmt) (t : TS) : Prop :=
  ∀ (pins : List (Addr × Obj)) (s : Shared) (σ : St) (H : Hp) (D : Ends), Inv X pins σ H s → t D σ H → wpAny (model X.prog X.w) X.A (exec st X.env) (SP X pins D) X.xe s
def PSs (X : Cx) (st : List Stmt) (t : TS) : Prop :=
  ∀ (pins : List (Addr × Obj)) (s : Shared) (σ : St) (H : Hp) (D : Ends), Inv X pins σ H s → t D σ H → wpAny (model X.prog X.w) X.A (execs st X.env) (SP X pins D) X.xe s
theorem thn {α : Type} {t : Sem α} {Q Q' : α → Shared → Prop} {M : Model} {A : Around} {E : Value → Shared → Prop} {s : Shared} (h : wpAny M A t Q E s) (hQ : ∀ a s, Q a s → Q' a s) : wpAny M A t Q' E s := wpAny_mono h hQ fun _ _ x => x
theorem tokQ {α : Type} {t : Sem α} {Q : α → Shared → Prop} {M : Model} {A : Around} {E : Value → Shared → Prop} {s : Shared} (h0 : 0 < s.toks) (h : wpAny M A t (fun a s' => 0 < s'.toks → Q a s') E s) : wpAny M A t Q E s :=
  wpAny_mono (wpAny_toks_of (n := 1) h0 h) (fun _ _ z => z.2 z.1) fun _ _ z => z.2
end L2

namespace L2
open PySem PySem.Spec PyProof.Rows
section
variable {X : Cx}

def tVar (i : Nat) : TE := fun σ H Q => ∃ v, σ[i]? = some (some v) ∧ Q v H
def tC (v : V) : TE := fun _ H Q => Q v H
theorem pe_var {i : Nat} {x : Str} {pos : Pos} (hN : X.N[i]? = some x) (hv : Vis X.env.scope x) (hd : (x == ("__debug__" : Str)) = false := by decide) (hcd : (x == ("__classdict__" : Str)) = false := by decide) : PE X (.Name x pos) (tVar i) := by
  intro pins s σ H Q I h
  obtain ⟨v, e, h⟩ := h
  obtain ⟨m, hn, hl⟩ := I.loc
  obtain ⟨u, r, l⟩ := hl i x v hN e hv
  have fin : EP X pins σ Q u s := ⟨v, H, I, r, h⟩
  rcases l with ⟨hk, hm⟩ | ⟨hk, c, hc, hcell⟩
  · exact wpAny_Name (wpAny_loadName_local I.ok.kind hk hn hm fin) hd
  · rcases hk with hk | hk
    · exact wpAny_Name (wpAny_loadName_cell I.ok.kind hk hc hcell fin) hd
    · exact wpAny_Name (wpAny_loadName_free I.ok.kind hk hc hcell fin hcd) hd
theorem pe_int {i j pos} : PE X (.Constant (.int i) j pos) (tC (.int i)) := fun _ _ _ H _ I h => wpAny_Constant_int ⟨.int i, H, I.tok _, ⟨_, rfl⟩, h⟩
theorem pe_bl {b j pos} : PE X (.Constant (.bool b) j pos) (tC (.bl b)) := fun _ _ _ H _ I h => Constant_bool ⟨.bl b, H, I, rfl, h⟩
theorem pe_non {j pos} : PE X (.Constant .none j pos) (tC .non) := fun _ _ _ H _ I h => Constant_none ⟨.non, H, I, rfl, h⟩
theorem pe_str {x j pos} : PE X (.Constant (.str x) j pos) (tC (.str x)) := fun _ _ _ H _ I h => Calls.Constant_str ⟨.str x, H, I.tok _, ⟨_, rfl⟩, h⟩

def Gl (X : Cx) (x : Str) : Prop := X.env.kindOf x = some .globalImplicit
theorem ld_glob {E : Value → Shared → Prop} {pins : List (Addr × Obj)} {s : Shared} {σ : St} {H : Hp} {x : Str} {u : Value} {pos : Pos} {Q : Value → Shared → Prop} (I : Inv X pins σ H s) (hg : Gl X x) (hm : X.mg x = some u) (h : Q u s)
    (hd : (x == ("__debug__" : Str)) = false := by decide) : wpAny (model X.prog X.w) X.A (eval (.Name x pos) X.env) Q E s :=
  Calls.Name_function_global I.ok.kind hg (Calls.loadGlobal_global (by rw [I.ok.glob]; exact I.mod.glob.keeps I.bk) hm h) hd
theorem ld_blt {E : Value → Shared → Prop} {pins : List (Addr × Obj)} {s : Shared} {σ : St} {H : Hp} {x : Str} {u : Value} {pos : Pos} {Q : Value → Shared → Prop} (I : Inv X pins σ H s) (hg : Gl X x) (hm : X.mg x = none) (hv : bootBuiltins x = some u) (h : Q u s)
    (hn : x ≠ "__name__" := by decide) (hd : (x == ("__debug__" : Str)) = false := by decide) : wpAny (model X.prog X.w) X.A (eval (.Name x pos) X.env) Q E s := by
  obtain ⟨mb, h1, h2⟩ := I.mod.blt
  exact Calls.Name_function_global I.ok.kind hg (Calls.loadGlobal_builtin (by rw [I.ok.glob]; exact I.mod.glob.keeps I.bk) hm (by rw [I.ok.blt]; exact h1.keeps I.bk) ((h2 x hn).trans hv) h) hd
theorem pe_glob {x : Str} {v : V} {u : Value} {pos : Pos} (hg : Gl X x) (hm : X.mg x = some u) (r : RelV v u) (hd : (x == ("__debug__" : Str)) = false := by decide) : PE X (.Name x pos) (tC v) :=
  fun _ _ _ H _ I h => ld_glob I hg hm ⟨v, H, I, r, h⟩ hd
theorem pe_bltn {x : Str} {v : V} {u : Value} {pos : Pos} (hg : Gl X x) (hm : X.mg x = none) (hv : bootBuiltins x = some u) (r : RelV v u) (hn : x ≠ "__name__" := by decide) (hd : (x == ("__debug__" : Str)) = false := by decide) : PE X (.Name x pos) (tC v) :=
  fun _ _ _ H _ I h => ld_blt I hg hm hv ⟨v, H, I, r, h⟩ hn hd

variable {a b : Expr} {ta tb : TE} {pos : Pos}
def PC (X : Cx) (op : CmpOp) (a b : Expr) (t : TE) : Prop :=
  ∀ (pins : List (Addr × Obj)) (s : Shared) (σ : St) (H : Hp) (Q : VK), Inv X pins σ H s → t σ H Q →
    wpAny (model X.prog X.w) X.A (eval a X.env) (fun v s₁ => wpAny (model X.prog X.w) X.A (eval b X.env) (fun u s₂ => wpAny (model X.prog X.w) X.A (compareOp op v u) (EP X pins σ Q) X.xe s₂) X.xe s₁) X.xe s
theorem nobehind (b : Expr) {op : CmpOp} (h : op ≠ .In) (h2 : op ≠ .NotIn) : behindInMarks op b = false := by
  have e1 : (op == CmpOp.In) = false := by cases op <;> first | rfl | exact absurd rfl h
  have e2 : (op == CmpOp.NotIn) = false := by cases op <;> first | rfl | exact absurd rfl h2
  cases b <;> simp [behindInMarks, e1, e2]
def tB (t : TE) : TT := fun σ H Q => t σ H fun x H1 => ∃ c, x = .bl c ∧ Q c H1
theorem pt_cmp {op : CmpOp} {t : TE} (h : PC X op a b t) (h1 : behindInMarks op b = false := by first | exact nobehind _ (by decide) (by decide) | rfl) : PT X (.Compare a [op] [b] pos) (tB t) := by
  intro pins s σ H Q I hw
  refine wpAny_isTrue_Compare1 (thn (h pins s σ H _ I hw) fun v s1 h1 => thn h1 fun u s2 h2 => thn h2 fun c s3 ⟨x, H1, I1, r1, q1⟩ => ?_) h1
  obtain ⟨d, rfl, q⟩ := q1
  cases r1
  exact wpAny_truthy_bool ⟨H1, I1, q⟩
theorem pt_val {e : Expr} {t : TE} (h : PE X e t) (he : ∀ whole, isTrue e X.env whole = (do let v ← whole; standAt e.pos; holding [v] (truthy v)) := by intro _; rfl) : PT X e (tB t) := by
  intro pins s σ H Q I hw
  refine isTrue_plain (thn (h pins s σ H _ I hw) fun v s1 ⟨x, H1, I1, r1, q1⟩ => ?_) (he _)
  obtain ⟨d, rfl, q⟩ := q1
  cases r1
  exact wpAny_truthy_bool ⟨H1, I1, q⟩

variable {tA tB' : TT} {rest : List Expr}
def tAnd (t u : TT) : TT := fun σ H Q => t σ H fun c H1 => if c = true then u σ H1 Q else Q false H1
def tOr (t u : TT) : TT := fun σ H Q => t σ H fun c H1 => if c = true then Q true H1 else u σ H1 Q
def tNot (t : TT) : TT := fun σ H Q => t σ H fun c H1 => Q (!c) H1
theorem pw_and1 (ha : PT X a tA) : PW X (.BoolOp .And [a] pos) tA := by
  intro wh pins s σ H Q I h
  refine isTrue_and (thn (ha pins s σ H Q I h) fun c s1 e => ?_)
  cases c with
  | true => exact isTrue_and_nil e
  | false => exact e
theorem pw_or1 (ha : PT X a tA) : PW X (.BoolOp .Or [a] pos) tA := by
  intro wh pins s σ H Q I h
  refine isTrue_or (thn (ha pins s σ H Q I h) fun c s1 e => ?_)
  cases c with
  | false => exact isTrue_or_nil e
  | true => exact e
theorem pw_and (ha : PT X a tA) (hb : PW X (.BoolOp .And (b :: rest) pos) tB') : PW X (.BoolOp .And (a :: b :: rest) pos) (tAnd tA tB') := by
  intro wh pins s σ H Q I h
  refine isTrue_and (thn (ha pins s σ H _ I h) fun c s1 ⟨H1, I1, q1⟩ => ?_)
  cases c with
  | true => exact hb wh pins s1 σ H1 Q I1 q1
  | false => exact ⟨H1, I1, q1⟩
theorem pw_or (ha : PT X a tA) (hb : PW X (.BoolOp .Or (b :: rest) pos) tB') : PW X (.BoolOp .Or (a :: b :: rest) pos) (tOr tA tB') := by
  intro wh pins s σ H Q I h
  refine isTrue_or (thn (ha pins s σ H _ I h) fun c s1 ⟨H1, I1, q1⟩ => ?_)
  cases c with
  | true => exact ⟨H1, I1, q1⟩
  | false => exact hb wh pins s1 σ H1 Q I1 q1
theorem pt_not (ha : PT X a tA) : PT X (.UnaryOp .Not a pos) (tNot tA) := by
  intro pins s σ H Q I h
  exact isTrue_not (ha pins s σ H (fun c H1 => Q (!c) H1) I h)
def tAndV (ta tb : TE) : TE := fun σ H Q => ta σ H fun x H1 => ∃ c, x = .bl c ∧ if c = true then tb σ H1 Q else Q (.bl false) H1
theorem pe_one {op} {t : TE} (h : PE X a t) : PE X (.BoolOp op [a] pos) t := fun pins s σ H Q I hw => BoolOp_one (h pins s σ H Q I hw)
theorem pe_and (ha : PE X a ta) (hb : PE X (.BoolOp .And (b :: rest) pos) tb) : PE X (.BoolOp .And (a :: b :: rest) pos) (tAndV ta tb) := by
  intro pins s σ H Q I h
  refine BoolOp_and (thn (ha pins s σ H _ I h) fun v s1 ⟨x, H1, I1, r1, q1⟩ => ?_)
  obtain ⟨c, rfl, q1⟩ := q1
  cases r1
  refine wpAny_truthy_bool ?_
  cases c with
  | true => exact hb pins s1 σ H1 Q I1 q1
  | false => exact ⟨.bl false, H1, I1, rfl, q1⟩
def tIf (t : TT) (ta tb : TE) : TE := fun σ H Q => t σ H fun c H1 => if c = true then ta σ H1 Q else tb σ H1 Q
end
end L2

namespace L2
open PySem PySem.Spec PyProof.Rows

def SqL (K : PySem.W.Frag) (H : Hp) (a : Addr) (xs : List V) : Prop :=
  Rd H a (.lst xs) ∨
    ∃ (o : Obj) (its : Array Value) (n : Nat), K.lookup a = some o ∧ o.cls = .type "list" ∧ o.dict = none ∧ o.data = .seq its n ∧ its.size ≤ sizeLine ∧ Vals xs its.toList
def SqT (K : PySem.W.Frag) (H : Hp) (a : Addr) (xs : List V) : Prop :=
  Rd H a (.tup xs) ∨
    ∃ (o : Obj) (its : Array Value) (n : Nat), K.lookup a = some o ∧ o.cls = .type "tuple" ∧ o.data = .seq its n ∧ its.size ≤ sizeLine ∧ Vals xs its.toList
def absV : Value → Option V
  | .none => some .non
  | .bool b => some (.bl b)
  | .int i _ => some (.int i)
  | .str x _ => some (.str x)
  | .bytes b _ => some (.byt b)
  | .float b _ => some (.flt b)
  | .ref a => some (.ref a)
  | .type n => some (.ty n)
  | _ => none
theorem RelV.abs {x : V} {u : Value} (r : RelV x u) : absV u = some x := by
  cases x with
  | non => cases r; rfl
  | bl _ => cases r; rfl
  | int _ => obtain ⟨t, rfl⟩ := r; rfl
  | str _ => obtain ⟨t, rfl⟩ := r; rfl
  | byt _ => obtain ⟨t, rfl⟩ := r; rfl
  | flt _ => obtain ⟨t, rfl⟩ := r; rfl
  | ref _ => cases r; rfl
  | ty _ => cases r; rfl
theorem RelV.inj {x y : V} {u : Value} (r : RelV x u) (q : RelV y u) : x = y := Option.some.inj (r.abs.symm.trans q.abs)
theorem Vals.inj : ∀ {xs ys : List V} {us : List Value}, Vals xs us → Vals ys us → xs = ys
  | _, _, _, .nil, .nil => rfl
  | _, _, _, .cons r t, .cons r' t' => by rw [r.inj r', Vals.inj t t']
section
variable {X : Cx} {pins : List (Addr × Obj)} {σ : St} {H : Hp} {s : Shared} {a : Addr} {xs ys : List V}
theorem SqL.of {K : PySem.W.Frag} (h : H a = some (.lst xs)) : SqL K H a xs := .inl (.inl h)
theorem SqT.of {K : PySem.W.Frag} (h : H a = some (.tup xs)) : SqT K H a xs := .inl (.inl h)
theorem Inv.list (I : Inv X pins σ H s) (h : SqL X.K H a xs) : ∃ its : List Value, Vals xs its ∧ PlainL s.heap a its.toArray ∧ xs.length ≤ sizeLine := by
  rcases h with h | ⟨o, its, n, hk, hc, hd, hs, hz, r⟩
  · obtain ⟨z, its, n, r, e⟩ := h.ok I.hok
    exact ⟨its, r, ⟨_, n, e, rfl, rfl, rfl⟩, z⟩
  · refine ⟨its.toList, r, ⟨o, n, I.kIn a o hk, hc, hd, by simpa using hs⟩, ?_⟩
    have e := r.length
    simp only [Array.length_toList] at e
    omega
theorem Inv.tuple (I : Inv X pins σ H s) (h : SqT X.K H a xs) : ∃ its : List Value, Vals xs its ∧ IsTup s.heap a its.toArray ∧ xs.length ≤ sizeLine := by
  rcases h with h | ⟨o, its, n, hk, hc, hs, hz, r⟩
  · obtain ⟨z, its, r, p⟩ := h.ok I.hok
    exact ⟨its, r, p, z⟩
  · refine ⟨its.toList, r, ⟨o, I.kIn a o hk, hc, n, by simpa using hs⟩, ?_⟩
    have e := r.length
    simp only [Array.length_toList] at e
    omega
theorem Inv.list_inj (I : Inv X pins σ H s) (h : SqL X.K H a xs) (h' : SqL X.K H a ys) : xs = ys := by
  obtain ⟨its, r, ⟨o, n, e, _, _, d⟩, _⟩ := I.list h
  obtain ⟨its', r', ⟨o', n', e', _, _, d'⟩, _⟩ := I.list h'
  rw [e] at e'; cases e'
  rw [d] at d'
  injection d' with d1 _
  have : its = its' := by simpa using congrArg Array.toList d1
  subst this
  exact r.inj r'
theorem Inv.tuple_inj (I : Inv X pins σ H s) (h : SqT X.K H a xs) (h' : SqT X.K H a ys) : xs = ys := by
  obtain ⟨its, r, ⟨o, e, _, n, d⟩, _⟩ := I.tuple h
  obtain ⟨its', r', ⟨o', e', _, n', d'⟩, _⟩ := I.tuple h'
  rw [e] at e'; cases e'
  rw [d] at d'
  injection d' with d1 _
  have : its = its' := by simpa using congrArg Array.toList d1
  subst this
  exact r.inj r'
end

abbrev Cx.wish (X : Cx) (E : Value → Shared → Prop) : Cx := { X with xe := E }
abbrev Cx.nox (X : Cx) : Cx := X.wish fun _ _ => False
theorem Cx.Ok.wish {X : Cx} (ok : X.Ok) (E : Value → Shared → Prop) : (X.wish E).Ok :=
  ⟨ok.mod, ok.kind, ok.glob, ok.blt, ok.above, ok.inj, ok.has, ok.cab, ok.hd, ok.frames, ok.stk, ok.exf, ok.bs, ok.bsz, ok.noex, ok.exfs, ok.funs, ok.frf⟩
theorem Cx.Ok.unwish {X : Cx} {E : Value → Shared → Prop} (ok : (X.wish E).Ok) : X.Ok :=
  ⟨ok.mod, ok.kind, ok.glob, ok.blt, ok.above, ok.inj, ok.has, ok.cab, ok.hd, ok.frames, ok.stk, ok.exf, ok.bs, ok.bsz, ok.noex, ok.exfs, ok.funs, ok.frf⟩
section
variable {X : Cx} {pins : List (Addr × Obj)} {σ : St} {H : Hp} {s : Shared} {E : Value → Shared → Prop}
theorem Inv.wish (I : Inv X pins σ H s) (E : Value → Shared → Prop) : Inv (X.wish E) pins σ H s := ⟨I.ok.wish E, I.os, I.bare, I.base, I.loc, I.cell, I.free, I.freeC, I.pin, I.hok, I.len, I.tk⟩
theorem Inv.unwish (I : Inv (X.wish E) pins σ H s) : Inv X pins σ H s := ⟨I.ok.unwish, I.os, I.bare, I.base, I.loc, I.cell, I.free, I.freeC, I.pin, I.hok, I.len, I.tk⟩
theorem SP.unwish {D : Ends} {f : Flow} {s' : Shared} (h : SP (X.wish E) pins D f s') : SP X pins D f s' := by
  cases f with
  | next => obtain ⟨σ', H', I, q⟩ := h; exact ⟨σ', H', I.unwish, q⟩
  | brk => obtain ⟨σ', H', I, q⟩ := h; exact ⟨σ', H', I.unwish, q⟩
  | cont => obtain ⟨σ', H', I, q⟩ := h; exact ⟨σ', H', I.unwish, q⟩
  | ret u => obtain ⟨v, σ', H', I, r, q⟩ := h; exact ⟨v, σ', H', I.unwish, r, q⟩
theorem PE.nox {e : Expr} {t : TE} (h : PE X.nox e t) : PE X e t := fun pins s σ H Q I hw =>
  wpAny_mono (h pins s σ H Q (I.wish _) hw) (fun _ _ ⟨v, H', I', r, q⟩ => ⟨v, H', I'.unwish, r, q⟩) fun _ _ z => False.elim z
theorem PT.nox {e : Expr} {t : TT} (h : PT X.nox e t) : PT X e t := fun pins s σ H Q I hw =>
  wpAny_mono (h pins s σ H Q (I.wish _) hw) (fun _ _ ⟨H', I', q⟩ => ⟨H', I'.unwish, q⟩) fun _ _ z => False.elim z
theorem PSs.nox {st : List Stmt} {t : TS} (h : PSs X.nox st t) : PSs X st t := fun pins s σ H D I hw =>
  wpAny_mono (h pins s σ H D (I.wish _) hw) (fun _ _ q => q.unwish) fun _ _ z => False.elim z
end

section
variable {X : Cx} {st : Stmt} {rest : List Stmt} {t u : TS} {e : Expr} {te : TE} {pos : Pos}
def tNext : TS := fun D σ H => D.nx σ H
def tSeq (t u : TS) : TS := fun D σ H => t { D with nx := u D } σ H
theorem pss_nil : PSs X [] tNext := fun _ _ σ H _ I h => wpAny_execs_nil ⟨σ, H, I, h⟩
theorem pss_cons (h1 : PS X st t) (h2 : PSs X rest u) : PSs X (st :: rest) (tSeq t u) := by
  intro pins s σ H D I h
  refine wpAny_execs_cons (thn (h1 pins s σ H { D with nx := u D } I h) fun f s1 q => ?_)
  cases f with
  | next =>
    obtain ⟨σ', H', I', q⟩ := q
    exact h2 pins s1 σ' H' D I' q
  | ret v => exact q
  | brk => exact q
  | cont => exact q
theorem pss_one (h1 : PS X st t) : PSs X [st] t := by
  intro pins s σ H D I h
  refine wpAny_execs_cons (thn (h1 pins s σ H D I h) fun f s1 q => ?_)
  cases f with
  | next => exact wpAny_execs_nil q
  | ret v => exact q
  | brk => exact q
  | cont => exact q
def tBreak : TS := fun D σ H => D.bk σ H
theorem Inv.quiet {pins : List (Addr × Obj)} {σ : St} {H : Hp} {s : Shared} (I : Inv X pins σ H s) : interactive X.env = false := by simp [interactive, I.ok.kind]
def tDrop (te : TE) : TS := fun D σ H => te σ H fun _ H1 => D.nx σ H1
theorem ps_expr (he : PE X e te) (hs : swapsWith e none pos.line X.env = pure false := by rfl) : PS X (.Expr e pos) (tDrop te) := by
  intro pins s σ H D I h
  exact wpAny_Expr_any (thn (he pins s σ H _ I h) fun v s1 ⟨x, H1, I1, r1, q1⟩ => ⟨σ, H1, I1, q1⟩) I.quiet hs
def tRet (te : TE) : TS := fun D σ H => te σ H D.rt
theorem ps_ret (he : PE X e te) : PS X (.Return (some e) pos) (tRet te) := by
  intro pins s σ H D I h
  exact wpAny_Return_some (thn (he pins s σ H _ I h) fun v s1 ⟨x, H1, I1, r1, q1⟩ => ⟨x, σ, H1, I1, r1, q1⟩)
def tRetN : TS := fun D _ H => D.rt .non H
def tIfS (c : TT) (t u : TS) : TS := fun D σ H => c σ H fun b H1 => if b = true then t D σ H1 else u D σ H1
theorem ps_if {c : Expr} {a b : List Stmt} {tc : TT} (hc : PT X c tc) (ha : PSs X a t) (hb : PSs X b u) : PS X (.If c a b pos) (tIfS tc t u) := by
  intro pins s σ H D I h
  refine wpAny_If (thn (hc pins s σ H _ I h) fun d s1 ⟨H1, I1, q1⟩ => ?_)
  cases d with
  | true => exact ha pins s1 σ H1 D I1 q1
  | false => exact hb pins s1 σ H1 D I1 q1
end

abbrev TG := V → St → Hp → (St → Hp → Prop) → Prop
abbrev TGs := List V → St → Hp → (St → Hp → Prop) → Prop
def PG (X : Cx) (target : Expr) (t : TG) : Prop :=
  ∀ (pins : List (Addr × Obj)) (s : Shared) (σ : St) (H : Hp) (v : V) (u : Value) (Q : St → Hp → Prop), Inv X pins σ H s → RelV v u → t v σ H Q →
    wpAny (model X.prog X.w) X.A (assign target X.env u) (fun _ s' => ∃ σ' H', Inv X pins σ' H' s' ∧ Q σ' H') X.xe s
def PGs (X : Cx) (ts : List Expr) (t : TGs) : Prop :=
  ∀ (pins : List (Addr × Obj)) (s : Shared) (σ : St) (H : Hp) (vs : List V) (us : List Value) (Q : St → Hp → Prop), Inv X pins σ H s → Vals vs us → t vs σ H Q →
    wpAny (model X.prog X.w) X.A (assignInOrder ((assignEach ts X.env).map (·.2)) us) (fun _ s' => ∃ σ' H', Inv X pins σ' H' s' ∧ Q σ' H') X.xe s
abbrev TSet := V → V → V → Hp → (Hp → Prop) → Prop
section
variable {X : Cx} {pos : Pos}
def gName (i : Nat) : TG := fun v σ H Q => Q (σ.set i (some v)) H
theorem pg_name {i : Nat} {x : Str} (hN : X.N.Nodup) (hi : X.N[i]? = some x) (hx : Loc X.env.scope x) (hf : X.fn x = true ∨ X.env.scope.names.lookup x = some .local := by first | exact .inl rfl | exact .inr rfl | assumption) : PG X (.Name x pos) (gName i) := by
  intro pins s σ H v u Q I r h
  exact wpAny_assign_Name (store_ok I hN hi hx r (fun s' I' => ⟨_, H, I', h⟩) hf)
def gNil : TGs := fun vs σ H Q => vs = [] ∧ Q σ H
def gCons (t : TG) (u : TGs) : TGs := fun vs σ H Q => ∃ v r, vs = v :: r ∧ t v σ H fun σ' H' => u r σ' H' Q
theorem pgs_nil : PGs X [] gNil := by
  intro pins s σ H vs us Q I r h
  obtain ⟨e, h⟩ := h
  subst e
  cases r
  exact assignInOrder_nil ⟨σ, H, I, h⟩
theorem pgs_cons {e : Expr} {es : List Expr} {t : TG} {u : TGs} (h1 : PG X e t) (h2 : PGs X es u)
    (hs : (assignEach (e :: es) X.env).map (·.2) = assign e X.env :: (assignEach es X.env).map (·.2) := by rfl) : PGs X (e :: es) (gCons t u) := by
  intro pins s σ H vs us Q I r h
  obtain ⟨v, vr, e1, h⟩ := h
  subst e1
  cases r with
  | cons r rr =>
    rw [hs]
    refine assignInOrder_cons (thn (h1 pins s σ H _ _ _ I r h) fun _ s1 ⟨σ1, H1, I1, q1⟩ => ?_)
    exact h2 pins s1 σ1 H1 _ _ Q I1 rr q1
def gTup (K : PySem.W.Frag) (n : Nat) (t : TGs) : TG := fun v σ H Q => ∃ a xs, v = .ref a ∧ SqT K H a xs ∧ xs.length = n ∧ t xs σ H Q
theorem pg_tup {es : List Expr} {k : Nat} {t : TGs} {n : Nat} (hc : X.calm = true) (h : PGs X es t)
    (hn : (assignEach es X.env).length = n := by rfl) (hst : (assignEach es X.env).findIdx? (·.1) = none := by rfl) : PG X (.Tuple es k pos) (gTup X.K n t) := by
  intro pins s σ H v u Q I r hw
  obtain ⟨a, xs, e1, hq, hl, hw⟩ := hw
  subst e1
  cases r
  obtain ⟨its, rv, ht, hz⟩ := I.tuple hq
  refine assign_Tuple_tuple (I.ok.hd hc) ht (by simp [hn, ← hl, rv.length]) hst fun h' hx => ?_
  have I1 : Inv X pins σ H { s with heap := h' } := I.kept (t' := s.toks) fun b o e => hx b o (Nat.ne_of_lt (Heap.lt_size e)) e
  exact h pins _ σ H xs _ Q I1 (by simpa using rv) hw
def gSub (to ti : TE) (t : TSet) : TG := fun v σ H Q => to σ H fun o H1 => ti σ H1 fun i H2 => t o i v H2 fun H3 => Q σ H3
def tAsg (te : TE) (g : TG) : TS := fun D σ H => te σ H fun x H1 => g x σ H1 D.nx
theorem ps_set {i : Nat} {x : Str} {e : Expr} {te : TE} {pos' : Pos} (hN : X.N.Nodup) (hi : X.N[i]? = some x) (hx : Loc X.env.scope x) (he : PE X e te) (hs : swapsWith e (some (.Name x pos')) pos.line X.env = pure false := by rfl) (hf : X.fn x = true ∨ X.env.scope.names.lookup x = some .local := by first | exact .inl rfl | exact .inr rfl | assumption) :
    PS X (.Assign [.Name x pos'] e pos) (tAsg te (gName i)) := by
  intro pins s σ H D I h
  refine wpAny_Assign_Name (thn (he pins s σ H _ I h) fun v s1 ⟨y, H1, I1, r1, q1⟩ => ?_) hs
  exact store_ok I1 hN hi hx r1 (fun s2 I2 => ⟨_, H1, I2, q1⟩) hf
def tPar (i j : Nat) (ta : TA) : TS := fun D σ H => ta σ H fun vs H1 => ∃ v w, vs = [v, w] ∧ D.nx ((σ.set i (some v)).set j (some w)) H1
end

section
variable {X : Cx} {pos : Pos}
def tWhile (c : TT) (tb : TS) : TS := fun D σ H => ∃ W : Nat → St → Hp → Prop, (∃ m, W m σ H) ∧ ∀ m σ H, W m σ H →
  c σ H fun b H1 => if b = true then ∃ N : St → Hp → Prop, (∀ σ' H', N σ' H' → ∃ m', m' < m ∧ W m' σ' H') ∧ tb { D with nx := N, ct := N, bk := D.nx } σ H1 else D.nx σ H1
theorem ps_while {c : Expr} {body : List Stmt} {tc : TT} {tb : TS} (hp : PassesOwn (model X.prog X.w) X.A X.env X.xe) (hc : PT X c tc) (hb : PSs X body tb) : PS X (.While c body [] pos) (tWhile tc tb) := by
  intro pins s σ H D I h
  obtain ⟨W, ⟨m0, w0⟩, turn⟩ := h
  refine wpAny_While (codeAny_whileLoop (fun n s' => ∃ σ' H', Inv X pins σ' H' s' ∧ W n σ' H') ?_ m0 ⟨σ, H, I, w0⟩)
  rintro n s1 ⟨σ1, H1, I1, w1⟩
  refine wpAny_passesOwn hp (thn (hc pins s1 σ1 H1 _ I1 (turn n σ1 H1 w1)) fun b s2 ⟨H2, I2, q2⟩ => ?_)
  cases b with
  | true =>
    obtain ⟨N, hN, q2⟩ := q2
    rw [if_pos rfl]
    refine wpAny_passesOwn hp (thn (hb pins s2 σ1 H2 _ I2 q2) fun f s3 q3 => ?_)
    cases f with
    | next =>
      obtain ⟨σ3, H3, I3, n3⟩ := q3
      obtain ⟨m', hm, w3⟩ := hN σ3 H3 n3
      exact ⟨m', hm, σ3, H3, I3, w3⟩
    | cont =>
      obtain ⟨σ3, H3, I3, n3⟩ := q3
      obtain ⟨m', hm, w3⟩ := hN σ3 H3 n3
      exact ⟨m', hm, σ3, H3, I3, w3⟩
    | brk => exact q3
    | ret v => exact q3
  | false =>
    rw [if_neg Bool.false_ne_true]
    exact wpAny_execs_nil ⟨σ1, H2, I2, q2⟩
end

structure It where
  go : Nat → Hp → Prop
  yld : Nat → Hp → V → Hp → Prop
  stop : Nat → Hp → Prop
def FpOk (X : Cx) (pins : List (Addr × Obj)) (H : Hp) (b : Addr) : Prop :=
  H b = none ∧ b ≠ X.env.locals ∧ b ∉ X.fs ∧ (b ∈ X.ex ∨ X.s₀.heap.objs.size ≤ b) ∧ (∀ x c, X.env.cells.lookup x = some c → c ≠ b) ∧ ∀ p ∈ X.pn ++ pins, p.1 ≠ b
theorem Inv.fpOk {X : Cx} {pins : List (Addr × Obj)} {σ : St} {H H' : Hp} {s : Shared} {b : Addr} (I : Inv X pins σ H s) (hb : s.heap.objs.size ≤ b) (hn : H' b = none) : FpOk X pins H' b := by
  refine ⟨hn, Nat.ne_of_gt (Nat.lt_of_lt_of_le I.lt hb), I.nofs hb, .inr (Nat.le_trans I.sz hb), fun x c e z => ?_, fun p hp z => ?_⟩
  · obtain ⟨v, q⟩ := I.cell x c e
    exact absurd (Nat.lt_of_lt_of_le q.lt (by rw [z]; exact hb)) (Nat.lt_irrefl _)
  · exact absurd (Nat.lt_of_lt_of_le (Heap.lt_size (I.pin p hp).1) (by rw [z]; exact hb)) (Nat.lt_irrefl _)
structure Turn (P : Program) (w : World) (K : PySem.W.Frag) (tg : Expr) (J : It) (fp : List Addr) (it : Addr) (tn : Nat → Heap → Prop) : Prop where
  mem : it ∈ fp
  obj : ∀ i h, tn i h → ∀ b ∈ fp, ∃ o, h.get? b = some o ∧ ∀ v, o.data ≠ .cell v
  keep : ∀ i h h', tn i h → (∀ b ∈ fp, ∀ o, h.get? b = some o → h'.get? b = some o) → tn i h'
  item : ∀ (X : Cx), X.prog = P → X.w = w → X.K = K → X.calm = true → ∀ (i : Nat) (pins : List (Addr × Obj)) (s : Shared) (σ : St) (H : Hp) (E : Value → Shared → Prop), Inv X pins σ H s → (∀ b ∈ fp, FpOk X pins H b) → tn i s.heap → J.go i H →
    wpAny (model P w) X.A (pyNext (.ref it)) (fun r s1 => ∃ u, r = some u ∧
      wpAny (model P w) X.A (letOwnedTupleGo tg (.ref it) u) (fun _ s2 => ∃ x H', Inv X pins σ H' s2 ∧ RelV x u ∧ J.yld i H x H' ∧ tn (i + 1) s2.heap ∧ ∀ b ∈ fp, H' b = none) E s1) E s
  done : ∀ (X : Cx), X.prog = P → X.w = w → X.K = K → X.calm = true → ∀ (i : Nat) (pins : List (Addr × Obj)) (s : Shared) (σ : St) (H : Hp) (E : Value → Shared → Prop), Inv X pins σ H s → (∀ b ∈ fp, FpOk X pins H b) → tn i s.heap → J.stop i H →
    wpAny (model P w) X.A (pyNext (.ref it)) (fun r s1 => r = none ∧ Inv X pins σ H s1) E s
  self : ∀ (A : Around) (i : Nat) (s : Shared) (Q : Value → Shared → Prop) (E : Value → Shared → Prop), tn i s.heap → Q (.ref it) s → wpAny (model P w) A (pyIter (.ref it)) Q E s
abbrev TI := St → Hp → (It → Hp → Prop) → Prop
def PIE (X : Cx) (pins : List (Addr × Obj)) (σ : St) (tg : Expr) (R : It → Hp → Prop) (itv : Value) (s2 : Shared) : Prop :=
  ∃ (it : Addr) (fp : List Addr) (tn : Nat → Heap → Prop) (J : It) (H' : Hp), itv = .ref it ∧ Inv X pins σ H' s2 ∧ Turn X.prog X.w X.K tg J fp it tn ∧ tn 0 s2.heap ∧ (∀ b ∈ fp, FpOk X pins H' b) ∧ R J H'
def PI (X : Cx) (tg iter : Expr) (wi : TI) : Prop :=
  ∀ (pins : List (Addr × Obj)) (s : Shared) (σ : St) (H : Hp) (R : It → Hp → Prop), Inv X pins σ H s → wi σ H R →
    wpAny (model X.prog X.w) X.A (eval iter X.env) (fun v s1 => wpAny (model X.prog X.w) X.A (pyIter v) (PIE X pins σ tg R) X.xe s1) X.xe s

theorem go_of {M : Model} {A : Around} {E : Value → Shared → Prop} {s : Shared} {tg : Expr} {it : Addr} {u : Value} {o : Obj} {n : String} {vs : Array Value} {Q : Unit → Shared → Prop} (ho : s.heap.get? it = some o) (hc : o.cls = .type n) (hd : o.data = .fields vs)
    (hn : ["enumerate", "zip", "dict_itemiterator", "dict_reverseitemiterator", "odict_iterator", "itertools.zip_longest", "itertools.pairwise"].contains n = false) (hQ : Q () s) : wpAny M A (letOwnedTupleGo tg (.ref it) u) Q E s := by
  unfold letOwnedTupleGo
  cases tg <;> first
    | exact wpAny_pure hQ
    | (cases u <;> first
        | exact wpAny_pure hQ
        | (refine wpAny_bind (wpAny_load ho ?_)
           rw [hc, hd]
           show wpAny M A (if (["enumerate", "zip", "dict_itemiterator", "dict_reverseitemiterator", "odict_iterator", "itertools.zip_longest", "itertools.pairwise"].contains n && vs[0]? == some (rawInt _)) = true then _ else _) Q E s
           rw [if_neg (by intro h; rw [hn, Bool.false_and] at h; cases h)]
           exact wpAny_pure hQ))

def Itl (K : PySem.W.Frag) (a : Addr) : It :=
  ⟨fun i H => ∃ xs x, SqL K H a xs ∧ xs[i]? = some x, fun i H x H' => H' = H ∧ ∀ xs, SqL K H a xs → xs[i]? = some x, fun i H => ∃ xs, SqL K H a xs ∧ xs.length ≤ i⟩
def Itt (K : PySem.W.Frag) (a : Addr) : It :=
  ⟨fun i H => ∃ xs x, SqT K H a xs ∧ xs[i]? = some x, fun i H x H' => H' = H ∧ ∀ xs, SqT K H a xs → xs[i]? = some x, fun i H => ∃ xs, SqT K H a xs ∧ xs.length ≤ i⟩
def Itr (lo : Int) (n : Nat) : It := ⟨fun i _ => i < n, fun i H x H' => H' = H ∧ x = .int (lo + i), fun i _ => n ≤ i⟩
theorem turn_list {P : Program} {w : World} {K : PySem.W.Frag} {tg : Expr} (a it : Addr) : Turn P w K tg (Itl K a) [it] it (fun i h => h.IsListIter it a i) where
  mem := by simp
  obj := fun i h st b hb => by
    have e : b = it := by simpa using hb
    subst e
    obtain ⟨o, e, c, d⟩ := st
    exact ⟨o, e, fun v z => by rw [d] at z; cases z⟩
  keep := fun i h h' st k => st.at fun o e => k it (by simp) o e
  item := by
    intro X hP hw hK hc i pins s σ H E I hf st hg
    subst hP hw hK
    obtain ⟨xs, x, hq, hx⟩ := hg
    obtain ⟨its, rv, p, hz⟩ := I.list hq
    obtain ⟨u, hu, ru⟩ := rv.get hx
    obtain ⟨f0, f1, f2, f3, f4, f5⟩ := hf it (by simp)
    refine wpAny_pyNext_list_item st p.isList (x := u) (by simpa using hu) fun h' st' sb => ?_
    have I1 : Inv X pins σ H { s with heap := h' } := I.turned (t' := s.toks) (fun b o hb e => (sb.2 b hb).trans e) f0 f1 f3 f4 f5
    obtain ⟨o, e, c, d⟩ := id st'
    exact ⟨u, rfl, go_of (s := { s with heap := h' }) e c d (by decide) ⟨x, H, I1, ru, ⟨rfl, fun ys hy => by rw [I.list_inj hy hq]; exact hx⟩, st', fun b hb => (hf b hb).1⟩⟩
  done := by
    intro X hP hw hK hc i pins s σ H E I hf st hg
    subst hP hw hK
    obtain ⟨xs, hq, hx⟩ := hg
    obtain ⟨its, rv, p, hz⟩ := I.list hq
    obtain ⟨f0, f1, f2, f3, f4, f5⟩ := hf it (by simp)
    have hl := rv.length
    exact wpAny_pyNext_list_end (I.ok.hd hc) st p.isList (by simp; omega) fun h' eb => ⟨rfl, I.turned (t' := s.toks) (fun b o hb e => eb b o hb e) f0 f1 f3 f4 f5⟩
  self := fun _ _ _ _ _ st h => wpAny_pyIter_listiter st h
theorem turn_tuple {P : Program} {w : World} {K : PySem.W.Frag} {tg : Expr} (a it : Addr) : Turn P w K tg (Itt K a) [it] it (fun i h => h.IsTupleIter it a i) where
  mem := by simp
  obj := fun i h st b hb => by
    have e : b = it := by simpa using hb
    subst e
    obtain ⟨o, e, c, d⟩ := st
    exact ⟨o, e, fun v z => by rw [d] at z; cases z⟩
  keep := fun i h h' st k => st.at fun o e => k it (by simp) o e
  item := by
    intro X hP hw hK hc i pins s σ H E I hf st hg
    subst hP hw hK
    obtain ⟨xs, x, hq, hx⟩ := hg
    obtain ⟨its, rv, p, hz⟩ := I.tuple hq
    obtain ⟨u, hu, ru⟩ := rv.get hx
    obtain ⟨f0, f1, f2, f3, f4, f5⟩ := hf it (by simp)
    refine wpAny_pyNext_tuple_item st (show s.heap.IsTuple a its.toArray from p) (x := u) (by simpa using hu) fun h' st' sb => ?_
    have I1 : Inv X pins σ H { s with heap := h' } := I.turned (t' := s.toks) (fun b o hb e => (sb.2 b hb).trans e) f0 f1 f3 f4 f5
    obtain ⟨o, e, c, d⟩ := id st'
    exact ⟨u, rfl, go_of (s := { s with heap := h' }) e c d (by decide) ⟨x, H, I1, ru, ⟨rfl, fun ys hy => by rw [I.tuple_inj hy hq]; exact hx⟩, st', fun b hb => (hf b hb).1⟩⟩
  done := by
    intro X hP hw hK hc i pins s σ H E I hf st hg
    subst hP hw hK
    obtain ⟨xs, hq, hx⟩ := hg
    obtain ⟨its, rv, p, hz⟩ := I.tuple hq
    obtain ⟨f0, f1, f2, f3, f4, f5⟩ := hf it (by simp)
    have hl := rv.length
    exact wpAny_pyNext_tuple_end (I.ok.hd hc) st (show s.heap.IsTuple a its.toArray from p) (by simp; omega) fun h' eb => ⟨rfl, I.turned (t' := s.toks) (fun b o hb e => eb b o hb e) f0 f1 f3 f4 f5⟩
  self := fun _ _ _ _ _ st h => wpAny_pyIter_tupleiter st h
theorem turn_range {P : Program} {w : World} {K : PySem.W.Frag} {tg : Expr} (it : Addr) (lo : Int) (n : Nat) : Turn P w K tg (Itr lo n) [it] it (fun i h => IsRangeIter h it (lo + (i : Nat) * 1) ((n : Int) - (i : Nat)) 1) where
  mem := by simp
  obj := fun i h st b hb => by
    have e : b = it := by simpa using hb
    subst e
    exact ⟨_, st, fun v z => by
      have z' : Data.fields _ = Data.cell v := z
      cases z'⟩
  keep := fun i h h' st k => k it (by simp) _ st
  item := by
    intro X hP hw hK hc i pins s σ H E I hf st hg
    subst hP hw hK
    obtain ⟨f0, f1, f2, f3, f4, f5⟩ := hf it (by simp)
    have W := Walks.range (prog := X.prog) (w := X.w) (I.ok.hd hc) it lo 1 n
    refine tokQ I.tk (W.item i s _ _ hg st fun v h' tk hv st' kk (htk : 0 < tk) => ?_)
    obtain ⟨t, rfl⟩ := hv
    have I1 : Inv X pins σ H { s with heap := h', toks := tk } := I.turned (fun b o hb e => kk b o (by simpa using hb) e) f0 f1 f3 f4 f5
    refine ⟨_, rfl, go_of (s := { s with heap := h', toks := tk }) (n := "range_iterator") st' rfl rfl (by decide) ⟨.int (lo + i), H, I1, ⟨t, ?_⟩, ⟨rfl, rfl⟩, st', fun b hb => (hf b hb).1⟩⟩
    rw [Int.mul_one]
  done := by
    intro X hP hw hK hc i pins s σ H E I hf st hg
    subst hP hw hK
    obtain ⟨f0, f1, f2, f3, f4, f5⟩ := hf it (by simp)
    exact wpAny_pyNext_range_end (I.ok.hd hc) st (by have : n ≤ i := hg; omega) fun h' eb => ⟨rfl, I.turned (t' := s.toks) (fun b o hb e => eb b o hb e) f0 f1 f3 f4 f5⟩
  self := fun _ _ _ _ _ st h => wpAny_pyIter_rangeiter st h
end L2

namespace L2
open PySem PySem.Spec PyProof.Rows
section
variable {X : Cx} {tg : Expr}
theorem range_it {pins : List (Addr × Obj)} {σ : St} {H : Hp} {s : Shared} {R : It → Hp → Prop} {E : Value → Shared → Prop} {lo hi : Int} {t u v : Tok} {tk : Nat} (I : Inv X pins σ H s) (h1 : -(2 ^ 62) ≤ lo) (h2 : lo < 2 ^ 62) (h3 : -(2 ^ 62) ≤ hi) (h4 : hi < 2 ^ 62)
    (q : R (Itr lo (hi - lo).toNat) H) (htk : 0 < tk := by first | assumption | exact Nat.succ_pos _ | (apply Inv.tk; assumption) | omega) : wpAny (model X.prog X.w) X.A (pyIter (.ref s.heap.objs.size)) (PIE X pins σ tg R) E { s with heap := s.heap.push { cls := .type "range", data := .fields #[.int lo t, .int hi u, .int 1 v] }, toks := tk } := by
  refine wpAny_pyIter_range (IsRange.new ..) (small_one h1 h2 h3 h4) ?_
  have I1 : Inv X pins σ H { s with heap := s.heap.push { cls := .type "range", data := .fields #[.int lo t, .int hi u, .int 1 v] }, toks := tk } := I.kept fun b o e => Heap.get?_push_of_some _ e
  refine ⟨(s.heap.push { cls := .type "range", data := .fields #[.int lo t, .int hi u, .int 1 v] }).objs.size, [(s.heap.push { cls := .type "range", data := .fields #[.int lo t, .int hi u, .int 1 v] }).objs.size], _, _, H, rfl,
    I1.kept (t' := tk) fun b o e => Heap.get?_push_of_some _ e, turn_range _ lo (hi - lo).toNat, ?_, fun b hb => ?_, q⟩
  · have e1 : lo + ((0 : Nat) : Int) * 1 = lo := by simp
    have e2 : (((hi - lo).toNat : Nat) : Int) - ((0 : Nat) : Int) = Builtin.Range.rangeSize lo hi 1 := by rw [rangeSize_one]; split <;> omega
    show IsRangeIter _ _ (lo + ((0 : Nat) : Int) * 1) ((((hi - lo).toNat : Nat) : Int) - ((0 : Nat) : Int)) 1
    rw [e1, e2]
    exact Heap.get?_push_size _ rfl
  · have e : b = (s.heap.push { cls := .type "range", data := .fields #[.int lo t, .int hi u, .int 1 v] }).objs.size := by simpa using hb
    subst e
    exact I1.fpOk (Nat.le_refl _) (I1.hok.fresh (Nat.le_refl _))
def iRng1 (ta : TA) : TI := fun σ H R => ta σ H fun vs H1 => ∃ j : Int, vs = [.int j] ∧ -(2 ^ 62) ≤ j ∧ j < 2 ^ 62 ∧ R (Itr 0 j.toNat) H1
theorem pi_range1 {a : Expr} {ta : TA} {p pos : Pos} (hg : Gl X "range") (hm : X.mg "range" = none) (ha : PA X [a] ta) (hs : starEach [a] X.env = [(false, eval a X.env)] := by rfl) : PI X tg (.Call (.Name "range" p) [a] [] pos) (iRng1 ta) := by
  intro pins s σ H R I h
  refine Call_ (ld_blt I hg hm boot_range (PyProof.Rows.callWith_type1 (thn (ha pos pins s σ H _ I h) fun us s1 ⟨vs, H1, I1, r1, q1⟩ => ?_) hs rfl))
  obtain ⟨j, e, q1, q2, q⟩ := q1
  subst e
  cases r1 with
  | cons r rr =>
    cases rr
    obtain ⟨t, rfl⟩ := r
    exact call_range_1 (range_it I1 (by omega) (by omega) q1 q2 (by simpa using q))
def tFor (wi : TI) (g : TG) (tb : TS) : TS := fun D σ H => wi σ H fun J H1 => ∃ W : Nat → Nat → St → Hp → Prop, (∃ m, W 0 m σ H1) ∧ ∀ i m σ H, W i m σ H →
  (J.stop i H ∧ D.nx σ H) ∨ (J.go i H ∧ ∃ N : St → Hp → Prop, (∀ σ' H', N σ' H' → ∃ m', m' < m ∧ W (i + 1) m' σ' H') ∧ ∀ x H', J.yld i H x H' → g x σ H' fun σ2 H2 => tb { D with nx := N, ct := N, bk := D.nx } σ2 H2)
def pinsAt (fp : List Addr) (h : Heap) : List (Addr × Obj) := fp.filterMap fun b => (h.get? b).map fun o => (b, o)
theorem mem_pinsAt {fp : List Addr} {h : Heap} {b : Addr} {o : Obj} (hb : b ∈ fp) (e : h.get? b = some o) : (b, o) ∈ pinsAt fp h := List.mem_filterMap.mpr ⟨b, hb, by rw [e]; rfl⟩
theorem of_pinsAt {fp : List Addr} {h : Heap} {p : Addr × Obj} (hp : p ∈ pinsAt fp h) : p.1 ∈ fp ∧ h.get? p.1 = some p.2 := by
  obtain ⟨b, hb, e⟩ := List.mem_filterMap.mp hp
  cases q : h.get? b with
  | none => rw [q] at e; cases e
  | some o =>
    rw [q] at e
    have e' : (b, o) = p := Option.some.inj e
    subst e'
    exact ⟨hb, q⟩
theorem Inv.pinned {pins : List (Addr × Obj)} {σ : St} {H : Hp} {s : Shared} {fp : List Addr} (I : Inv X pins σ H s) (hf : ∀ b ∈ fp, FpOk X pins H b) (ho : ∀ b ∈ fp, ∃ o, s.heap.get? b = some o ∧ ∀ v, o.data ≠ .cell v) : Inv X (pins ++ pinsAt fp s.heap) σ H s :=
  I.pins_of fun p hp => (List.mem_append.mp hp).elim (fun z => I.pin p (List.mem_append_right _ z)) fun z => by
    obtain ⟨hb, e⟩ := of_pinsAt z
    obtain ⟨f0, f1, f2, _⟩ := hf p.1 hb
    obtain ⟨o, e', d⟩ := ho p.1 hb
    rw [e] at e'; cases e'
    exact ⟨e, f0, f1, f2, d⟩
theorem Inv.unpinned {pins pl : List (Addr × Obj)} {σ : St} {H : Hp} {s : Shared} (I : Inv X (pins ++ pl) σ H s) : Inv X pins σ H s := I.pins_of fun p hp => I.pin p (List.mem_append_right _ (List.mem_append_left _ hp))
theorem ps_for {iter : Expr} {body : List Stmt} {wi : TI} {g : TG} {tb : TS} {pos : Pos} (hp : PassesOwn (model X.prog X.w) X.A X.env X.xe) (hc : X.calm = true) (hi : PI X tg iter wi) (hg : PG X tg g) (hb : PSs X body tb)
    (hs : ∀ x, foldedSetIterable iter X.env x = pure x := by intro _; rfl) : PS X (.For tg iter body [] pos) (tFor wi g tb) := by
  intro pins s σ H D I h
  refine wpAny_For (thn (hi pins s σ H _ I h) fun v s1 h1 => thn h1 fun itv s2 h2 => ?_) hs
  obtain ⟨it, fp, tn, J, H2, e, I2, T, st2, f2, W, ⟨m0, w0⟩, turn⟩ := h2
  subst e
  have stat : ∀ {H' : Hp}, (∀ b ∈ fp, H' b = none) → ∀ b ∈ fp, FpOk X pins H' b := fun hn b hb => ⟨hn b hb, (f2 b hb).2⟩
  refine codeAny_forLoop_any (fun n s' => ∃ i σ' H', Inv X pins σ' H' s' ∧ tn i s'.heap ∧ (∀ b ∈ fp, H' b = none) ∧ W i n σ' H') ?_ m0 ⟨0, σ, H2, I2, st2, fun b hb => (f2 b hb).1, w0⟩
  rintro n s3 ⟨i, σ3, H3, I3, st3, fr3, w3⟩
  rcases turn i n σ3 H3 w3 with ⟨stop, qn⟩ | ⟨go, N, hN, step⟩
  · refine wpAny_passesOwn hp (thn (T.done X rfl rfl rfl hc i pins s3 σ3 H3 X.xe I3 (stat fr3) st3 stop) fun r s4 ⟨hr, I4⟩ => ?_)
    subst hr
    exact wpAny_execs_nil ⟨σ3, H3, I4, qn⟩
  · refine wpAny_passesOwn hp (thn (T.item X rfl rfl rfl hc i pins s3 σ3 H3 X.xe I3 (stat fr3) st3 go) fun r s4 ⟨u, hr, h4⟩ => ?_)
    subst hr
    refine wpAny_passesOwn hp (thn h4 fun _ s5 ⟨x, H5, I5, r5, y5, st5, fr5⟩ => ?_)
    have I5' := I5.pinned (stat fr5) (T.obj _ _ st5)
    refine wpAny_passesOwn hp (thn (hg _ s5 σ3 H5 x u _ I5' r5 (step x H5 y5)) fun _ s6 ⟨σ6, H6, I6, q6⟩ => ?_)
    refine wpAny_passesOwn hp (thn (hb _ s6 σ6 H6 _ I6 q6) fun f s7 q7 => ?_)
    have again : ∀ {σ7 : St} {H7 : Hp}, Inv X (pins ++ pinsAt fp s5.heap) σ7 H7 s7 → N σ7 H7 → ∃ m, m < n ∧ ∃ i σ' H', Inv X pins σ' H' s7 ∧ tn i s7.heap ∧ (∀ b ∈ fp, H' b = none) ∧ W i m σ' H' := fun {σ7 H7} I7 n7 => by
      obtain ⟨m', hm, w7⟩ := hN σ7 H7 n7
      refine ⟨m', hm, i + 1, σ7, H7, I7.unpinned, T.keep _ _ _ st5 fun b hb o e => (I7.pin (b, o) (List.mem_append_right _ (List.mem_append_right _ (mem_pinsAt hb e)))).1, fun b hb => ?_, w7⟩
      obtain ⟨o, e, d⟩ := T.obj _ _ st5 b hb
      exact (I7.pin (b, o) (List.mem_append_right _ (List.mem_append_right _ (mem_pinsAt hb e)))).2.1
    cases f with
    | next => obtain ⟨σ7, H7, I7, n7⟩ := q7; exact again I7 n7
    | cont => obtain ⟨σ7, H7, I7, n7⟩ := q7; exact again I7 n7
    | brk => obtain ⟨σ7, H7, I7, q7⟩ := q7; exact ⟨σ7, H7, I7.unpinned, q7⟩
    | ret v => obtain ⟨x7, σ7, H7, I7, r7, q7⟩ := q7; exact ⟨x7, σ7, H7, I7.unpinned, r7, q7⟩
end

theorem for_list {K : PySem.W.Frag} {a : Addr} {xs : List V} {g : TG} {tb : TS} {D : Ends} {σ : St} {H : Hp} (Pv : Nat → St → Hp → Prop) (h0 : Pv 0 σ H) (hl : ∀ i σ H, i ≤ xs.length → Pv i σ H → SqL K H a xs)
    (hs : ∀ i x σ H, xs[i]? = some x → Pv i σ H → g x σ H fun σ2 H2 => tb { D with nx := Pv (i + 1), ct := Pv (i + 1), bk := D.nx } σ2 H2) (hd : ∀ σ H, Pv xs.length σ H → D.nx σ H) :
    ∃ W : Nat → Nat → St → Hp → Prop, (∃ m, W 0 m σ H) ∧ ∀ i m σ H, W i m σ H →
      ((Itl K a).stop i H ∧ D.nx σ H) ∨ ((Itl K a).go i H ∧ ∃ N : St → Hp → Prop, (∀ σ' H', N σ' H' → ∃ m', m' < m ∧ W (i + 1) m' σ' H') ∧ ∀ x H', (Itl K a).yld i H x H' → g x σ H' fun σ2 H2 => tb { D with nx := N, ct := N, bk := D.nx } σ2 H2) := by
  refine ⟨fun i m σ H => m = xs.length - i ∧ i ≤ xs.length ∧ Pv i σ H, ⟨xs.length, by simp, Nat.zero_le _, h0⟩, ?_⟩
  rintro i m σ H ⟨rfl, hi, p⟩
  have q := hl i σ H hi p
  by_cases hlt : i < xs.length
  · refine .inr ⟨⟨xs, xs[i], q, by simp [hlt]⟩, Pv (i + 1), fun σ' H' p' => ⟨xs.length - (i + 1), by omega, rfl, hlt, p'⟩, fun x H' y => ?_⟩
    obtain ⟨e, y⟩ := y
    subst e
    exact hs i x σ _ (y xs q) p
  · have e : i = xs.length := by omega
    subst e
    exact .inl ⟨⟨xs, q, Nat.le_refl _⟩, hd σ H p⟩
theorem for_range {lo : Int} {n : Nat} {g : TG} {tb : TS} {D : Ends} {σ : St} {H : Hp} (Pv : Nat → St → Hp → Prop) (h0 : Pv 0 σ H)
    (hs : ∀ i σ H, i < n → Pv i σ H → g (.int (lo + i)) σ H fun σ2 H2 => tb { D with nx := Pv (i + 1), ct := Pv (i + 1), bk := D.nx } σ2 H2) (hd : ∀ σ H, Pv n σ H → D.nx σ H) :
    ∃ W : Nat → Nat → St → Hp → Prop, (∃ m, W 0 m σ H) ∧ ∀ i m σ H, W i m σ H →
      ((Itr lo n).stop i H ∧ D.nx σ H) ∨ ((Itr lo n).go i H ∧ ∃ N : St → Hp → Prop, (∀ σ' H', N σ' H' → ∃ m', m' < m ∧ W (i + 1) m' σ' H') ∧ ∀ x H', (Itr lo n).yld i H x H' → g x σ H' fun σ2 H2 => tb { D with nx := N, ct := N, bk := D.nx } σ2 H2) := by
  refine ⟨fun i m σ H => m = n - i ∧ i ≤ n ∧ Pv i σ H, ⟨n, by simp, Nat.zero_le _, h0⟩, ?_⟩
  rintro i m σ H ⟨rfl, hi, p⟩
  by_cases hlt : i < n
  · refine .inr ⟨hlt, Pv (i + 1), fun σ' H' p' => ⟨n - (i + 1), by omega, rfl, hlt, p'⟩, fun x H' y => ?_⟩
    obtain ⟨e, y⟩ := y
    subst e y
    exact hs i σ _ hlt p
  · have e : i = n := by omega
    subst e
    exact .inl ⟨Nat.le_refl _, hd σ H p⟩
theorem while_by {c : TT} {tb : TS} {D : Ends} {σ : St} {H : Hp} (Pv : St → Hp → Prop) (μ : St → Hp → Nat) (h0 : Pv σ H)
    (hs : ∀ σ H, Pv σ H → c σ H fun b H1 => if b = true then tb { D with nx := fun σ' H' => Pv σ' H' ∧ μ σ' H' < μ σ H, ct := fun σ' H' => Pv σ' H' ∧ μ σ' H' < μ σ H, bk := D.nx } σ H1 else D.nx σ H1)
    (mono : ∀ σ H Q Q', (∀ b H1, Q b H1 → Q' b H1) → c σ H Q → c σ H Q') : tWhile c tb D σ H := by
  refine ⟨fun m σ H => m = μ σ H ∧ Pv σ H, ⟨_, rfl, h0⟩, ?_⟩
  rintro m σ H ⟨rfl, p⟩
  refine mono σ H _ _ (fun b H1 q => ?_) (hs σ H p)
  cases b with
  | true => exact ⟨_, fun σ' H' ⟨p', l⟩ => ⟨_, l, rfl, p'⟩, q⟩
  | false => exact q
end L2

namespace L2
open PySem PySem.Spec PyProof.Rows

abbrev R2 := V → V → Hp → VK → Prop
def OpR (X : Cx) (f : Value → Value → Sem Value) (r : R2) : Prop :=
  ∀ (pins : List (Addr × Obj)) (s : Shared) (σ : St) (H : Hp) (x y : V) (v u : Value) (Q : VK), Inv X pins σ H s → RelV x v → RelV y u → r x y H Q →
    wpAny (model X.prog X.w) X.A (f v u) (EP X pins σ Q) X.xe s
def UnR (X : Cx) (f : Value → Sem Value) (r : V → Hp → VK → Prop) : Prop :=
  ∀ (pins : List (Addr × Obj)) (s : Shared) (σ : St) (H : Hp) (x : V) (v : Value) (Q : VK), Inv X pins σ H s → RelV x v → r x H Q →
    wpAny (model X.prog X.w) X.A (f v) (EP X pins σ Q) X.xe s
def CallR (X : Cx) (f : Value) (r : List V → Hp → VK → Prop) : Prop :=
  ∀ (pins : List (Addr × Obj)) (s : Shared) (σ : St) (H : Hp) (xs : List V) (us : List Value) (Q : VK), Inv X pins σ H s → Vals xs us → r xs H Q →
    wpAny (model X.prog X.w) X.A (call f us) (EP X pins σ Q) X.xe s
def tOp (r : R2) (ta tb : TE) : TE := fun σ H Q => ta σ H fun x H1 => tb σ H1 fun y H2 => r x y H2 Q
def tUn (r : V → Hp → VK → Prop) (ta : TE) : TE := fun σ H Q => ta σ H fun x H1 => r x H1 Q
def rI (C : Int → Int → Prop) (g : Int → Int → V) : R2 := fun x y H Q => ∃ i j, x = .int i ∧ y = .int j ∧ C i j ∧ Q (g i j) H
def rI0 (g : Int → Int → V) : R2 := fun x y H Q => ∃ i j, x = .int i ∧ y = .int j ∧ Q (g i j) H
def rU (g : Int → V) : V → Hp → VK → Prop := fun x H Q => ∃ i, x = .int i ∧ Q (g i) H

section
variable {X : Cx} {a b c : Expr} {ta tb tc : TE} {pos : Pos}

theorem binT (ha : PE X a ta) (hb : PE X b tb) {pins : List (Addr × Obj)} {s : Shared} {σ : St} {H : Hp} {R : V → V → Hp → Prop} (I : Inv X pins σ H s)
    (h : ta σ H fun x H1 => tb σ H1 fun y H2 => R x y H2) {Q : Value → Shared → Prop} {f : Value → Value → Sem Value}
    (hf : ∀ v u s2 x y H2, Inv X pins σ H2 s2 → RelV x v → RelV y u → R x y H2 → wpAny (model X.prog X.w) X.A (f v u) Q X.xe s2) :
    wpAny (model X.prog X.w) X.A (eval a X.env) (fun v s₁ => wpAny (model X.prog X.w) X.A (eval b X.env) (fun u s₂ => wpAny (model X.prog X.w) X.A (f v u) Q X.xe s₂) X.xe s₁) X.xe s := by
  refine thn (ha pins s σ H _ I h) fun v s1 ⟨x, H1, I1, r1, q1⟩ => ?_
  refine thn (hb pins s1 σ H1 _ I1 q1) fun u s2 ⟨y, H2, I2, r2, q2⟩ => ?_
  exact hf v u s2 x y H2 I2 r1 r2 q2

theorem pe_op {op : Operator} {r : R2} (ho : OpR X (binaryOp op) r) (ha : PE X a ta) (hb : PE X b tb) : PE X (.BinOp a op b pos) (tOp r ta tb) := by
  intro pins s σ H Q I h
  exact wpAny_BinOp (binT ha hb I h fun v u s2 x y H2 I2 rx ry q => ho pins s2 σ H2 x y v u Q I2 rx ry q)
theorem pe_un {op : UnaryOp} {r : V → Hp → VK → Prop} (ho : UnR X (unaryOp op) r) (ha : PE X a ta) : PE X (.UnaryOp op a pos) (tUn r ta) := by
  intro pins s σ H Q I h
  exact UnaryOp_ (thn (ha pins s σ H _ I h) fun v s1 ⟨x, H1, I1, r1, q1⟩ => ho pins s1 σ H1 x v Q I1 r1 q1)
theorem opI {f : Value → Value → Sem Value} {C : Int → Int → Prop} {g : Int → Int → Int}
    (rule : ∀ (i j : Int) (t u : Tok) (s : Shared) (Q : Value → Shared → Prop) (E : Value → Shared → Prop), C i j → Q (.int (g i j) s.toks) { s with toks := s.toks + 1 } → wpAny (model X.prog X.w) X.A (f (.int i t) (.int j u)) Q E s) :
    OpR X f (rI C fun i j => .int (g i j)) := by
  intro pins s σ H x y v u Q I rx ry h
  obtain ⟨i, j, rfl, rfl, hc, q⟩ := h
  obtain ⟨t, rfl⟩ := rx
  obtain ⟨t', rfl⟩ := ry
  exact rule i j t t' s _ _ hc ⟨.int (g i j), H, I.tok _, ⟨_, rfl⟩, q⟩
theorem opI0 {f : Value → Value → Sem Value} {g : Int → Int → Int}
    (rule : ∀ (i j : Int) (t u : Tok) (s : Shared) (Q : Value → Shared → Prop) (E : Value → Shared → Prop), Q (.int (g i j) s.toks) { s with toks := s.toks + 1 } → wpAny (model X.prog X.w) X.A (f (.int i t) (.int j u)) Q E s) :
    OpR X f (rI0 fun i j => .int (g i j)) := by
  intro pins s σ H x y v u Q I rx ry h
  obtain ⟨i, j, rfl, rfl, q⟩ := h
  obtain ⟨t, rfl⟩ := rx
  obtain ⟨t', rfl⟩ := ry
  exact rule i j t t' s _ _ ⟨.int (g i j), H, I.tok _, ⟨_, rfl⟩, q⟩
theorem opB0 {f : Value → Value → Sem Value} {g : Int → Int → Bool}
    (rule : ∀ (i j : Int) (t u : Tok) (s : Shared) (Q : Value → Shared → Prop) (E : Value → Shared → Prop), Q (.bool (g i j)) s → wpAny (model X.prog X.w) X.A (f (.int i t) (.int j u)) Q E s) :
    OpR X f (rI0 fun i j => .bl (g i j)) := by
  intro pins s σ H x y v u Q I rx ry h
  obtain ⟨i, j, rfl, rfl, q⟩ := h
  obtain ⟨t, rfl⟩ := rx
  obtain ⟨t', rfl⟩ := ry
  exact rule i j t t' s _ _ ⟨.bl (g i j), H, I, rfl, q⟩

def CDiv (i j : Int) : Prop := 0 < j ∧ j < 1073741824
def CPow (i j : Int) : Prop := 0 ≤ j ∧ j ≤ 1000000 ∧ i.natAbs < 2 ^ 64
def CMul (i j : Int) : Prop := (-(2 ^ 64) < i ∧ i < 2 ^ 64) ∨ (-(2 ^ 64) < j ∧ j < 2 ^ 64)
theorem CMul.ok {i j : Int} (h : CMul i j) : IntMulOk i j := by
  rcases h with ⟨h1, h2⟩ | ⟨h1, h2⟩
  · exact .of_left (intBits_le_64 h1 h2)
  · exact .of_right (intBits_le_64 h1 h2)
theorem op_add : OpR X (binaryOp .Add) (rI0 fun i j => .int (i + j)) := opI0 fun _ _ _ _ _ _ _ q => add_int q
theorem op_mul : OpR X (binaryOp .Mult) (rI CMul fun i j => .int (i * j)) := opI fun _ _ _ _ _ _ _ hc q => mul_int q hc.ok
theorem op_fdiv : OpR X (binaryOp .FloorDiv) (rI CDiv fun i j => .int (i / j)) := opI fun i j _ _ _ _ _ hc q => by
  have h1 : (0 : Int) < j := hc.1
  have h2 : j < 1073741824 := hc.2
  exact floordiv_int (by omega) (by rw [Int.fdiv_eq_ediv_of_nonneg i (by omega)]; exact q) (.inl (PyProof.noPylong_small (by omega)))
theorem op_mod : OpR X (binaryOp .Mod) (rI (fun _ j => 0 < j) fun i j => .int (i % j)) := opI fun i j _ _ _ _ _ hc q => by
  have h1 : (0 : Int) < j := hc
  exact mod_int' (by omega) (by rw [Int.fmod_eq_emod_of_nonneg i (by omega)]; exact q)
theorem unI {f : Value → Sem Value} {g : Int → Int}
    (rule : ∀ (i : Int) (t : Tok) (s : Shared) (Q : Value → Shared → Prop) (E : Value → Shared → Prop), Q (.int (g i) s.toks) { s with toks := s.toks + 1 } → wpAny (model X.prog X.w) X.A (f (.int i t)) Q E s) :
    UnR X f (rU fun i => .int (g i)) := by
  intro pins s σ H x v Q I rx h
  obtain ⟨i, rfl, q⟩ := h
  obtain ⟨t, rfl⟩ := rx
  exact rule i t s _ _ ⟨.int (g i), H, I.tok _, ⟨_, rfl⟩, q⟩
theorem un_neg : UnR X (unaryOp .USub) (rU fun i => .int (-i)) := unI fun _ _ _ _ _ q => neg_int q
end

def scal : V → V → Bool
  | .non, .non => true | .non, .int _ => true | .int _, .non => true | .non, .bl _ => true | .bl _, .non => true | .non, .str _ => true | .str _, .non => true
  | .int _, .int _ => true | .bl _, .bl _ => true | .str _, .str _ => true | .byt _, .byt _ => true
  | .int _, .str _ => true | .str _, .int _ => true | .bl _, .str _ => true | .str _, .bl _ => true
  | _, _ => false
def rEq : R2 := fun x y H Q => scal x y = true ∧ Q (.bl (decide (x = y))) H
def rNe : R2 := fun x y H Q => scal x y = true ∧ Q (.bl (!decide (x = y))) H

theorem dec_int {i j : Int} : decide (V.int i = V.int j) = (i == j) := by
  rw [Bool.eq_iff_iff]
  simp
theorem dec_bl {i j : Bool} : decide (V.bl i = V.bl j) = (i == j) := by
  rw [Bool.eq_iff_iff]
  simp
theorem dec_str {i j : Str} : decide (V.str i = V.str j) = (i == j) := by
  rw [Bool.eq_iff_iff]
  simp
theorem dec_byt {i j : Array UInt8} : decide (V.byt i = V.byt j) = (i.toList == j.toList) := by
  rw [Bool.eq_iff_iff]
  cases i
  cases j
  simp

section
variable {X : Cx} {a b c : Expr} {ta tb tc : TE} {pos : Pos}
theorem fin_bl {pins : List (Addr × Obj)} {σ : St} {H : Hp} {s : Shared} {Q : VK} {k k' : Bool} (I : Inv X pins σ H s) (q : Q (.bl k) H) (e : k = k') : EP X pins σ Q (.bool k') s := by
  subst e
  exact ⟨.bl k, H, I, rfl, q⟩
theorem op_eq : OpR X (compareOp .Eq) rEq := by
  intro pins s σ H x y v u Q I rx ry h
  obtain ⟨hs, q⟩ := h
  cases x with
  | non =>
    cases rx
    cases y with
    | non => cases ry; exact PySem.EqNone.eq_none_none (fin_bl I q (by simp))
    | bl j => cases ry; exact PySem.EqNone.eq_none_bool (fin_bl I q (by simp))
    | int j => obtain ⟨t', rfl⟩ := ry; exact PySem.EqNone.eq_none_int (fin_bl I q (by simp))
    | str j => obtain ⟨t', rfl⟩ := ry; exact PySem.EqNone.eq_none_str (fin_bl I q (by simp))
    | _ => exact absurd (show false = true from hs) Bool.false_ne_true
  | bl i =>
    cases rx
    cases y with
    | non => cases ry; exact PySem.EqNone.eq_bool_none (fin_bl I q (by simp))
    | bl j => cases ry; exact eq_bool (fin_bl I q dec_bl)
    | str j => obtain ⟨t', rfl⟩ := ry; exact PySem.EqMixed.eq_bool_str (fin_bl I q (by simp))
    | _ => exact absurd (show false = true from hs) Bool.false_ne_true
  | int i =>
    obtain ⟨t, rfl⟩ := rx
    cases y with
    | non => cases ry; exact PySem.EqNone.eq_int_none (fin_bl I q (by simp))
    | int j => obtain ⟨t', rfl⟩ := ry; exact eq_int (fin_bl I q dec_int)
    | str j => obtain ⟨t', rfl⟩ := ry; exact PySem.EqMixed.eq_int_str (fin_bl I q (by simp))
    | _ => exact absurd (show false = true from hs) Bool.false_ne_true
  | str i =>
    obtain ⟨t, rfl⟩ := rx
    cases y with
    | non => cases ry; exact PySem.EqNone.eq_str_none (fin_bl I q (by simp))
    | bl j => cases ry; exact PySem.EqMixed.eq_str_bool (fin_bl I q (by simp))
    | int j => obtain ⟨t', rfl⟩ := ry; exact PySem.EqMixed.eq_str_int (fin_bl I q (by simp))
    | str j => obtain ⟨t', rfl⟩ := ry; exact eq_str (fin_bl I q dec_str)
    | _ => exact absurd (show false = true from hs) Bool.false_ne_true
  | byt i =>
    obtain ⟨t, rfl⟩ := rx
    cases y with
    | byt j => obtain ⟨t', rfl⟩ := ry; exact PySem.W.eq_bytes (fin_bl I q dec_byt)
    | _ => exact absurd (show false = true from hs) Bool.false_ne_true
  | _ => cases y <;> exact absurd (show false = true from hs) Bool.false_ne_true
theorem op_ne : OpR X (compareOp .NotEq) rNe := by
  intro pins s σ H x y v u Q I rx ry h
  obtain ⟨hs, q⟩ := h
  cases x with
  | non =>
    cases rx
    cases y with
    | non => cases ry; exact PySem.EqNone.ne_none_none (fin_bl I q (by simp))
    | bl j => cases ry; exact PySem.EqNone.ne_none_bool (fin_bl I q (by simp))
    | int j => obtain ⟨t', rfl⟩ := ry; exact PySem.EqNone.ne_none_int (fin_bl I q (by simp))
    | str j => obtain ⟨t', rfl⟩ := ry; exact PySem.EqNone.ne_none_str (fin_bl I q (by simp))
    | _ => exact absurd (show false = true from hs) Bool.false_ne_true
  | bl i =>
    cases rx
    cases y with
    | non => cases ry; exact PySem.EqNone.ne_bool_none (fin_bl I q (by simp))
    | bl j => cases ry; exact ne_bool (fin_bl I q (congrArg not dec_bl))
    | str j => obtain ⟨t', rfl⟩ := ry; exact PySem.EqMixed.ne_bool_str (fin_bl I q (by simp))
    | _ => exact absurd (show false = true from hs) Bool.false_ne_true
  | int i =>
    obtain ⟨t, rfl⟩ := rx
    cases y with
    | non => cases ry; exact PySem.EqNone.ne_int_none (fin_bl I q (by simp))
    | int j => obtain ⟨t', rfl⟩ := ry; exact ne_int (fin_bl I q (congrArg not dec_int))
    | str j => obtain ⟨t', rfl⟩ := ry; exact PySem.EqMixed.ne_int_str (fin_bl I q (by simp))
    | _ => exact absurd (show false = true from hs) Bool.false_ne_true
  | str i =>
    obtain ⟨t, rfl⟩ := rx
    cases y with
    | non => cases ry; exact PySem.EqNone.ne_str_none (fin_bl I q (by simp))
    | bl j => cases ry; exact PySem.EqMixed.ne_str_bool (fin_bl I q (by simp))
    | int j => obtain ⟨t', rfl⟩ := ry; exact PySem.EqMixed.ne_str_int (fin_bl I q (by simp))
    | str j => obtain ⟨t', rfl⟩ := ry; exact ne_str (fin_bl I q (congrArg not dec_str))
    | _ => exact absurd (show false = true from hs) Bool.false_ne_true
  | byt i =>
    obtain ⟨t, rfl⟩ := rx
    cases y with
    | byt j => obtain ⟨t', rfl⟩ := ry; exact PySem.W.ne_bytes (fin_bl I q (congrArg not dec_byt))
    | _ => exact absurd (show false = true from hs) Bool.false_ne_true
  | _ => cases y <;> exact absurd (show false = true from hs) Bool.false_ne_true

theorem op_lt : OpR X (compareOp .Lt) (rI0 fun i j => .bl (decide (i < j))) := opB0 fun _ _ _ _ _ _ _ q => lt_int q
theorem op_le : OpR X (compareOp .LtE) (rI0 fun i j => .bl (decide (i ≤ j))) := opB0 fun _ _ _ _ _ _ _ q => le_int q
theorem op_gt : OpR X (compareOp .Gt) (rI0 fun i j => .bl (decide (j < i))) := opB0 fun _ _ _ _ _ _ _ q => gt_int q
theorem op_notin_str : OpR X (compareOp .NotIn) (fun x y H Q => ∃ i j, x = .str i ∧ y = .str j ∧ Q (.bl (!(!(Builtin.Str.occurrences j i 0 j.length 1).isEmpty))) H) := by
  intro pins s σ H x y v u Q I rx ry h
  obtain ⟨i, j, rfl, rfl, q⟩ := h
  obtain ⟨t, rfl⟩ := rx
  obtain ⟨t', rfl⟩ := ry
  exact notIn_str (fin_bl I q rfl)
theorem OpR.or {f : Value → Value → Sem Value} {r r' : R2} (h : OpR X f r) (h' : OpR X f r') : OpR X f (fun x y H Q => r x y H Q ∨ r' x y H Q) := by
  intro pins s σ H x y v u Q I rx ry q
  rcases q with q | q
  · exact h pins s σ H x y v u Q I rx ry q
  · exact h' pins s σ H x y v u Q I rx ry q

theorem nomark (b : Expr) {op : CmpOp} (h : op ≠ .In := by decide) (h2 : op ≠ .NotIn := by decide) : behindInMarks op b = false := by
  have e1 : (op == CmpOp.In) = false := by cases op <;> first | rfl | exact absurd rfl h
  have e2 : (op == CmpOp.NotIn) = false := by cases op <;> first | rfl | exact absurd rfl h2
  cases b <;> simp [behindInMarks, e1, e2]
theorem pe_cmpR {op : CmpOp} {r : R2} (ho : OpR X (compareOp op) r) (ha : PE X a ta) (hb : PE X b tb) (hm : behindInMarks op b = false) : PE X (.Compare a [op] [b] pos) (tOp r ta tb) := by
  intro pins s σ H Q I h
  exact wpAny_Compare1 (binT ha hb I h fun v u s2 x y H2 I2 rx ry q => ho pins s2 σ H2 x y v u Q I2 rx ry q) hm
def tTest (t : TE) : TT := fun σ H Q => t σ H fun x H' => ∃ k, x = .bl k ∧ Q k H'
theorem pt_cmpR {op : CmpOp} {r : R2} (ho : OpR X (compareOp op) r) (ha : PE X a ta) (hb : PE X b tb) (hm : behindInMarks op b = false) : PT X (.Compare a [op] [b] pos) (tTest (tOp r ta tb)) := by
  intro pins s σ H Q I h
  refine wpAny_isTrue_Compare1 (thn (ha pins s σ H _ I h) fun v s1 ⟨x, H1, I1, r1, q1⟩ => thn (hb pins s1 σ H1 _ I1 q1) fun u s2 ⟨y, H2, I2, r2, q2⟩ =>
    thn (ho pins s2 σ H2 x y v u _ I2 r1 r2 q2) fun c s3 ⟨z, H3, I3, r3, k, e, q3⟩ => ?_) hm
  subst e
  cases r3
  exact wpAny_truthy_bool ⟨H3, I3, q3⟩
def tChain (r r' : R2) (ta tb tc : TE) : TE := fun σ H Q => ta σ H fun x H1 => tb σ H1 fun y H2 => r x y H2 fun z H3 => ∃ k, z = .bl k ∧
  (if k = true then tc σ H3 fun w' H4 => r' y w' H4 Q else Q (.bl false) H3)
theorem line63 : (sizeLine : Nat) < 2 ^ 63 := by rw [sizeLine_eq]; decide
theorem op_add_str : OpR X (binaryOp .Add) (fun x y H Q => ∃ i j, x = .str i ∧ y = .str j ∧ i.length + j.length ≤ sizeLine ∧ Q (.str (i ++ j)) H) := by
  intro pins s σ H x y v u Q I rx ry h
  obtain ⟨i, j, rfl, rfl, hz, q⟩ := h
  obtain ⟨t, rfl⟩ := rx
  obtain ⟨t', rfl⟩ := ry
  exact tokQ I.tk (add_str (fun t' tk (htk : 0 < tk) => ⟨.str (i ++ j), H, I.tok _, ⟨_, rfl⟩, q⟩) hz)
theorem vals1 {x : V} {us : List Value} (r : Vals [x] us) : ∃ u, us = [u] ∧ RelV x u := by
  cases r with
  | cons r1 r2 => cases r2; exact ⟨_, rfl, r1⟩
theorem vals2 {x y : V} {us : List Value} (r : Vals [x, y] us) : ∃ u w', us = [u, w'] ∧ RelV x u ∧ RelV y w' := by
  cases r with
  | cons r1 r2 =>
    cases r2 with
    | cons r3 r4 => cases r4; exact ⟨_, _, rfl, r1, r3⟩
theorem call_int1 : CallR X (.type "int") (fun xs H Q => (∃ i, xs = [.int i] ∧ Q (.int i) H) ∨ ∃ k, xs = [.bl k] ∧ Q (.int (if k then 1 else 0)) H) := by
  intro pins s σ H xs us Q I r h
  rcases h with ⟨i, rfl, q⟩ | ⟨k, rfl, q⟩
  · obtain ⟨u, rfl, t, rfl⟩ := vals1 r
    exact call_int_int ⟨.int i, H, I, ⟨_, rfl⟩, q⟩
  · obtain ⟨u, rfl, r1⟩ := vals1 r
    cases r1
    exact call_int_bool ⟨.int (if k then 1 else 0), H, I.tok _, ⟨_, rfl⟩, q⟩
end
end L2

namespace L2
open PySem PySem.Spec PyProof.Rows

structure ObjM (h : Heap) (x dx C : Addr) (mA : Str → Option Value) : Prop where
  obj : h.get? x = some (PySem.W.instObj C dx)
  ns : h.Ns1 dx mA
  ne : dx ≠ x

theorem lookIn_ns {h : Heap} {dx : Addr} {mA : Str → Option Value} (n : h.Ns1 dx mA) : ∃ od, h.get? dx = some od ∧ ∀ name, PySem.W.lookIn name od = some (mA name) := by
  obtain ⟨o, es, ep, ho, hd, hk, _, hm⟩ := n
  refine ⟨o, ho, fun name => ?_⟩
  have e := hm name
  unfold nsFind findBy at e
  rw [← Array.find?_toList] at e
  unfold PySem.W.lookIn
  rw [hd]
  dsimp only
  split
  · rename_i y q
    rw [q] at e
    exact congrArg some e
  · rename_i q
    rw [q] at e
    have a : es.toList.any (·.refKey) = false := by
      rw [List.any_eq_false]
      intro y hy
      obtain ⟨z, t, hkey⟩ := hk y (Array.mem_toList_iff.mp hy)
      simp [DictEntry.refKey, hkey]
    have a' : ¬ es.toList.any (·.refKey) = true := by rw [a]; exact Bool.false_ne_true
    rw [if_neg a']
    exact congrArg some e

theorem ObjM.look {h : Heap} {x dx C : Addr} {mA : Str → Option Value} (I : ObjM h x dx C mA) : ∃ od, PySem.W.InstAt h x (PySem.W.instObj C dx) C (some od) ∧ ∀ name, PySem.W.lookIn name od = some (mA name) :=
  let ⟨od, ho, hl⟩ := lookIn_ns I.ns
  ⟨od, ⟨I.obj, rfl, rfl, ho⟩, hl⟩

section
variable {prog : Program} {w : World} {A : Around} {E : Value → Shared → Prop} {s : Shared} {K : PySem.W.Frag} {x dx C f : Addr} {mA : Str → Option Value} {name : Str} {v : Value}

theorem get_map {expr : Bool} {Q : Value → Shared → Prop} (X : K.In s.heap) (I : ObjM s.heap x dx C mA) (hg : PySem.W.plainGet K C name = true) (hh : PySem.W.hasDictIn K C = true)
    (ha : PySem.W.findIn K (.ref C) name = some none) (hv : mA name = some v) (hv' : PySem.W.handedIn v = true) (h : Q v { s with toks := s.toks + 1 }) :
    wpAny (model prog w) A (getAttr (.ref x) name expr) Q E s := by
  obtain ⟨od, J, hl⟩ := I.look
  exact PySem.W.get_value X J (PySem.W.plainGet_of hg).1 (PySem.W.findObj_own hh ha rfl (by rw [hl, hv])) hv' h

theorem get_meth {pl : Sem Bool} {Q : Value × List Value → Shared → Prop} (X : K.In s.heap) (I : ObjM s.heap x dx C mA) (hg : PySem.W.plainGet K C name = true)
    (hf : PySem.W.findIn K (.ref C) name = some (some (.ref f))) (ht : PySem.W.isFn K (.ref f) = true) (hv : mA name = none) (h : Q (.ref f, [.ref x]) s) :
    wpAny (model prog w) A (getMethod (.ref x) name pl) Q E s := by
  obtain ⟨od, J, hl⟩ := I.look
  exact PySem.W.method_fn X J (PySem.W.plainGet_of hg).1 (PySem.W.plainGet_of hg).2 hf (beq_iff_eq.mp ht) (by show (PySem.W.lookIn name od).map (·.isSome) = some false; rw [hl, hv]; rfl) h

theorem set_map {ns : List Str} {Q : Unit → Shared → Prop} (X : K.In s.heap) (I : ObjM s.heap x dx C mA)
    (hs : PySem.W.findIn K (.ref C) "__setattr__" = some (some (.builtin "object.__setattr__"))) (hp : PySem.W.plainOver K C = true) (ht : PySem.W.takerIn K C name = some none) (hh : PySem.W.hasDictIn K C = true)
    (hw : PySem.Within mA ns) (hsz : ns.length ≤ sizeLine)
    (h : ∀ h', ObjM h' x dx C (fun y => if y = name then some v else mA y) → Heap.SameBut dx s.heap h' → Q () { s with heap := h', toks := s.toks + 2 }) :
    wpAny (model prog w) A (setAttr (.ref x) name v) Q E s := by
  obtain ⟨od, J, hl⟩ := I.look
  refine PySem.W.set_plain X J hs (PySem.W.osa_open (s := { s with toks := s.toks + 1 }) (r := none) X J hp ht fun b => ?_)
  obtain ⟨cd, hc, hd'⟩ := PySem.W.any_some hh
  have hx : s.heap.get? x = some ⟨.ref C, some dx, .plain, #[]⟩ := I.obj
  refine wpAny_bind (wpAny_pure (wpAny_bind (wpAny_bind (wpAny_loadPart hx (wpAny_bind (PySem.W.Looks.here (s := { s with toks := s.toks + 1 }) (PySem.W.looks_clsIn X hc) ?_))))))
  rw [hd']
  refine wpAny_pure (a := some dx) (wpAny_bind (wpAny_pure (wpAny_bind ?_)))
  refine wpAny_nsSet1 (s := { s with toks := s.toks + 1 }) I.ns fun h' hn2 hs2 => ?_
  obtain ⟨oD, esD, epD, hoD, hdD, hcD⟩ := hn2.count (PySem.Within.cons name v hw)
  refine wpAny_bind (wpAny_lookBehind hoD (by rw [hdD]; exact pastItsLine_dict (Nat.le_trans hcD (by rw [List.length_cons]; omega))) ?_)
  exact wpAny_pure (h _ ⟨(hs2.2 _ (Ne.symm I.ne)).trans I.obj, hn2, I.ne⟩ hs2)

theorem make_map {R : Result → Shared → Prop} {vs : List Value} {kw : List (Str × Value)} (X : K.In s.heap) (hm : PySem.W.makesIn K C = true)
    (hi : PySem.W.findIn K (.ref C) "__init__" = some (some (.ref f))) (hf : PySem.W.typeIn K (.ref f) = some (.type "function"))
    (h : codeAny (model prog w) (A.under (.builtin "type.__call__" ⟨.ref C :: vs, kw⟩)) (.call (.ref f) ⟨.ref (s.heap.objs.size + 1) :: vs, kw⟩) (PySem.W.InitBack (s.heap.objs.size + 1) R)
      { s with heap := (s.heap.push PySem.W.emptyDict).push (PySem.W.instObj C s.heap.objs.size) }) :
    codeAny (model prog w) A (.call (.ref C) ⟨vs, kw⟩) R s := by
  obtain ⟨hh, g, d, t, os⟩ := s
  exact PySem.W.make_core (PySem.W.makes_of X hm) (PySem.W.looks_findIn X hi) (fun self => PySem.W.bind_fn X self hf) (.inl rfl) h
end

def putF (f : Str) (v : V) : List (Str × V) → List (Str × V)
  | [] => [(f, v)]
  | (g, x) :: r => if g = f then (g, v) :: r else (g, x) :: putF f v r
theorem lookup_putF (f g : Str) (v : V) : ∀ fs : List (Str × V), (putF f v fs).lookup g = if g = f then some v else fs.lookup g
  | [] => by
    show List.lookup g [(f, v)] = _
    by_cases h : g = f
    · have hb : (g == f) = true := beq_iff_eq.mpr h
      simp only [List.lookup, hb, if_pos h]
    · have hb : (g == f) = false := beq_eq_false_iff_ne.mpr h
      simp only [List.lookup, hb, if_neg h]
  | (k, x) :: r => by
    have ih := lookup_putF f g v r
    rw [show putF f v ((k, x) :: r) = (if k = f then (k, v) :: r else (k, x) :: putF f v r) from rfl]
    by_cases hk : k = f
    · rw [if_pos hk]
      by_cases h : g = k
      · have hb : (g == k) = true := beq_iff_eq.mpr h
        simp only [List.lookup, hb, if_pos (h.trans hk)]
      · have hb : (g == k) = false := beq_eq_false_iff_ne.mpr h
        simp only [List.lookup, hb, if_neg (fun e : g = f => h (e.trans hk.symm))]
    · rw [if_neg hk]
      by_cases h : g = k
      · have hb : (g == k) = true := beq_iff_eq.mpr h
        simp only [List.lookup, hb, if_neg (fun e : g = f => hk (h.symm.trans e))]
      · have hb : (g == k) = false := beq_eq_false_iff_ne.mpr h
        simp only [List.lookup, hb]
        exact ih
theorem keys_putF (f : Str) (v : V) : ∀ fs : List (Str × V), f ∈ (putF f v fs).map (·.1) ∧ ∀ g, g ∈ fs.map (·.1) → g ∈ (putF f v fs).map (·.1)
  | [] => ⟨by simp [putF], fun g h => by simp at h⟩
  | (k, x) :: r => by
    obtain ⟨i1, i2⟩ := keys_putF f v r
    rw [show putF f v ((k, x) :: r) = (if k = f then (k, v) :: r else (k, x) :: putF f v r) from rfl]
    by_cases hk : k = f
    · rw [if_pos hk]
      subst hk
      exact ⟨by simp, fun g h => by simpa using h⟩
    · rw [if_neg hk]
      refine ⟨?_, fun g h => ?_⟩
      · rw [List.map_cons]
        exact List.mem_cons_of_mem _ i1
      · rw [List.map_cons] at h ⊢
        rcases List.mem_cons.mp h with e | e
        · exact List.mem_cons.mpr (.inl e)
        · exact List.mem_cons_of_mem _ (i2 g e)
theorem length_putF (f : Str) (v : V) : ∀ fs : List (Str × V), (putF f v fs).length ≤ fs.length + 1
  | [] => by simp [putF]
  | (k, x) :: r => by
    have ih := length_putF f v r
    rw [show putF f v ((k, x) :: r) = (if k = f then (k, v) :: r else (k, x) :: putF f v r) from rfl]
    by_cases hk : k = f
    · rw [if_pos hk, List.length_cons, List.length_cons]; omega
    · rw [if_neg hk, List.length_cons, List.length_cons]; omega

theorem RelO.some_of {v : V} {o : Option Value} (r : RelO (some v) o) : ∃ u, o = some u ∧ RelV v u := by
  cases o with
  | none => exact (show False from r).elim
  | some u => exact ⟨u, rfl, r⟩
theorem RelO.none_of {o : Option Value} (r : RelO none o) : o = none := by
  cases o with
  | none => rfl
  | some u => exact (show False from r).elim
theorem handed_of {v : V} {u : Value} (r : RelV v u) : PySem.W.handedIn u = true := by
  cases v with
  | non => cases (show u = Value.none from r); rfl
  | bl b => cases (show u = Value.bool b from r); rfl
  | int i => obtain ⟨t, e⟩ := (show ∃ t, u = Value.int i t from r); cases e; rfl
  | str x => obtain ⟨t, e⟩ := (show ∃ t, u = Value.str x t from r); cases e; rfl
  | byt b => obtain ⟨t, e⟩ := (show ∃ t, u = Value.bytes b t from r); cases e; rfl
  | flt b => obtain ⟨t, e⟩ := (show ∃ t, u = Value.float b t from r); cases e; rfl
  | ref a => cases (show u = Value.ref a from r); rfl
  | ty n => cases (show u = Value.type n from r); rfl

section
variable {P : Program} {w : World} {H H' : Hp} {h h' : Heap} {a C dx : Addr} {fs fs' : List (Str × V)}
theorem ins_get (hok : HOk P w H h) (e : H a = some (.ins C dx fs)) : ∃ mA, ObjM h a dx C mA ∧ (∀ f, RelO (fs.lookup f) (mA f)) ∧ PySem.Within mA (fs.map (·.1)) ∧ fs.length ≤ 1000 ∧ H dx = some (.own a) := by
  obtain ⟨d, z, ne, ob, mA, n, r, q⟩ := (show ObjOk P w H h a (.ins C dx fs) from hok a _ e)
  exact ⟨mA, ⟨ob, n, ne⟩, r, q, z, d⟩
end

structure Cls (K : PySem.W.Frag) (C : Addr) : Prop where
  pg : PySem.W.plainGet K C Str.empty = true
  hd : PySem.W.hasDictIn K C = true
  po : PySem.W.plainOver K C = true
  sa : PySem.W.findIn K (.ref C) "__setattr__" = some (some (.builtin "object.__setattr__"))
theorem Cls.get {K : PySem.W.Frag} {C : Addr} (c : Cls K C) (f : Str) : PySem.W.plainGet K C f = true := c.pg
def NoAttr (K : PySem.W.Frag) (C : Addr) (f : Str) : Prop := PySem.W.findIn K (.ref C) f = some none
theorem NoAttr.taker {K : PySem.W.Frag} {C : Addr} {f : Str} (n : NoAttr K C f) : PySem.W.takerIn K C f = some none := by
  unfold PySem.W.takerIn
  rw [show PySem.W.findIn K (.ref C) f = some none from n]
  rfl
structure Con (K : PySem.W.Frag) (C : Addr) (f : Str) (v : V) (u : Value) : Prop where
  at_ : PySem.W.findIn K (.ref C) f = some (some u)
  rel : RelV v u
  get : PySem.W.specialIn K u "__get__" = some none
  cp : PySem.W.copiedNames.contains f = false
structure Meth (K : PySem.W.Frag) (C : Addr) (m : Str) (f : Addr) : Prop where
  at_ : PySem.W.findIn K (.ref C) m = some (some (.ref f))
  fn : PySem.W.isFn K (.ref f) = true
  kp : PySem.W.keepIn K (.ref f) = true

section
variable {X : Cx} {pins : List (Addr × Obj)} {σ : St} {H : Hp} {s : Shared} {a C dx : Addr} {fs : List (Str × V)} {f : Str} {v : V} {A : Around} {E : Value → Shared → Prop}

theorem getattr_ok {b : Bool} {Q : Value → Shared → Prop} (I : Inv X pins σ H s) (e : H a = some (.ins C dx fs)) (c : Cls X.K C) (n : NoAttr X.K C f) (l : fs.lookup f = some v)
    (h : ∀ u s', Inv X pins σ H s' → RelV v u → Q u s') : wpAny (model X.prog X.w) A (getAttr (.ref a) f b) Q E s := by
  obtain ⟨mA, O, r, _, _, _⟩ := ins_get I.hok e
  obtain ⟨u, hu, ru⟩ := RelO.some_of (v := v) (o := mA f) (by rw [← l]; exact r f)
  exact get_map I.kIn O (c.get f) c.hd n hu (handed_of ru) (h u _ (I.tok _) ru)

theorem getmeth_ok {m : Str} {g : Addr} {pl : Sem Bool} {Q : Value × List Value → Shared → Prop} (I : Inv X pins σ H s) (e : H a = some (.ins C dx fs)) (c : Cls X.K C) (k : Meth X.K C m g) (l : fs.lookup m = none)
    (h : Q (.ref g, [.ref a]) s) : wpAny (model X.prog X.w) A (getMethod (.ref a) m pl) Q E s := by
  obtain ⟨mA, O, r, _, _, _⟩ := ins_get I.hok e
  have hn : mA m = none := RelO.none_of (by rw [← l]; exact r m)
  exact get_meth I.kIn O (c.get m) k.at_ k.fn hn h

theorem setattr_ok {y : V} {u : Value} {Q : Unit → Shared → Prop} (I : Inv X pins σ H s) (e : H a = some (.ins C dx fs)) (c : Cls X.K C) (n : NoAttr X.K C f) (hl : fs.length < 1000) (ry : RelV y u)
    (h : ∀ s', Inv X pins σ (upd H a (.ins C dx (putF f y fs))) s' → Q () s') : wpAny (model X.prog X.w) A (setAttr (.ref a) f u) Q E s := by
  obtain ⟨mA, O, r, wi, _, ho⟩ := ins_get I.hok e
  have hz : (fs.map (·.1)).length ≤ sizeLine := by rw [List.length_map, sizeLine_eq]; omega
  refine set_map I.kIn O c.sa c.po n.taker c.hd wi hz fun h' O' sb => h _ ?_
  have hd : ∃ o, h'.get? dx = some o := let ⟨o, _, _, e', _⟩ := O'.ns; ⟨o, e'⟩
  refine I.write (x := a) (e := dx) (by rw [e]; exact True.intro) (.inr ho) (fun b q hb z => (sb.2 b hb).trans z) hd ?_
  refine ⟨by rw [upd_ne O.ne]; exact ho, ?_, O.ne, O'.obj, _, O'.ns, fun g => ?_, fun g hg => ?_⟩
  · have := length_putF f y fs; omega
  · show RelO ((putF f y fs).lookup g) (if g = f then some u else mA g)
    rw [lookup_putF]
    by_cases q : g = f
    · rw [if_pos q, if_pos q]; exact ry
    · rw [if_neg q, if_neg q]; exact r g
  · by_cases q : g = f
    · rw [q]; exact (keys_putF f y fs).1
    · refine (keys_putF f y fs).2 g (wi g fun z => hg ?_)
      show (if g = f then some u else mA g) = none
      rw [if_neg q]; exact z

theorem Inv.made (I : Inv X pins σ H s) : Inv X pins σ (upd (upd H s.heap.objs.size (.own (s.heap.objs.size + 1))) (s.heap.objs.size + 1) (.ins C s.heap.objs.size []))
    { s with heap := (s.heap.push PySem.W.emptyDict).push (PySem.W.instObj C s.heap.objs.size) } := by
  have e1 : (s.heap.push PySem.W.emptyDict).get? s.heap.objs.size = some PySem.W.emptyDict := Heap.get?_push_size s.heap rfl
  have e2 : ((s.heap.push PySem.W.emptyDict).push (PySem.W.instObj C s.heap.objs.size)).get? (s.heap.objs.size + 1) = some (PySem.W.instObj C s.heap.objs.size) := by
    have := Heap.get?_push_size (s.heap.push PySem.W.emptyDict) (o := PySem.W.instObj C s.heap.objs.size) rfl
    rwa [Heap.size_push] at this
  have e3 : (s.heap.push PySem.W.emptyDict).Ns s.heap.objs.size (fun _ => none) := ⟨PySem.W.emptyDict, #[], _, e1, rfl, (fun e he => absurd he (by simp)), fun _ => rfl⟩
  have I1 := I.laid (a := s.heap.objs.size) (o := .own (s.heap.objs.size + 1)) (h' := s.heap.push PySem.W.emptyDict) (t' := s.toks) (fun b u q => Heap.get?_push_of_some _ q) (Nat.le_refl _) ⟨_, e1⟩
  refine I1.laid (a := s.heap.objs.size + 1) (o := .ins C s.heap.objs.size []) (t' := s.toks) (fun b u q => Heap.get?_push_of_some _ q) (Nat.le_of_eq (Heap.size_push _ _)) ?_
  have ne : s.heap.objs.size ≠ s.heap.objs.size + 1 := Nat.ne_of_lt (Nat.lt_succ_self _)
  refine ⟨by rw [upd_ne ne, upd_same], Nat.zero_le _, ne, e2, fun _ => none, (Heap.Ns1.of_empty e3).at fun o q => Heap.get?_push_of_some _ q, fun _ => True.intro, fun y hy => absurd rfl hy⟩

theorem attr_of {prog : Program} {w : World} {env : Env} {e : Expr} {f : Str} {pos : Pos} {s : Shared} {Q : Value → Shared → Prop} (hb : attributeBase e f env (eval e env) = eval e env)
    (h : wpAny (model prog w) A (eval e env) (fun o s₁ => wpAny (model prog w) A (getAttr o f true) Q E s₁) E s) : wpAny (model prog w) A (eval (.Attribute e f pos) env) Q E s :=
  Attribute_any_ h (by rw [arm_eval_Attribute, hb])
end

def tFld (K : PySem.W.Frag) (ta : TE) (f : Str) : TE := fun σ H Q => ta σ H fun x H1 => ∃ a C dx fs v, x = .ref a ∧ H1 a = some (.ins C dx fs) ∧ Cls K C ∧ NoAttr K C f ∧ fs.lookup f = some v ∧ Q v H1
def sFld (K : PySem.W.Frag) (ta tv : TE) (f : Str) : TS := fun D σ H => tv σ H fun y H1 => ta σ H1 fun x H2 => ∃ a C dx fs, x = .ref a ∧ H2 a = some (.ins C dx fs) ∧ Cls K C ∧ NoAttr K C f ∧ fs.length < 1000 ∧
  D.nx σ (upd H2 a (.ins C dx (putF f y fs)))
section
variable {X : Cx} {o e value : Expr} {f : Str} {pos pos' tpos : Pos} {ta tv : TE}
theorem pe_fld (he : PE X e ta) (hb : attributeBase e f X.env (eval e X.env) = eval e X.env) : PE X (.Attribute e f pos) (tFld X.K ta f) := by
  intro pins s σ H Q I h
  refine attr_of hb (thn (he pins s σ H _ I h) fun u s1 ⟨x, H1, I1, rx, a, C, dx, fs, v, ex, ea, c, n, l, q⟩ => ?_)
  subst ex
  obtain rfl : u = Value.ref a := rx
  exact getattr_ok I1 ea c n l fun u' s2 I2 ru => ⟨v, H1, I2, ru, q⟩
theorem ps_fld (ha : PE X o ta) (hv : PE X value tv) (hs : swapsWith value (some (.Attribute o f pos')) pos.line X.env = pure false) : PS X (.Assign [.Attribute o f pos'] value pos) (sFld X.K ta tv f) := by
  intro pins s σ H D I h
  refine plainObj_wpAny_Assign_Attribute (thn (hv pins s σ H _ I h) fun u s1 ⟨y, H1, I1, ry, q⟩ => thn (ha pins s1 σ H1 _ I1 q) fun ov s2 ⟨x, H2, I2, rx, a, C, dx, fs, ex, ea, c, n, l, q2⟩ => ?_) hs
  subst ex
  obtain rfl : ov = Value.ref a := rx
  exact setattr_ok I2 ea c n l ry fun s3 I3 => ⟨σ, _, I3, q2⟩
end

section
variable {X : Cx} {pins : List (Addr × Obj)} {σ : St} {H : Hp} {s : Shared} {A : Around} {E : Value → Shared → Prop} {Q : Value → Shared → Prop} {c : Value} {b : Bool}
inductive TyOf (K : PySem.W.Frag) (H : Hp) : V → Value → Prop where
  | non : TyOf K H .non (.type "NoneType")
  | bl (x : Bool) : TyOf K H (.bl x) (.type "bool")
  | int (i : Int) : TyOf K H (.int i) (.type "int")
  | str (x : Str) : TyOf K H (.str x) (.type "str")
  | flt (x : UInt64) : TyOf K H (.flt x) (.type "float")
  | lst {a : Addr} {xs : List V} (e : H a = some (.lst xs)) : TyOf K H (.ref a) (.type "list")
  | frz {a : Addr} {o : Obj} {xs : List V} (e : H a = some (.frz o (.lst xs))) : TyOf K H (.ref a) (.type "list")
  | tup {a : Addr} {xs : List V} (e : H a = some (.tup xs)) : TyOf K H (.ref a) (.type "tuple")
  | dK {a : Addr} {kvs : List (Key × V)} (e : H a = some (.dK kvs)) : TyOf K H (.ref a) (.type "dict")
  | dT {a : Addr} {kvs : List (List Key × V)} (e : H a = some (.dT kvs)) : TyOf K H (.ref a) (.type "dict")
  | ins {a C dx : Addr} {fs : List (Str × V)} (e : H a = some (.ins C dx fs)) (cl : Cls K C) (ha : PySem.W.findIn K (.ref C) "__class__" = some (some (.builtin "object.__class__")))
      (hn : PySem.W.specialIn K (.builtin "object.__class__") "__get__" = some (some (.builtin "getset_descriptor.__get__"))) (htk : PySem.W.takesIn K (.builtin "object.__class__") = some true)
      (hm : PySem.W.mroIn K C (.type "object") = some true) : TyOf K H (.ref a) (.ref C)
theorem isinst_ok {x : V} {u t : Value} (I : Inv X pins σ H s) (rx : RelV x u) (ty : TyOf X.K H x t) (e : PySem.W.kitOne X.K t c = some b) (h : ∀ tk, Q (.bool b) { s with toks := tk }) :
    wpAny (model X.prog X.w) A (call (.builtin "isinstance") [u, c]) Q E s := by
  cases ty with
  | non => cases (show u = Value.none from rx); exact PySem.W.kia_one PySem.W.kitx_none I.kIn True.intro e (fun z => nomatch z) h
  | bl y => cases (show u = Value.bool y from rx); exact PySem.W.kia_one PySem.W.kitx_bool I.kIn True.intro e (fun z => nomatch z) h
  | int i => obtain ⟨t, q⟩ := (show ∃ t, u = Value.int i t from rx); cases q; exact PySem.W.kia_one PySem.W.kitx_int I.kIn True.intro e (fun z => nomatch z) h
  | str y => obtain ⟨t, q⟩ := (show ∃ t, u = Value.str y t from rx); cases q; exact PySem.W.kia_one PySem.W.kitx_str I.kIn True.intro e (fun z => nomatch z) h
  | flt y => obtain ⟨t, q⟩ := (show ∃ t, u = Value.float y t from rx); cases q; exact PySem.W.kia_one PySem.W.kitx_float I.kIn True.intro e (fun z => nomatch z) h
  | @lst a xs ea =>
    cases (show u = Value.ref a from rx)
    obtain ⟨_, _, n, _, h1⟩ := (show ObjOk X.prog X.w H s.heap a (.lst xs) from I.hok a _ ea)
    exact PySem.W.kia_one PySem.W.kitx_list I.kIn ⟨_, h1, rfl⟩ e (fun z => nomatch z) h
  | @frz a ob xs ea =>
    cases (show u = Value.ref a from rx)
    obtain ⟨_, _, _, n, _, h1⟩ := (show ObjOk X.prog X.w H s.heap a (.frz ob (.lst xs)) from I.hok a _ ea)
    exact PySem.W.kia_one PySem.W.kitx_list I.kIn ⟨_, h1, rfl⟩ e (fun z => nomatch z) h
  | @tup a xs ea =>
    cases (show u = Value.ref a from rx)
    obtain ⟨_, _, _, p⟩ := (show ObjOk X.prog X.w H s.heap a (.tup xs) from I.hok a _ ea)
    obtain ⟨o, h1, h2, _⟩ := p
    exact PySem.W.kia_one PySem.W.kitx_tuple I.kIn ⟨o, h1, h2⟩ e (fun z => nomatch z) h
  | @dK a kvs ea =>
    cases (show u = Value.ref a from rx)
    obtain ⟨_, _, vs, _, p⟩ := (show ObjOk X.prog X.w H s.heap a (.dK kvs) from I.hok a _ ea)
    obtain ⟨o, es, ep, h1, h2, _⟩ := p
    exact PySem.W.kia_one PySem.W.kitx_dict I.kIn ⟨o, h1, h2.1⟩ e (fun z => nomatch z) h
  | @dT a kvs ea =>
    cases (show u = Value.ref a from rx)
    obtain ⟨_, _, xs, _, o, es, ep, h1, h2, _⟩ := (show ObjOk X.prog X.w H s.heap a (.dT kvs) from I.hok a _ ea)
    exact PySem.W.kia_one PySem.W.kitx_dict I.kIn ⟨o, h1, h2.1⟩ e (fun z => nomatch z) h
  | @ins a C dx fs ea cl ha hn htk hm =>
    cases (show u = Value.ref a from rx)
    obtain ⟨mA, O, _⟩ := ins_get I.hok ea
    obtain ⟨od, J, _⟩ := O.look
    exact PySem.W.kia_one (PySem.W.kitx_own (cl.get _) cl.hd ha hn htk hm) I.kIn J e (fun z => nomatch z) h
end
end L2

namespace L2
open PySem PySem.Spec PyProof.Rows

structure Room (k : Nat) (A : Around) : Prop where
  hd : A.handled = none
  dp : A.depth + 3 * k + 5 < recursionLimit
  un : A.units + 16 * k + 200 < cLine
  gd : A.guards = some []
theorem Room.mono {j k : Nat} {A : Around} (r : Room k A) (h : j ≤ k) : Room j A := ⟨r.hd, by have := r.dp; omega, by have := r.un; omega, r.gd⟩
theorem Room.deeper {k : Nat} {A : Around} (r : Room (k + 1) A) (env : Env) : Room k (A.deeper env) :=
  ⟨r.hd, by have := r.dp; show A.depth + 1 + 3 * k + 5 < _; omega, by have := r.un; show A.units + 3 + 16 * k + 200 < _; omega, r.gd⟩
theorem Room.in1 {k : Nat} {A : Around} (r : Room (k + 1) A) : Room k A.in1 :=
  ⟨r.hd, by have := r.dp; show A.depth + 3 * k + 5 < _; omega, by have := r.un; show A.units + 1 + 16 * k + 200 < _; omega, r.gd⟩
theorem make_depth {A : Around} {C : Addr} {us : List Value} {kw : List (Str × Value)} : (A.under (.builtin "type.__call__" ⟨.ref C :: us, kw⟩)).depth = A.depth + 1 := by
  first | rfl | simp [Around.under, Code.weight, Code.isCreation, Code.isGuard, Code.isCaller, Code.frames, Code.isFrame, guardIds]
theorem make_units {A : Around} {C : Addr} {us : List Value} {kw : List (Str × Value)} : (A.under (.builtin "type.__call__" ⟨.ref C :: us, kw⟩)).units = A.units + 1 := by
  first | rfl | simp [Around.under, Code.cUnits, Code.frames, Code.isFrame]
theorem Room.make {k : Nat} {A : Around} (r : Room (k + 1) A) (C : Addr) (us : List Value) (kw : List (Str × Value)) : Room k (A.under (.builtin "type.__call__" ⟨.ref C :: us, kw⟩)) :=
  ⟨r.hd, by have := r.dp; rw [make_depth]; omega, by have := r.un; rw [make_units]; omega, by first | exact r.gd | (simpa [Around.under, Code.guards, Code.isGuard, pushGuards, guardIds] using r.gd)⟩
theorem Room.depth {k : Nat} {A : Around} (r : Room k A) : A.depth < recursionLimit := by have := r.dp; omega
theorem Room.units {k : Nat} {A : Around} (r : Room k A) : A.units + 64 < cLine := by have := r.un; omega
theorem Room.units0 {k : Nat} {A : Around} (r : Room k A) : A.units < cLine := by have := r.un; omega

def tNil : TA := fun _ H Q => Q [] H
def tCons (ta : TE) (tr : TA) : TA := fun σ H Q => ta σ H fun x H1 => tr σ H1 fun xs H2 => Q (x :: xs) H2
section
variable {X : Cx} {e : Expr} {es : List Expr} {te : TE} {t : TA} {pos : Pos}
theorem pa_nil : PA X [] tNil := fun _ _ _ _ H Q I h => Calls.spliced_nil ⟨[], H, I, .nil, h⟩
theorem pa_cons (ha : PE X e te) (hr : PA X es t) (hs : starEach (e :: es) X.env = (false, eval e X.env) :: starEach es X.env := by rfl) : PA X (e :: es) (tCons te t) := by
  intro pos pins s σ H Q I h
  rw [hs]
  show wpAny _ _ (spliced ((false, eval e X.env) :: backTo pos (starEach es X.env))) _ _ s
  refine Calls.spliced_cons (thn (ha pins s σ H _ I h) fun u s1 ⟨x, H1, I1, r1, q1⟩ => ?_)
  exact thn (hr pos pins s1 σ H1 _ I1 q1) fun us s2 ⟨xs, H2, I2, r2, q2⟩ => ⟨x :: xs, H2, I2, .cons r1 r2, q2⟩

def tTup (t : TA) : TE := fun σ H Q => t σ H fun xs H1 => xs.length ≤ sizeLine ∧ ∀ p, H1 p = none → Q (.ref p) (upd H1 p (.tup xs))
def tLst (t : TA) : TE := fun σ H Q => t σ H fun xs H1 => xs.length ≤ sizeLine ∧ ∀ p, H1 p = none → Q (.ref p) (upd H1 p (.lst xs))
theorem pe_tup {x1} (h : PA X es t) : PE X (.Tuple es x1 pos) (tTup t) := by
  intro pins s σ H Q I hq
  refine wpAny_Tuple_spliced (thn (h pos pins s σ H _ I hq) fun us s1 ⟨xs, H1, I1, r, z, q⟩ => ⟨by rw [← r.length]; exact z, ?_⟩)
  have hf : H1 s1.heap.objs.size = none := I1.hok.fresh (Nat.le_refl _)
  refine ⟨.ref s1.heap.objs.size, upd H1 s1.heap.objs.size (.tup xs), I1.laid (t' := s1.toks) (fun b u e => Heap.get?_push_of_some _ e) (Nat.le_refl _) ?_, rfl, q _ hf⟩
  exact ⟨z, us, r, ⟨_, Heap.get?_push_size _ rfl, rfl, _, rfl⟩⟩
theorem pe_lst (h : PA X es t) : PE X (.List es pos) (tLst t) := by
  intro pins s σ H Q I hq
  refine wpAny_List_spliced (thn (h pos pins s σ H _ I hq) fun us s1 ⟨xs, H1, I1, r, z, q⟩ => ⟨by rw [← r.length]; exact z, ?_⟩)
  have hf : H1 s1.heap.objs.size = none := I1.hok.fresh (Nat.le_refl _)
  refine ⟨.ref s1.heap.objs.size, upd H1 s1.heap.objs.size (.lst xs), I1.laid (t' := s1.toks) (fun b u e => Heap.get?_push_of_some _ e) (Nat.le_refl _) ?_, rfl, q _ hf⟩
  exact ⟨z, us, 0, r, Heap.get?_push_size _ rfl⟩
end

abbrev Sp := List V → Hp → VK → XK → Prop
abbrev CXT := List Env → Hp → Shared → XK → Value → Shared → Prop

structure Env0 (P : Program) (w : World) (K : PySem.W.Frag) (mg : Str → Option Value) (base : Heap) (A : Around) (outer : List Env) (s : Shared) (H : Hp) : Prop where
  frames : A.frames = some outer
  mod : Mod K mg base
  bs : ∀ b o, base.get? b = some o → s.heap.get? b = some o ∧ H b = none
  bsz : base.objs.size ≤ s.heap.objs.size
  funs : s.heap.FunFrames base outer
  frf : ∀ b ∈ frs outer, H b = none
  hok : HOk P w H s.heap
  bare : AllBare s.gens
  tk : 0 < s.toks
def CE (outer : List Env) (P : Program) (w : World) (H : Hp) (s : Shared) (Q : VK) (u : Value) (s' : Shared) : Prop :=
  ∃ v H', 0 < s'.toks ∧ s'.os = s.os ∧ AllBare s'.gens ∧ Un (frs outer) [] H H' s.heap s'.heap ∧ HOk P w H' s'.heap ∧ RelV v u ∧ Q v H'
def CR (CX : CXT) (outer : List Env) (P : Program) (w : World) (H : Hp) (s : Shared) (Q : VK) (E : XK) (r : Result) (s' : Shared) : Prop :=
  match r with
  | .ok (.ret u) => CE outer P w H s Q u s'
  | .ok _ => False
  | .error e => CX outer H s E e s'
structure FnOk (P : Program) (w : World) (K : PySem.W.Frag) (mg : Str → Option Value) (base : Heap) (CX : CXT) (k : Nat) (f : Addr) (fd : FuncData) (ps : List Str) (sp : Sp) : Prop where
  len : ∀ vs H Q E, sp vs H Q E → vs.length = ps.length
  run : ∀ (A : Around) (outer : List Env) (s : Shared) (H : Hp) (args : Args) (us : List Value) (vs : List V) (Q : VK) (E : XK), Room k A → Env0 P w K mg base A outer s H → BindsTo s fd args (ps.zip us) → Vals vs us → sp vs H Q E →
    codeAny (model P w) A (.call (.ref f) args) (CR CX outer P w H s Q E) s
theorem FnOk.mono {P : Program} {w : World} {K : PySem.W.Frag} {mg : Str → Option Value} {base : Heap} {CX : CXT} {j k : Nat} {f : Addr} {fd : FuncData} {ps : List Str} {sp : Sp} (F : FnOk P w K mg base CX j f fd ps sp) (h : j ≤ k) :
    FnOk P w K mg base CX k f fd ps sp := ⟨F.len, fun A outer s H args us vs Q E hr => F.run A outer s H args us vs Q E (hr.mono h)⟩
theorem FnOk.imp {P : Program} {w : World} {K : PySem.W.Frag} {mg : Str → Option Value} {base : Heap} {CX : CXT} {k : Nat} {f : Addr} {fd : FuncData} {ps : List Str} {sp sp' : Sp} (F : FnOk P w K mg base CX k f fd ps sp)
    (h : ∀ vs H Q E, sp' vs H Q E → sp vs H Q E) : FnOk P w K mg base CX k f fd ps sp' :=
  ⟨fun vs H Q E q => F.len vs H Q E (h _ _ _ _ q), fun A outer s H args us vs Q E hr he hb hv hs => F.run A outer s H args us vs Q E hr he hb hv (h _ _ _ _ hs)⟩

theorem Env0.make {P : Program} {w : World} {K : PySem.W.Frag} {mg : Str → Option Value} {base : Heap} {A : Around} {outer : List Env} {s : Shared} {H : Hp} (e : Env0 P w K mg base A outer s H) (C : Addr) (us : List Value) (kw : List (Str × Value)) :
    Env0 P w K mg base (A.under (.builtin "type.__call__" ⟨.ref C :: us, kw⟩)) outer s H := ⟨by first | exact e.frames | (simpa [Around.under, Code.envs, Code.isFrame, pushEnvs] using e.frames), e.mod, e.bs, e.bsz, e.funs, e.frf, e.hok, e.bare, e.tk⟩
theorem Env0.in1 {P : Program} {w : World} {K : PySem.W.Frag} {mg : Str → Option Value} {base : Heap} {A : Around} {outer : List Env} {s : Shared} {H : Hp} (e : Env0 P w K mg base A outer s H) :
    Env0 P w K mg base A.in1 outer s H := ⟨e.frames, e.mod, e.bs, e.bsz, e.funs, e.frf, e.hok, e.bare, e.tk⟩

section
variable {X : Cx} {pins : List (Addr × Obj)} {σ : St} {H : Hp} {s s' : Shared}
theorem Inv.env0 (I : Inv X pins σ H s) : Env0 X.prog X.w X.K X.mg X.base X.A X.stack s H :=
  ⟨I.ok.frames, I.ok.mod, I.bs, Nat.le_trans I.ok.bsz I.sz, I.stack, I.stkFree, I.hok, I.bare, I.tk⟩
theorem Inv.after {Q : VK} {u : Value} (I : Inv X pins σ H s) (h : CE X.stack X.prog X.w H s Q u s') : EP X pins σ Q u s' := by
  obtain ⟨v, H', ht, os, bare, un, hok, r, q⟩ := h
  obtain ⟨hh, g, d, t, os'⟩ := s'
  obtain rfl : os' = s.os := os
  exact ⟨v, H', I.call (h' := hh) (g' := g) (d' := d) (t' := t) (ch := []) un hok bare (fun b z => absurd z (by simp)) ht, r, q⟩
end

def tCall (sp : Sp) (dvs : List V) (E : XK) (t : TA) : TE := fun σ H Q => t σ H fun vs H1 => sp (vs ++ dvs) H1 Q E
def tMeth (C : Addr) (m : Str) (sp : Sp) (dvs : List V) (E : XK) (ta : TE) (t : TA) : TE := fun σ H Q => ta σ H fun x H1 => ∃ a dx fs, x = .ref a ∧ H1 a = some (.ins C dx fs) ∧ fs.lookup m = none ∧
  t σ H1 fun vs H2 => sp (x :: (vs ++ dvs)) H2 Q E
def tMake (C : Addr) (sp : Sp) (dvs : List V) (E : XK) (t : TA) : TE := fun σ H Q => t σ H fun vs H1 => ∀ x dx, H1 x = none → H1 dx = none → dx ≠ x →
  sp (.ref x :: (vs ++ dvs)) (upd (upd H1 dx (.own x)) x (.ins C dx [])) (fun v H2 => v = .non ∧ Q (.ref x) H2) E

def Binds (K : PySem.W.Frag) (fd : FuncData) (ps : List Str) (ds : List Value) : Prop :=
  ∀ (s : Shared) (us : List Value), K.In s.heap → (us ++ ds).length = ps.length → BindsTo s fd ⟨us, []⟩ (ps.zip (us ++ ds))
theorem Binds.all {K : PySem.W.Frag} {fd : FuncData} {ps : List Str} (h : ∀ us : List Value, us.length = ps.length → bindArgs fd ⟨us, []⟩ = pure (ps.zip us)) : Binds K fd ps [] := fun s us _ hl => by
  rw [List.append_nil] at hl ⊢
  exact .of_eq (h us hl)

def Passes (CX : CXT) (X : Cx) (E : XK) : Prop := ∀ (pins : List (Addr × Obj)) (σ : St) (H : Hp) (s : Shared) (e : Value) (s' : Shared), Inv X pins σ H s → CX X.stack H s E e s' → X.xe e s'

section
variable {X : Cx} {CX : CXT} {k : Nat} {f C : Addr} {fd : FuncData} {ps : List Str} {sp : Sp} {dvs : List V} {ds : List Value} {E : XK} {x m : Str} {p pos apos : Pos} {e o : Expr} {es : List Expr} {ta : TE} {t : TA}

theorem run_fn {pins : List (Addr × Obj)} {σ : St} {H : Hp} {s : Shared} {Q : VK} {us : List Value} {vs : List V} (F : FnOk X.prog X.w X.K X.mg X.base CX k f fd ps sp) (hr : Room k X.A) (hb : Binds X.K fd ps ds) (hd : Vals dvs ds) (hx : Passes CX X E)
    (I : Inv X pins σ H s) (r : Vals vs us) (h : sp (vs ++ dvs) H Q E) : wpAny (model X.prog X.w) X.A (call (.ref f) us) (EP X pins σ Q) X.xe s := by
  have r2 : Vals (vs ++ dvs) (us ++ ds) := r.append hd
  have hl : (us ++ ds).length = ps.length := by rw [← r2.length]; exact F.len _ _ _ _ h
  refine wpAny_call (codeAny_mono (F.run X.A X.stack s H ⟨us, []⟩ (us ++ ds) (vs ++ dvs) Q E hr I.env0 (hb s us I.kIn hl) r2 h) fun r s' hq => ?_)
  cases r with
  | error e => exact hx pins σ H s e s' I hq
  | ok fl =>
    cases fl with
    | ret u => exact I.after hq
    | next => exact False.elim hq
    | brk => exact False.elim hq
    | cont => exact False.elim hq

theorem pe_call (F : FnOk X.prog X.w X.K X.mg X.base CX k f fd ps sp) (hr : Room k X.A) (hg : Gl X x) (hm : X.mg x = some (.ref f)) (hk : PySem.W.keepIn X.K (.ref f) = true) (hb : Binds X.K fd ps ds) (hd : Vals dvs ds) (hx : Passes CX X E)
    (ha : PA X (e :: es) t) (hdb : (x == ("__debug__" : Str)) = false := by decide) (he : starEach (e :: es) X.env = (false, eval e X.env) :: starEach es X.env := by rfl) (hpl : (backTo pos (starEach es X.env)).any (·.1) = false := by rfl) :
    PE X (.Call (.Name x p) (e :: es) [] pos) (tCall sp dvs E t) := by
  intro pins s σ H Q I h
  refine wpAny_Call_Name_kw (ld_glob I hg hm ?_ hdb)
  refine PySem.W.callWith_K (h₀ := X.base) I.ok.mod.kin hk (thn (ha pos pins s σ H _ I h) fun us s1 ⟨vs, H1, I1, r, q⟩ => ⟨I1.kIn, ?_⟩) he hpl
  exact run_fn F hr hb hd hx I1 r q
theorem pe_meth {pl : Sem Bool} (he : PE X o ta) (c : Cls X.K C) (hm : Meth X.K C m f) (F : FnOk X.prog X.w X.K X.mg X.base CX k f fd ps sp) (hr : Room k X.A) (hb : Binds X.K fd ps ds) (hd : Vals dvs ds) (hx : Passes CX X E) (ha : PA X (e :: es) t)
    (hst : starEach (e :: es) X.env = (false, eval e X.env) :: starEach es X.env := by rfl) (hpl : (backTo pos (starEach es X.env)).any (·.1) = false := by rfl)
    (ht : eval (.Call (.Attribute o m apos) (e :: es) [] pos) X.env = (do
      let ov ← eval o X.env
      standAt apos.atName
      let (f, first) ← holding [ov] (getMethod ov m pl)
      callWith pos f first (backTo pos (starEach (e :: es) X.env)) (backToKw pos (keywordEach [] X.env))) := by rfl) :
    PE X (.Call (.Attribute o m apos) (e :: es) [] pos) (tMeth C m sp dvs E ta t) := by
  intro pins s σ H Q I h
  refine PySem.W.methodCall_KW (pl := pl) (thn (he pins s σ H _ I h) fun u s1 ⟨x, H1, I1, rx, a, dx, fs, ex, ea, l, q⟩ => ?_) ht
  subst ex
  obtain rfl : u = Value.ref a := rx
  refine getmeth_ok I1 ea c hm l ?_
  refine PySem.W.callWith_K (first := [.ref a]) (h₀ := X.base) I.ok.mod.kin hm.kp (thn (ha pos pins s1 σ H1 _ I1 q) fun us s2 ⟨vs, H2, I2, r, q2⟩ => ⟨I2.kIn, ?_⟩) hst hpl
  exact run_fn (us := .ref a :: us) (vs := .ref a :: vs) F hr hb hd hx I2 (.cons rfl r) q2
theorem pe_meth0 {pl : Sem Bool} (he : PE X o ta) (c : Cls X.K C) (hm : Meth X.K C m f) (F : FnOk X.prog X.w X.K X.mg X.base CX k f fd ps sp) (hr : Room k X.A) (hb : Binds X.K fd ps ds) (hd : Vals dvs ds) (hx : Passes CX X E)
    (ht : eval (.Call (.Attribute o m apos) [] [] pos) X.env = (do
      let ov ← eval o X.env
      standAt apos.atName
      let (f, first) ← holding [ov] (getMethod ov m pl)
      callWith pos f first (backTo pos (starEach [] X.env)) (backToKw pos (keywordEach [] X.env))) := by rfl) :
    PE X (.Call (.Attribute o m apos) [] [] pos) (tMeth C m sp dvs E ta tNil) := by
  intro pins s σ H Q I h
  refine PySem.W.methodCall_KW (pl := pl) (thn (he pins s σ H _ I h) fun u s1 ⟨x, H1, I1, rx, a, dx, fs, ex, ea, l, q⟩ => ?_) ht
  subst ex
  obtain rfl : u = Value.ref a := rx
  refine getmeth_ok I1 ea c hm l ?_
  exact PySem.W.callWith_K0 (first := [.ref a]) I1.kIn hm.kp (run_fn (us := [.ref a]) (vs := [.ref a]) F hr hb hd hx I1 (.cons rfl .nil) q)

structure Mk (K : PySem.W.Frag) (C f : Addr) : Prop where
  makes : PySem.W.makesIn K C = true
  init : PySem.W.findIn K (.ref C) "__init__" = some (some (.ref f))
  fn : PySem.W.isFn K (.ref f) = true
  kp : PySem.W.keepIn K (.ref C) = true

theorem run_make {pins : List (Addr × Obj)} {σ : St} {H : Hp} {s : Shared} {Q : VK} {us : List Value} {vs : List V} (M : Mk X.K C f) (F : FnOk X.prog X.w X.K X.mg X.base CX k f fd ps sp) (hr : Room (k + 1) X.A) (hb : Binds X.K fd ps ds) (hd : Vals dvs ds)
    (hx : Passes CX X E) (I : Inv X pins σ H s) (r : Vals vs us)
    (h : ∀ x dx, H x = none → H dx = none → dx ≠ x → sp (.ref x :: (vs ++ dvs)) (upd (upd H dx (.own x)) x (.ins C dx [])) (fun v H2 => v = .non ∧ Q (.ref x) H2) E) :
    wpAny (model X.prog X.w) X.A (call (.ref C) us) (EP X pins σ Q) X.xe s := by
  have hq := h (s.heap.objs.size + 1) s.heap.objs.size (I.hok.fresh (Nat.le_succ _)) (I.hok.fresh (Nat.le_refl _)) (Nat.ne_of_lt (Nat.lt_succ_self _))
  have I2 := Inv.made (C := C) I
  have r2 : Vals (V.ref (s.heap.objs.size + 1) :: (vs ++ dvs)) (Value.ref (s.heap.objs.size + 1) :: (us ++ ds)) := .cons rfl (r.append hd)
  have hl : (Value.ref (s.heap.objs.size + 1) :: us ++ ds).length = ps.length := by
    have e := r2.length
    rw [F.len _ _ _ _ hq] at e
    exact e.symm
  refine wpAny_call (make_map (f := f) I.kIn M.makes M.init (beq_iff_eq.mp M.fn) (codeAny_mono (F.run _ X.stack _ _ ⟨Value.ref (s.heap.objs.size + 1) :: us, []⟩ (Value.ref (s.heap.objs.size + 1) :: (us ++ ds)) _ _ E (hr.make C us [])
    (I2.env0.make C us []) (hb _ (Value.ref (s.heap.objs.size + 1) :: us) I2.kIn hl) r2 hq) fun r s' hq' => ?_))
  cases r with
  | error e => exact hx pins σ _ _ e s' I2 hq'
  | ok fl =>
    cases fl with
    | ret u =>
      obtain ⟨v, H', I3, rv, ev, q3⟩ := I2.after hq'
      subst ev
      exact ⟨rv, ⟨V.ref (s.heap.objs.size + 1), H', I3, rfl, q3⟩⟩
    | next => exact False.elim hq'
    | brk => exact False.elim hq'
    | cont => exact False.elim hq'
theorem pe_make0 (M : Mk X.K C f) (F : FnOk X.prog X.w X.K X.mg X.base CX k f fd ps sp) (hr : Room (k + 1) X.A) (hg : Gl X x) (hm : X.mg x = some (.ref C)) (hb : Binds X.K fd ps ds) (hd : Vals dvs ds) (hx : Passes CX X E)
    (hdb : (x == ("__debug__" : Str)) = false := by decide) : PE X (.Call (.Name x p) [] [] pos) (tMake C sp dvs E tNil) := by
  intro pins s σ H Q I h
  refine wpAny_Call_Name_kw (ld_glob I hg hm ?_ hdb)
  exact PySem.W.callWith_K0 I.kIn M.kp (run_make (us := []) M F hr hb hd hx I .nil h)
end

section
variable {X : Cx} {CX : CXT} {k : Nat} {f C : Addr} {fd : FuncData} {ps ks : List Str} {sp : Sp} {E : XK} {x m : Str} {p pos apos kpos : Pos} {e o : Expr} {es : List Expr} {kws : List Keyword} {te ta : TE} {t tk : TA} {nm : Option Str}
structure KBinds (K : PySem.W.Frag) (fd : FuncData) (ps ks : List Str) (g : List Value → List Value → List Value) (gV : List V → List V → List V) : Prop where
  to : ∀ (s : Shared) (us ws : List Value), K.In s.heap → (g us ws).length = ps.length → BindsTo s fd ⟨us, ks.zip ws⟩ (ps.zip (g us ws))
  rel : ∀ {vs : List V} {us : List Value} {zs : List V} {ws : List Value}, Vals vs us → Vals zs ws → Vals (gV vs zs) (g us ws)
variable {g : List Value → List Value → List Value} {gV : List V → List V → List V}
end

structure FnScope (N P : List Str) (sc : Scope) : Prop where
  kind : sc.kind = .function
  co : sc.isCoroutine = false
  gen : sc.isGenerator = false
  nd : N.Nodup
  pre : N.take P.length = P
  par : ∀ x ∈ P, sc.names.lookup x = some .local ∨ sc.names.lookup x = some .cell
  nofree : ∀ y ∈ sc.names, y.2 ≠ .free

theorem bindL_out {kindOf : Str → Option NameKind} {x : Str} : ∀ {binds : List (Str × Value)} {m : Str → Option Value}, (∀ v, (x, v) ∉ binds) → bindL kindOf binds m x = m x
  | [], _, _ => rfl
  | (n, v) :: r, m, h => by
    unfold bindL
    rw [bindL_out fun w hw => h w (List.mem_cons_of_mem _ hw)]
    split
    · have : x ≠ n := by rintro rfl; exact h v List.mem_cons_self
      simp [this]
    · rfl
theorem bindC_out {kindOf : Str → Option NameKind} {x : Str} : ∀ {binds : List (Str × Value)} {m : Str → Option Value}, (∀ v, (x, v) ∉ binds) → bindC kindOf binds m x = m x
  | [], _, _ => rfl
  | (n, v) :: r, m, h => by
    unfold bindC
    rw [bindC_out fun w hw => h w (List.mem_cons_of_mem _ hw)]
    split
    · rfl
    · have : x ≠ n := by rintro rfl; exact h v List.mem_cons_self
      simp [this]
theorem bindL_get {kindOf : Str → Option NameKind} {x : Str} {v : Value} : ∀ {P : List Str} {vs : List Value} {i : Nat} {m : Str → Option Value}, P.Nodup → P[i]? = some x → vs[i]? = some v → kindOf x = some .local →
    bindL kindOf (P.zip vs) m x = some v
  | [], _, _, _, _, h, _, _ => by simp at h
  | _ :: _, [], _, _, _, _, h, _ => by simp at h
  | p :: P, w :: vs, 0, m, nd, h1, h2, hk => by
    simp at h1 h2; subst h1; subst h2
    show bindL kindOf ((p, w) :: P.zip vs) m p = _
    unfold bindL
    rw [bindL_out fun v hv => (List.nodup_cons.mp nd).1 (List.of_mem_zip hv).1, if_pos hk]
    simp
  | p :: P, w :: vs, i + 1, m, nd, h1, h2, hk => by
    show bindL kindOf ((p, w) :: P.zip vs) m x = _
    unfold bindL
    exact bindL_get (i := i) (List.nodup_cons.mp nd).2 (by simpa using h1) (by simpa using h2) hk
theorem bindC_get {kindOf : Str → Option NameKind} {x : Str} {v : Value} : ∀ {P : List Str} {vs : List Value} {i : Nat} {m : Str → Option Value}, P.Nodup → P[i]? = some x → vs[i]? = some v → kindOf x ≠ some .local →
    bindC kindOf (P.zip vs) m x = some v
  | [], _, _, _, _, h, _, _ => by simp at h
  | _ :: _, [], _, _, _, _, h, _ => by simp at h
  | p :: P, w :: vs, 0, m, nd, h1, h2, hk => by
    simp at h1 h2; subst h1; subst h2
    show bindC kindOf ((p, w) :: P.zip vs) m p = _
    unfold bindC
    rw [bindC_out fun v hv => (List.nodup_cons.mp nd).1 (List.of_mem_zip hv).1, if_neg hk]
    simp
  | p :: P, w :: vs, i + 1, m, nd, h1, h2, hk => by
    show bindC kindOf ((p, w) :: P.zip vs) m x = _
    unfold bindC
    exact bindC_get (i := i) (List.nodup_cons.mp nd).2 (by simpa using h1) (by simpa using h2) hk

def start (N : List Str) (vs : List V) : St := vs.map some ++ List.replicate (N.length - vs.length) none

def cxOf (CX : CXT) (P : Program) (w : World) (K : PySem.W.Frag) (mg : Str → Option Value) (base : Heap) (N : List Str) (qual : Str) (scope : Scope) (f : Addr) (cd : Value) (A : Around) (outer : List Env) (s : Shared) (H : Hp) (E : XK) : Cx where
  prog := P
  w := w
  K := K
  mg := mg
  base := base
  A := A.deeper (envOfC qual scope s.heap.objs.size f cd)
  N := N
  s₀ := s
  H₀ := H
  env := envOfC qual scope s.heap.objs.size f cd
  outer := outer
  stack := envOfC qual scope s.heap.objs.size f cd :: outer
  ex := []
  calm := true
  fn := fun _ => true
  pn := []
  xe := fun e s' => wpAny (model P w) (A.deeper (envOfC qual scope s.heap.objs.size f cd)) (leaving (envOfC qual scope s.heap.objs.size f cd) e) (fun _ s'' => CX outer H s E e s'') (fun e' s'' => CX outer H s E e' s'') s'

theorem cell_has {sc : Scope} {n : Nat} {x : Str} (h : sc.names.lookup x = some .cell) : ∃ c, (cellsFrom n sc.names []).lookup x = some c := by
  have q := PySem.W.cellsFrom_some sc.names n [] (.inl h)
  exact Option.isSome_iff_exists.mp q

theorem inv_start {CX : CXT} {P : Program} {w : World} {K : PySem.W.Frag} {mg : Str → Option Value} {base : Heap} {N ps : List Str} {qual : Str} {scope : Scope} {f : Addr} {cd : Value} {A : Around} {outer : List Env} {s s1 : Shared} {H : Hp} {E : XK} {us : List Value} {vs : List V}
    (S : FnScope N ps scope) (hd : A.handled = none) (e0 : Env0 P w K mg base A outer s H) (hl : vs.length = ps.length) (r : Vals vs us)
    (x : InCallC s s.heap.objs.size (bindL (envOfC qual scope s.heap.objs.size f cd).kindOf (ps.zip us) fun _ => none) (cellsFrom (s.heap.objs.size + 1) scope.names []) (bindC (envOfC qual scope s.heap.objs.size f cd).kindOf (ps.zip us) fun _ => none) s1) (htk : 0 < s1.toks) :
    Inv (cxOf CX P w K mg base N qual scope f cd A outer s H E) [] (start N vs) H s1 := by
  have hpl : ps.length ≤ N.length := by have := congrArg List.length S.pre; rw [List.length_take] at this; omega
  obtain ⟨h1, tk, rfl, hk⟩ := x.done
  have noA : ∀ b : Addr, b ∉ (cxOf CX P w K mg base N qual scope f cd A outer s H E).ex := fun b z => absurd (show b ∈ ([] : List Addr) from z) (by simp)
  refine ⟨⟨e0.mod, S.kind, rfl, rfl, Nat.le_refl _, fun y z c h1 h2 => ?_, fun y hy => ?_, fun y c _ h => ?_, fun _ => hd, Around.frames_deeper e0.frames, .inr ⟨rfl, rfl⟩, fun b z => absurd z (noA b), e0.bs, e0.bsz, fun b _ _ => noA b, fun b z => absurd z (noA b), e0.funs, e0.frf⟩,
    rfl, e0.bare, Un.kept hk, ⟨_, x.toInCall.ns, fun i y v h1 h2 h3 => ?_⟩, fun y c h => ⟨_, x.cell y c h⟩, e0.hok.fresh (Nat.le_refl _), fun y c h => ?_, fun p hp => absurd (show p ∈ ([] : List (Addr × Obj)) from hp) (by simp), e0.hok.kept hk, ?_, htk⟩
  · exact name_of_addr x.apart (PySem.mem_of_lookup h1) (PySem.mem_of_lookup h2)
  · have hy : scope.names.lookup y = some .cell ∨ scope.names.lookup y = some .free := hy
    rcases hy with hy | hy
    · exact cell_has hy
    · exact absurd rfl (S.nofree _ (PySem.mem_of_lookup hy))
  · exact Nat.le_of_lt (x.above y c (PySem.mem_of_lookup h))
  · have hi : i < vs.length := by
      unfold start at h2
      by_cases hi : i < vs.length
      · exact hi
      · rw [List.getElem?_append_right (by simpa using hi)] at h2
        rw [List.getElem?_replicate] at h2
        split at h2 <;> cases h2
    have ha : vs[i]? = some v := by
      unfold start at h2
      rw [List.getElem?_append_left (by simpa using hi), List.getElem?_map] at h2
      cases e : vs[i]? with
      | none => rw [e] at h2; cases h2
      | some a => rw [e] at h2; cases h2; rfl
    obtain ⟨u, hu, rv⟩ := r.get ha
    have hp : ps[i]? = some y := by
      rw [← S.pre, List.getElem?_take_of_lt (by omega)]; exact h1
    have ndP : ps.Nodup := by rw [← S.pre]; exact S.nd.sublist (List.take_sublist _ _)
    refine ⟨u, rv, ?_⟩
    rcases S.par y (List.mem_of_getElem? hp) with k | k
    · exact .inl ⟨k, bindL_get ndP hp hu k⟩
    · obtain ⟨c, e⟩ := cell_has (n := s.heap.objs.size + 1) k
      refine .inr ⟨.inl k, c, e, ?_⟩
      have q := x.cell y c e
      rw [bindC_get ndP hp hu (by show scope.names.lookup y ≠ _; rw [k]; decide)] at q
      exact q
  · exact e0.hok.fresh (Nat.le_of_lt (x.above y c (PySem.mem_of_lookup h)))
  · unfold start
    show _ = N.length
    rw [List.length_append, List.length_map, List.length_replicate]
    omega

theorem fn_of {CX : CXT} {P : Program} {w : World} {K : PySem.W.Frag} {mg : Str → Option Value} {base : Heap} {k : Nat} {f : Addr} {name qual : Str} {params : Arguments} {body : List Stmt} {scope : Scope} {dV kV doc pm cdv ct oc : Value} {an od : Option Addr}
    {osl : Array (Option Value)} {N ps : List Str} {sp : Sp} (lk : K.lookup f = some ⟨oc, od, .func (PySem.W.fnOf name qual params body scope dV kV doc pm an cdv ct), osl⟩) (hcd : PySem.W.codeIn K cdv qual = true) (S : FnScope N ps scope)
    (len : ∀ vs H Q E, sp vs H Q E → vs.length = ps.length)
    (hbody : ∀ (A : Around) (outer : List Env) (s : Shared) (H : Hp) (vs : List V) (Q : VK) (E : XK), Room k (A.deeper (envOfC qual scope s.heap.objs.size f cdv)) → sp vs H Q E →
      ∃ t, PSs (cxOf CX P w K mg base N qual scope f cdv A outer s H E) body t ∧ t { nx := fun _ H' => Q .non H', rt := Q } (start N vs) H) :
    FnOk P w K mg base CX (k + 1) f (PySem.W.fnOf name qual params body scope dV kV doc pm an cdv ct) ps sp := by
  refine ⟨len, fun A outer s H args us vs Q E hr e0 hb r hsp => ?_⟩
  have hl := len _ _ _ _ hsp
  have KX : K.In s.heap := e0.mod.kin.keeps fun b o e => (e0.bs b o e).1
  have lim : s.heap.NoLimit := e0.mod.nolimit.keeps fun b o e => (e0.bs b o e).1
  have hkind : ∀ y ∈ ps.zip us, scope.names.lookup y.1 = some .local ∨ (scope.names.lookup y.1 = some .cell ∧ ((cellsFrom (s.heap.objs.size + 1) scope.names []).lookup y.1).isSome = true) := fun ⟨n, v⟩ hy => by
    rcases S.par n (List.of_mem_zip hy).1 with q | q
    · exact .inl q
    · exact .inr ⟨q, PySem.W.cellsFrom_some _ _ _ (.inl q)⟩
  refine codeAny_call_function hr.depth (KX _ _ lk) rfl S.co S.gen rfl (PySem.W.codeRec_of KX hcd) (hb _ _ _ _ ?_)
  refine tokQ e0.tk (wpAny_newFunctionEnv_cells S.kind hkind fun env he s1 x htk => ?_)
  subst he
  refine ⟨lim.keeps x.toInCall.keep, codeAny_func ?_⟩
  obtain ⟨t, ht, hq⟩ := hbody A outer s H vs Q E (hr.deeper _) hsp
  have I : Inv (cxOf CX P w K mg base N qual scope f cdv A outer s H E) [] (start N vs) H s1 := inv_start S hr.hd e0 hl r x htk
  refine wpAny_mono (ht [] s1 (start N vs) H _ I hq) (fun fl s' hs => ?_) fun e s' hs => hs
  have fin : ∀ {σ' : St} {H' : Hp} {v : V} {u : Value}, Inv (cxOf CX P w K mg base N qual scope f cdv A outer s H E) [] σ' H' s' → RelV v u → Q v H' → CE outer P w H s Q u s' :=
    fun {σ' H' v u} J rv q => ⟨v, H', J.tk, J.os, J.bare, J.base, J.hok, rv, q⟩
  cases fl with
  | ret u =>
    obtain ⟨v, σ', H', J, rv, q⟩ := hs
    exact fin J rv q
  | next =>
    obtain ⟨σ', H', J, q⟩ := hs
    exact fin (v := V.non) (u := Value.none) J rfl q
  | brk =>
    obtain ⟨_, _, _, q⟩ := hs
    exact False.elim q
  | cont =>
    obtain ⟨_, _, _, q⟩ := hs
    exact False.elim q
end L2

namespace L2
open PySem PySem.Spec PyProof.Rows
section
variable {X : Cx} {x : Str} {p pos : Pos} {e : Expr} {es : List Expr} {t : TA} {id T : String} {r : List V → Hp → VK → Prop}

def tCB (r : List V → Hp → VK → Prop) (t : TA) : TE := fun σ H Q => t σ H fun vs H1 => r vs H1 Q
theorem pe_callB (hc : CallR X (.builtin id) r) (hg : Gl X x) (hm : X.mg x = none) (hv : bootBuiltins x = some (.builtin id)) (ha : PA X (e :: es) t) (hn : x ≠ "__name__" := by decide) (hdb : (x == ("__debug__" : Str)) = false := by decide)
    (he : starEach (e :: es) X.env = (false, eval e X.env) :: starEach es X.env := by rfl) (hpl : (backTo pos (starEach es X.env)).any (·.1) = false := by rfl) : PE X (.Call (.Name x p) (e :: es) [] pos) (tCB r t) := by
  intro pins s σ H Q I h
  refine wpAny_Call_Name_kw (ld_blt I hg hm hv ?_ hn hdb)
  exact PyProof.Rows.callWith_builtin1 (thn (ha pos pins s σ H _ I h) fun us s1 ⟨vs, H1, I1, r1, q1⟩ => hc pins s1 σ H1 vs us Q I1 r1 q1) he hpl
theorem pe_callTy (hc : CallR X (.type T) r) (hg : Gl X x) (hm : X.mg x = none) (hv : bootBuiltins x = some (.type T)) (ha : PA X (e :: es) t) (hn : x ≠ "__name__" := by decide) (hdb : (x == ("__debug__" : Str)) = false := by decide)
    (he : starEach (e :: es) X.env = (false, eval e X.env) :: starEach es X.env := by rfl) (hpl : (backTo pos (starEach es X.env)).any (·.1) = false := by rfl) : PE X (.Call (.Name x p) (e :: es) [] pos) (tCB r t) := by
  intro pins s σ H Q I h
  refine wpAny_Call_Name_kw (ld_blt I hg hm hv ?_ hn hdb)
  exact PyProof.Rows.callWith_type1 (thn (ha pos pins s σ H _ I h) fun us s1 ⟨vs, H1, I1, r1, q1⟩ => hc pins s1 σ H1 vs us Q I1 r1 q1) he hpl
end
end L2

namespace HT
open PySem PyProof.Rows

section
open PySem.SeqAt
open PySem.AutoSeq1 (wpAny_loadPart')
open PySem.MeetsSeq PySem.MeetsSeq2 PySem.MeetsSeq3

end

section
variable {prog : Program} {w : World} {A : Around} {E : Value → Shared → Prop} {s : Shared}

def sIx (n d : Nat) : Option Int → Nat
  | none => d
  | some v => if v < 0 then (v + (n : Int)).toNat else min v.toNat n
theorem sIx_nat (n d k : Nat) : sIx n d (some (k : Int)) = min k n := by
  show (if (k : Int) < 0 then ((k : Int) + (n : Int)).toNat else min (k : Int).toNat n) = min k n
  rw [if_neg (by omega), Int.toNat_natCast]
end
end HT

namespace L2
open PySem PySem.Spec PyProof.Rows

abbrev TO := St → Hp → (Option Int → Hp → Prop) → Prop
def PO (X : Cx) (e : Option Expr) (t : TO) : Prop :=
  ∀ (pins : List (Addr × Obj)) (s : Shared) (σ : St) (H : Hp) (Q : Option Int → Hp → Prop), Inv X pins σ H s → t σ H Q →
    wpAny (model X.prog X.w) X.A (evalPart e X.env) (fun u s' => ∃ o H', Inv X pins σ H' s' ∧ IsPart u o ∧ Q o H') X.xe s
def tNoPart : TO := fun _ H Q => Q none H
def tPart (t : TE) : TO := fun σ H Q => t σ H fun x H1 => ∃ i, x = .int i ∧ Q (some i) H1

section
variable {X : Cx} {e : Expr} {te : TE} {lo hi : Option Expr} {tl th : TO} {pos p2 : Pos}

theorem po_none : PO X none tNoPart := by
  intro pins s σ H Q I h
  rw [evalPart_none]
  exact wpAny_pure ⟨none, H, I, .none, h⟩
theorem po_some (h : PE X e te) : PO X (some e) (tPart te) := by
  intro pins s σ H Q I hw
  rw [evalPart_some]
  refine thn (h pins s σ H _ I hw) fun u s1 ⟨x, H1, I1, r1, q1⟩ => ?_
  obtain ⟨i, rfl, q⟩ := q1
  obtain ⟨t, rfl⟩ := r1
  exact ⟨some i, H1, I1, .int i t, q⟩

def SlR (X : Cx) (r : V → Option Int → Option Int → Hp → VK → Prop) : Prop :=
  ∀ (pins : List (Addr × Obj)) (s : Shared) (σ : St) (H : Hp) (x : V) (v vl vu : Value) (lo hi : Option Int) (sl : Addr) (Q : VK), Inv X pins σ H s → RelV x v → s.heap.IsSliceOf sl vl vu .none → IsPart vl lo → IsPart vu hi → r x lo hi H Q →
    ∃ T id, typeLookup (.type T) "__getitem__" = pure (some (.builtin id)) ∧ s.TypeIs v T ∧ wpAny (model X.prog X.w) X.A (getItem v (.ref sl)) (EP X pins σ Q) X.xe s
theorem SlR.or {r r' : V → Option Int → Option Int → Hp → VK → Prop} (h : SlR X r) (h' : SlR X r') : SlR X (fun x lo hi H Q => r x lo hi H Q ∨ r' x lo hi H Q) := by
  intro pins s σ H x v vl vu lo hi sl Q I rx hs pl pu q
  rcases q with q | q
  · exact h pins s σ H x v vl vu lo hi sl Q I rx hs pl pu q
  · exact h' pins s σ H x v vl vu lo hi sl Q I rx hs pl pu q
def tSl (r : V → Option Int → Option Int → Hp → VK → Prop) (te : TE) (tl th : TO) : TE := fun σ H Q => te σ H fun x H1 => tl σ H1 fun l H2 => th σ H2 fun u H3 => r x l u H3 Q
theorem pe_slice {r : V → Option Int → Option Int → Hp → VK → Prop} (hr : SlR X r) (he : PE X e te) (hl : PO X lo tl) (hu : PO X hi th) : PE X (.Subscript e (.Slice lo hi none p2) pos) (tSl r te tl th) := by
  intro pins s σ H Q I h
  refine Subscript_ (thn (he pins s σ H _ I h) fun v s1 ⟨x, H1, I1, r1, q1⟩ => ?_)
  refine wpAny_Slice (thn (hl pins s1 σ H1 _ I1 q1) fun vl s2 ⟨l, H2, I2, pl, q2⟩ => thn (hu pins s2 σ H2 _ I2 q2) fun vu s3 ⟨u, H3, I3, pu, q3⟩ => ?_)
  rw [evalPart_none]
  refine wpAny_pure ?_
  have I4 : Inv X pins σ H3 { s3 with heap := s3.heap.push { cls := .type "slice", data := .fields #[vl, vu, .none] } } := I3.kept (t' := s3.toks) fun b ob q => Heap.get?_push_of_some _ q
  obtain ⟨T, id, hT, ht, hg⟩ := hr pins { s3 with heap := s3.heap.push { cls := .type "slice", data := .fields #[vl, vu, .none] } } σ H3 x v vl vu l u s3.heap.objs.size Q I4 r1 (Heap.IsSliceOf.new ..) pl pu q3
  show wpAny (model X.prog X.w) X.A (subscriptTail e (.Slice lo hi none p2) v (.ref s3.heap.objs.size)) (EP X pins σ Q) X.xe { s3 with heap := s3.heap.push { cls := .type "slice", data := .fields #[vl, vu, .none] } }
  exact tail_any (ops := [.ref s3.heap.objs.size, v]) ht hT hg (by with_unfolding_all rfl)

def cutV (xs : List V) (lo hi : Option Int) : List V := (xs.drop (HT.sIx xs.length 0 lo)).take (HT.sIx xs.length xs.length hi - HT.sIx xs.length 0 lo)
theorem cutV_length (xs : List V) (lo hi : Option Int) : (cutV xs lo hi).length ≤ xs.length := by
  unfold cutV
  rw [List.length_take, List.length_drop]
  omega
end
end L2

namespace L2
open PySem PySem.Spec PyProof.Rows

def ixN (n : Nat) (i : Int) : Option Nat := if 0 ≤ i then (if i < n then some i.toNat else none) else if -(n : Int) ≤ i then some (i + n).toNat else none
def atI {α : Type} (xs : List α) (i : Int) : Option α := (ixN xs.length i).bind fun j => xs[j]?
theorem ixN_seq {n : Nat} {i : Int} {j : Nat} (h : ixN n i = some j) : seqIndex? i n = some j ∧ j < n ∧ -(n : Int) ≤ i ∧ i < n := by
  unfold ixN at h
  by_cases h0 : 0 ≤ i
  · rw [if_pos h0] at h
    by_cases h1 : i < n
    · rw [if_pos h1] at h
      have e : i.toNat = j := Option.some.inj h
      exact ⟨by rw [seqIndex_of h0 h1, e], by omega, by omega, h1⟩
    · rw [if_neg h1] at h; cases h
  · rw [if_neg h0] at h
    by_cases h1 : -(n : Int) ≤ i
    · rw [if_pos h1] at h
      have e : (i + n).toNat = j := Option.some.inj h
      exact ⟨by rw [seqIndex_neg (by omega) h1, e], by omega, h1, by omega⟩
    · rw [if_neg h1] at h; cases h
theorem atI_get {α : Type} {xs : List α} {i : Int} {v : α} (h : atI xs i = some v) : ∃ j, seqIndex? i xs.length = some j ∧ xs[j]? = some v ∧ j < xs.length ∧ -(xs.length : Int) ≤ i ∧ i < xs.length := by
  unfold atI at h
  cases e : ixN xs.length i with
  | none => rw [e] at h; cases h
  | some j =>
    rw [e] at h
    obtain ⟨h1, h2, h3, h4⟩ := ixN_seq e
    exact ⟨j, h1, h, h2, h3, h4⟩
theorem atI_nat {α : Type} {xs : List α} {j : Nat} {v : α} (h : xs[j]? = some v) : atI xs (j : Int) = some v := by
  have hj : j < xs.length := (List.getElem?_eq_some_iff.mp h).1
  have e : ixN xs.length (j : Int) = some j := by
    unfold ixN
    rw [if_pos (by omega), if_pos (by omega)]; simp
  unfold atI; rw [e]; exact h
def PlainIx (b : Expr) : Prop := ∀ o i, subscripted b false o i = operate [o, i] (getItem o i)
def IxR (X : Cx) (r : R2) : Prop :=
  ∀ (value slice : Expr) (pins : List (Addr × Obj)) (s : Shared) (σ : St) (H : Hp) (x y : V) (v u : Value) (Q : VK), Inv X pins σ H s → RelV x v → RelV y u → r x y H Q →
    subscripted slice false v u = operate [v, u] (getItem v u) → wpAny (model X.prog X.w) X.A (subscriptTail value slice v u) (EP X pins σ Q) X.xe s
def MtR (X : Cx) (id : String) (r : V → List V → Hp → VK → Prop) : Prop :=
  ∀ (pins : List (Addr × Obj)) (s : Shared) (σ : St) (H : Hp) (x : V) (xs : List V) (v : Value) (us : List Value) (Q : VK), Inv X pins σ H s → RelV x v → Vals xs us → r x xs H Q →
    wpAny (model X.prog X.w) X.A (call (.builtin id) (v :: us)) (EP X pins σ Q) X.xe s
section
variable {X : Cx} {a b : Expr} {ta tb : TE} {pos : Pos}
theorem IxR.or {r r' : R2} (h : IxR X r) (h' : IxR X r') : IxR X (fun x y H Q => r x y H Q ∨ r' x y H Q) := by
  intro value slice pins s σ H x y v u Q I rx ry q hs
  rcases q with q | q
  · exact h value slice pins s σ H x y v u Q I rx ry q hs
  · exact h' value slice pins s σ H x y v u Q I rx ry q hs
theorem MtR.or {id : String} {r r' : V → List V → Hp → VK → Prop} (h : MtR X id r) (h' : MtR X id r') : MtR X id (fun x xs H Q => r x xs H Q ∨ r' x xs H Q) := by
  intro pins s σ H x xs v us Q I rx rs q
  rcases q with q | q
  · exact h pins s σ H x xs v us Q I rx rs q
  · exact h' pins s σ H x xs v us Q I rx rs q
theorem pe_ix {r : R2} (hr : IxR X r) (ha : PE X a ta) (hb : PE X b tb) (hs : PlainIx b) : PE X (.Subscript a b pos) (tOp r ta tb) := by
  intro pins s σ H Q I h
  exact Subscript_ (binT ha hb I h fun v u s2 x y H2 I2 rx ry q => hr a b pins s2 σ H2 x y v u Q I2 rx ry q (hs _ _))

def rIxL (K : PySem.W.Frag) : R2 := fun x y H Q => ∃ p xs i v, x = .ref p ∧ y = .int i ∧ SqL K H p xs ∧ atI xs i = some v ∧ Q v H
def rIxT (K : PySem.W.Frag) : R2 := fun x y H Q => ∃ p xs i v, x = .ref p ∧ y = .int i ∧ SqT K H p xs ∧ atI xs i = some v ∧ Q v H
def rIxS : R2 := fun x y H Q => ∃ z i c, x = .str z ∧ y = .int i ∧ z.length ≤ sizeLine ∧ atI z.cps.toList i = some c ∧ Q (.str ⟨#[c]⟩) H
theorem ix_list : IxR X (rIxL X.K) := by
  intro value slice pins s σ H x y v u Q I rx ry h hs
  obtain ⟨p, xs, i, z, rfl, rfl, hq, he, q⟩ := h
  cases rx
  obtain ⟨t, rfl⟩ := ry
  obtain ⟨its, r, pl, hz⟩ := I.list hq
  obtain ⟨j, h1, h2, h3, h4, h5⟩ := atI_get he
  obtain ⟨w, ew, rw'⟩ := r.get h2
  have hl := r.length
  have hn := line63
  have fin : EP X pins σ Q w s := ⟨z, H, I, rw', q⟩
  by_cases h0 : 0 ≤ i
  · have hj : i.toNat = j := by
      rw [seqIndex_of h0 h5] at h1
      exact Option.some.inj h1
    exact item_listR pl.isList h0 (by omega) (by rw [hj]; simpa using ew) fin hs
  · have hj : (i + (its.toArray.size : Int)).toNat = j := by
      rw [seqIndex_neg (by omega) h4] at h1
      rw [List.size_toArray, ← hl]
      exact Option.some.inj h1
    exact subscriptTail_builtinR (x := w) pl.isList.typeIs slot_list_getitem.lookup
      (wpAny_getItem_list_neg (Q := fun r s' => r = w ∧ EP X pins σ Q r s') pl.isList (by omega) (by rw [List.size_toArray] <;> omega) (by omega) (by rw [hj]; simpa using ew) ⟨rfl, fin⟩) hs
theorem ix_tup : IxR X (rIxT X.K) := by
  intro value slice pins s σ H x y v u Q I rx ry h hs
  obtain ⟨p, xs, i, z, rfl, rfl, hq, he, q⟩ := h
  cases rx
  obtain ⟨t, rfl⟩ := ry
  obtain ⟨its, r, pl, hz⟩ := I.tuple hq
  obtain ⟨j, h1, h2, h3, h4, h5⟩ := atI_get he
  obtain ⟨w, ew, rw'⟩ := r.get h2
  have hl := r.length
  have hn := line63
  have fin : EP X pins σ Q w s := ⟨z, H, I, rw', q⟩
  exact subscriptTail_builtinR (x := w) pl.typeIs slot_tuple_getitem.lookup
    (getItem_tuple (j := j) (Q := fun r s' => r = w ∧ EP X pins σ Q r s') pl (by omega) (by omega) (by rw [List.size_toArray, ← hl]; exact h1) (by simpa using ew) ⟨rfl, fin⟩) hs
theorem ix_str : IxR X rIxS := by
  intro value slice pins s σ H x y v u Q I rx ry h hs
  obtain ⟨z, i, c, rfl, rfl, hz, he, q⟩ := h
  obtain ⟨t, rfl⟩ := rx
  obtain ⟨t', rfl⟩ := ry
  obtain ⟨j, h1, h2, h3, h4, h5⟩ := atI_get he
  have hl : z.cps.toList.length = z.length := by simp [Str.length]
  rw [hl] at h1 h4 h5
  have hn := line63
  exact tail_any (typeIs_str s z t) slot_str_getitem.lookup (getItem_str (c := c) (by
    have e1 : decide (i < -(2 ^ 63 : Int)) = false := decide_eq_false (by omega)
    have e2 : decide (i ≥ 2 ^ 63) = false := decide_eq_false (by omega)
    rw [e1, e2, Bool.or_false]) (by rw [h1]; simpa using h2) ⟨.str ⟨#[c]⟩, H, I.tok _, ⟨_, rfl⟩, q⟩) hs
def rIx (K : PySem.W.Frag) : R2 := fun x y H Q => rIxL K x y H Q ∨ rIxT K x y H Q ∨ rIxS x y H Q
theorem ix_seq : IxR X (rIx X.K) := ix_list.or (ix_tup.or ix_str)

theorem Inv.lst {pins : List (Addr × Obj)} {σ : St} {H : Hp} {s : Shared} {p : Addr} {xs : List V} (I : Inv X pins σ H s) (h : H p = some (.lst xs)) :
    ∃ (its : List Value) (n : Nat), Vals xs its ∧ s.heap.get? p = some { cls := .type "list", data := .seq its.toArray n } ∧ xs.length ≤ sizeLine := by
  obtain ⟨z, its, n, r, e⟩ := I.hok p _ h
  exact ⟨its, n, r, e, z⟩
def rSetL : V → V → V → Hp → (Hp → Prop) → Prop := fun o i v H Q => ∃ p xs k j, o = .ref p ∧ i = .int k ∧ H p = some (.lst xs) ∧ ixN xs.length k = some j ∧ Q (upd H p (.lst (xs.set j v)))
theorem slice_bounds (lo hi : Option Int) (n : Nat) : (sliceBounds lo hi none n).1 = ((HT.sIx n 0 lo : Nat) : Int) ∧ (sliceBounds lo hi none n).2.1 = ((HT.sIx n n hi : Nat) : Int) ∧ (sliceBounds lo hi none n).2.2 = 1 := by
  refine ⟨?_, ?_, rfl⟩
  · cases lo with
    | none => simp [sliceBounds, HT.sIx]
    | some i =>
      simp only [sliceBounds, HT.sIx, Option.getD_none, show (1 : Int) > 0 by decide, if_true]
      by_cases h : i < 0
      · simp only [h, if_true] <;> omega
      · simp only [h, if_false] <;> omega
  · cases hi with
    | none => simp [sliceBounds, HT.sIx]
    | some i =>
      simp only [sliceBounds, HT.sIx, Option.getD_none, show (1 : Int) > 0 by decide, if_true]
      by_cases h : i < 0
      · simp only [h, if_true] <;> omega
      · simp only [h, if_false] <;> omega
theorem slicePick_cut (its : List Value) (lo hi : Option Int) : slicePick its.toArray lo hi none = ((its.drop (HT.sIx its.length 0 lo)).take (HT.sIx its.length its.length hi - HT.sIx its.length 0 lo)).toArray := by
  obtain ⟨h1, h2, h3⟩ := slice_bounds lo hi its.toArray.size
  unfold slicePick
  rw [h1, h2, h3]
  simp only [sliceRange_one, pick_run, List.size_toArray] <;> rfl
def rSlL (K : PySem.W.Frag) : V → Option Int → Option Int → Hp → VK → Prop := fun x lo hi H Q => ∃ a xs, x = .ref a ∧ SqL K H a xs ∧ ∀ p, H p = none → Q (.ref p) (upd H p (.lst (cutV xs lo hi)))
theorem sl_list : SlR X (rSlL X.K) := by
  intro pins s σ H x v vl vu lo hi sl Q I rx hs pl pu h
  obtain ⟨a, xs, rfl, hx, q⟩ := h
  cases rx
  obtain ⟨its, r, ht, hz⟩ := I.list hx
  have hlen := r.length
  refine ⟨"list", _, slot_list_getitem.lookup, ht.isList.typeIs, ?_⟩
  refine wpAny_getItem_list_slice ht.isList hs pl pu .none (by simp) ?_ (by rw [List.size_toArray] <;> omega)
  rw [slicePick_cut, ← hlen]
  refine ⟨.ref s.heap.objs.size, _, I.laid (t' := s.toks) (o := .lst (cutV xs lo hi)) (fun b ob q => Heap.get?_push_of_some _ q) (Nat.le_refl _) ?_, rfl, q _ (I.hok.fresh (Nat.le_refl _))⟩
  exact ⟨Nat.le_trans (cutV_length xs lo hi) hz, _, 0, (r.drop (HT.sIx xs.length 0 lo)).take (HT.sIx xs.length xs.length hi - HT.sIx xs.length 0 lo), Heap.get?_push_size _ rfl⟩

def flatV : V → Bool
  | .non => true
  | .bl _ => true
  | .int _ => true
  | .str _ => true
  | _ => false
def eqV : V → V → Bool
  | .non, .non => true
  | .bl a, .bl b => a == b
  | .bl a, .int b => (if a then 1 else 0) == b
  | .int a, .bl b => a == (if b then 1 else 0)
  | .int a, .int b => a == b
  | .str a, .str b => a == b
  | _, _ => false
theorem eqAt_V {A : Around} {s : Shared} {y x : V} {u v : Value} (ry : RelV y u) (rx : RelV x v) (fy : flatV y = true) (fx : flatV x = true) : SeqAt.EqAt A s u v (eqV y x) := by
  cases y with
  | non =>
    cases ry
    cases x with
    | non => cases rx; exact SeqAt.EqAt.same _
    | bl b => cases rx; exact SeqAt.EqAt.none_bool b
    | int b => obtain ⟨t, rfl⟩ := rx; exact SeqAt.EqAt.none_int b t
    | str b => obtain ⟨t, rfl⟩ := rx; exact SeqAt.EqAt.none_str b t
    | _ => exact absurd (show false = true from fx) Bool.false_ne_true
  | bl a =>
    cases ry
    cases x with
    | non => cases rx; exact SeqAt.EqAt.bool_none a
    | bl b => cases rx; exact SeqAt.EqAt.bool_bool a b
    | int b => obtain ⟨t, rfl⟩ := rx; exact SeqAt.EqAt.bool_int a b t
    | str b => obtain ⟨t, rfl⟩ := rx; exact SeqAt.EqAt.bool_str a b t
    | _ => exact absurd (show false = true from fx) Bool.false_ne_true
  | int a =>
    obtain ⟨t', rfl⟩ := ry
    cases x with
    | non => cases rx; exact SeqAt.EqAt.int_none a t'
    | bl b => cases rx; exact SeqAt.EqAt.int_bool a t' b
    | int b => obtain ⟨t, rfl⟩ := rx; exact SeqAt.EqAt.int_int a t' b t
    | str b => obtain ⟨t, rfl⟩ := rx; exact SeqAt.EqAt.int_str a t' b t
    | _ => exact absurd (show false = true from fx) Bool.false_ne_true
  | str a =>
    obtain ⟨t', rfl⟩ := ry
    cases x with
    | non => cases rx; exact SeqAt.EqAt.str_none a t'
    | bl b => cases rx; exact SeqAt.EqAt.str_bool a t' b
    | int b => obtain ⟨t, rfl⟩ := rx; exact SeqAt.EqAt.str_int a t' b t
    | str b => obtain ⟨t, rfl⟩ := rx; exact SeqAt.EqAt.str_str a t' b t
    | _ => exact absurd (show false = true from fx) Bool.false_ne_true
  | _ => exact absurd (show false = true from fy) Bool.false_ne_true
def eqU (x : V) (u : Value) : Bool := match u with
  | .none => eqV .non x
  | .bool b => eqV (.bl b) x
  | .int i _ => eqV (.int i) x
  | .str z _ => eqV (.str z) x
  | _ => false
theorem eqU_of {x y : V} {u : Value} (r : RelV y u) (f : flatV y = true) : eqU x u = eqV y x := by
  cases y with
  | non => cases r; rfl
  | bl b => cases r; rfl
  | int i => obtain ⟨t, rfl⟩ := r; rfl
  | str z => obtain ⟨t, rfl⟩ := r; rfl
  | _ => exact absurd (show false = true from f) Bool.false_ne_true
theorem any_eqU {x : V} : ∀ {xs : List V} {us : List Value}, Vals xs us → xs.all flatV = true → us.any (eqU x) = xs.any fun y => eqV y x
  | _, _, .nil, _ => rfl
  | y :: xs, u :: us, .cons r t, f => by
    rw [List.all_cons, Bool.and_eq_true] at f
    rw [List.any_cons, List.any_cons, eqU_of r f.1, any_eqU t f.2]
theorem mem_eqAt {A : Around} {s : Shared} {x : V} {v : Value} (rx : RelV x v) (fx : flatV x = true) : ∀ {xs : List V} {us : List Value}, Vals xs us → xs.all flatV = true → ∀ u ∈ us, SeqAt.EqAt A s u v (eqU x u)
  | _, _, .nil, _ => fun u hu => by cases hu
  | y :: xs, u :: us, .cons r t, f => fun u' hu => by
    rw [List.all_cons, Bool.and_eq_true] at f
    rcases List.mem_cons.mp hu with rfl | hu
    · rw [eqU_of r f.1]; exact eqAt_V r rx f.1 fx
    · exact mem_eqAt rx fx t f.2 u' hu
def inV (x : V) (xs : List V) : Bool := xs.any fun y => eqV y x
def rIn (K : PySem.W.Frag) (neg : Bool) : R2 := fun x y H Q => ∃ p xs, y = .ref p ∧ (SqL K H p xs ∨ SqT K H p xs) ∧ flatV x = true ∧ xs.all flatV = true ∧ Q (.bl (if neg then !inV x xs else inV x xs)) H
theorem op_notIn_seq : OpR X (compareOp .NotIn) (rIn X.K true) := by
  intro pins s σ H x y v u Q I rx ry h
  obtain ⟨p, xs, rfl, hq, fx, fs, q⟩ := h
  cases ry
  rcases hq with hq | hq
  · obtain ⟨its, r, pl, hz⟩ := I.list hq
    refine SeqAt.notIn_listAt (eqU x) pl.isList (fun w hw => mem_eqAt rx fx r fs w (by simpa using hw)) ⟨.bl _, H, I, rfl, ?_⟩
    rw [show its.toArray.any (eqU x) = its.any (eqU x) by simp, any_eqU r fs]
    exact q
  · obtain ⟨its, r, pl, hz⟩ := I.tuple hq
    refine SeqAt.notIn_tupleAt (eqU x) pl (fun w hw => mem_eqAt rx fx r fs w (by simpa using hw)) ⟨.bl _, H, I, rfl, ?_⟩
    rw [show its.toArray.any (eqU x) = its.any (eqU x) by simp, any_eqU r fs]
    exact q
theorem call_len_seq : CallR X (.builtin "len") (fun xs H Q => ∃ p ys, xs = [.ref p] ∧ (SqL X.K H p ys ∨ SqT X.K H p ys) ∧ Q (.int ys.length) H) := by
  intro pins s σ H xs us Q I r h
  obtain ⟨p, ys, rfl, hq, q⟩ := h
  obtain ⟨u, rfl, rx⟩ := vals1 r
  cases rx
  have hn := line63
  rcases hq with hq | hq
  · obtain ⟨its, r', pl, hz⟩ := I.list hq
    have hlen := r'.length
    exact Calls.call_len_list pl.isList (by simp only [List.size_toArray] <;> omega) ⟨.int ys.length, H, I.tok _, ⟨s.toks + 1, by rw [List.size_toArray, hlen]⟩, q⟩
  · obtain ⟨its, r', pl, hz⟩ := I.tuple hq
    have hlen := r'.length
    exact len_tuple pl (by simp only [List.size_toArray] <;> omega) ⟨.int ys.length, H, I.tok _, ⟨s.toks + 1, by rw [List.size_toArray, hlen]⟩, q⟩
theorem call_len_str : CallR X (.builtin "len") (fun xs H Q => ∃ z, xs = [.str z] ∧ z.length ≤ sizeLine ∧ Q (.int z.length) H) := by
  intro pins s σ H xs us Q I r h
  obtain ⟨z, rfl, hz, q⟩ := h
  obtain ⟨u, rfl, t, rfl⟩ := vals1 r
  have hn := line63
  exact len_str (by omega) ⟨.int z.length, H, I.tok _, ⟨_, rfl⟩, q⟩
theorem CallR.or {f : Value} {r r' : List V → Hp → VK → Prop} (h : CallR X f r) (h' : CallR X f r') : CallR X f (fun xs H Q => r xs H Q ∨ r' xs H Q) := by
  intro pins s σ H xs us Q I rs q
  rcases q with q | q
  · exact h pins s σ H xs us Q I rs q
  · exact h' pins s σ H xs us Q I rs q
def tyV (K : PySem.W.Frag) (T : String) (x : V) (H : Hp) : Prop := match x with
  | .str _ => T = "str"
  | .int _ => T = "int"
  | .ref p => (T = "list" ∧ ∃ xs, SqL K H p xs) ∨ (T = "tuple" ∧ ∃ o, K.lookup p = some o ∧ o.cls = .type "tuple" ∧ o.dict = none) ∨
      (T = "dict" ∧ ((∃ kvs, H p = some (.dK kvs)) ∨ ∃ kvs, H p = some (.dT kvs))) ∨ (T = "set" ∧ ∃ S n, H p = some (.set S n))
  | _ => False
theorem tyV_is {pins : List (Addr × Obj)} {σ : St} {H : Hp} {s : Shared} {T : String} {x : V} {v : Value} (I : Inv X pins σ H s) (r : RelV x v) (ty : tyV X.K T x H) :
    s.TypeIs v T ∧ ∀ a, v = .ref a → ∃ ob, s.heap.get? a = some ob ∧ ob.dict = none := by
  cases x with
  | str z =>
    obtain ⟨t, rfl⟩ := r
    cases (show T = "str" from ty)
    exact ⟨typeIs_str s z t, fun _ e => nomatch e⟩
  | int i =>
    obtain ⟨t, rfl⟩ := r
    cases (show T = "int" from ty)
    exact ⟨typeIs_int s i t, fun _ e => nomatch e⟩
  | ref p =>
    cases r
    rcases ty with ⟨rfl, xs, hq⟩ | ⟨rfl, o, hk, hc, hd⟩ | ⟨rfl, hk⟩ | ⟨rfl, S, n, hk⟩
    · obtain ⟨its, _, pl, _⟩ := I.list hq
      refine ⟨pl.isList.typeIs, fun a e => ?_⟩
      cases e
      obtain ⟨o, n, e, c, hd, _⟩ := pl
      exact ⟨o, e, hd⟩
    · refine ⟨⟨o, I.kIn p o hk, hc⟩, fun a e => ?_⟩
      cases e
      exact ⟨o, I.kIn _ o hk, hd⟩
    · have z : ∃ o, s.heap.get? p = some o ∧ o.ExactDict := by
        rcases hk with ⟨kvs, hk⟩ | ⟨kvs, hk⟩
        · obtain ⟨_, _, _, _, o, _, _, e, ex, _⟩ := I.hok p _ hk
          exact ⟨o, e, ex⟩
        · obtain ⟨_, _, _, _, o, _, _, e, ex, _⟩ := I.hok p _ hk
          exact ⟨o, e, ex⟩
      obtain ⟨o, e, ex⟩ := z
      refine ⟨⟨o, e, ex.1⟩, fun a e2 => ?_⟩
      cases e2
      exact ⟨o, e, ex.2.1⟩
    · obtain ⟨o, _, _, _, e, ex, _⟩ := I.hok p _ hk
      refine ⟨⟨o, e, ex.1⟩, fun a e2 => ?_⟩
      cases e2
      exact ⟨o, e, ex.2.1⟩
  | _ => exact False.elim ty
def tBM (K : PySem.W.Frag) (T : String) (r : V → List V → Hp → VK → Prop) (to : TE) (t : TA) : TE := fun σ H Q => to σ H fun x H1 => tyV K T x H1 ∧ t σ H1 fun xs H2 => r x xs H2 Q
variable {o e : Expr} {es : List Expr} {to : TE} {t : TA} {name : Str} {apos cpos : Pos} {T id : String} {r : V → List V → Hp → VK → Prop}
theorem pe_bm (pa : PlainAttrs T) (slot : Slot T name id) (hty : typeOf (.builtin id) = pure (.type "method_descriptor")) (hm : MtR X id r) (ho : PE X o to) (ha : PA X (e :: es) t)
    (hbase : attributeBase o name X.env (eval o X.env) = eval o X.env := by rfl)
    (hfew : ((backTo cpos (starEach (e :: es) X.env)).all (fun x => !x.1) && (backToKw cpos (keywordEach [] X.env)).all (fun x => x.1.isSome)
      && decide ((e :: es).length + ([] : List Keyword).length + (if ([] : List Keyword).isEmpty then 0 else 1) < 30)) = true := by rfl)
    (hline : (apos.endLine == cpos.line) = true := by rfl) (hs : starEach (e :: es) X.env = (false, eval e X.env) :: starEach es X.env := by rfl) (hplain : (backTo cpos (starEach es X.env)).any (·.1) = false := by rfl) :
    PE X (.Call (.Attribute o name apos) (e :: es) [] cpos) (tBM X.K T r to t) := by
  intro pins s σ H Q I h
  refine wpAny_Call_method_late hbase hfew hline rfl (thn (ho pins s σ H _ I h) fun v s1 ⟨x, H1, I1, r1, ty, q1⟩ => ?_)
  obtain ⟨h1, h2⟩ := tyV_is I1 r1 ty
  refine ⟨T, id, pa, slot, hty, h1, h2, ?_⟩
  have hA := ha cpos pins s1 σ H1 _ I1 q1
  rw [hs] at hA ⊢
  refine Calls.callWith_builtin (by show (false || (backTo cpos (starEach es X.env)).any (·.1)) = false; rw [hplain] <;> rfl) (Calls.evalArgs_plain ?_)
  exact thn hA fun us s2 ⟨vs, H2, I2, r2, q2⟩ => hm pins s2 σ H2 x vs v us Q I2 r1 r2 q2
/- xs.append(e), list.index on a module's tuple .. are MtR facts of 06m -/
end
end L2

namespace L2
open PySem PySem.Spec PyProof.Rows

def MtM (X : Cx) (id : String) (r : V → List V → Hp → VK → Prop) : Prop :=
  ∀ (pins : List (Addr × Obj)) (s : Shared) (σ : St) (H : Hp) (x : V) (xs : List V) (v : Value) (us : List Value) (Q : VK), Inv X pins σ H s → RelV x v → Vals xs us → r x xs H Q →
    wpAny (model X.prog X.w) X.A (call (.builtin id) (v :: us)) (EP X pins σ Q) X.xe s

theorem Vals.one : ∀ {x : V} {us : List Value}, Vals [x] us → ∃ u, us = [u] ∧ RelV x u
  | _, _, .cons r .nil => ⟨_, rfl, r⟩
theorem Vals.two : ∀ {x y : V} {us : List Value}, Vals [x, y] us → ∃ u v, us = [u, v] ∧ RelV x u ∧ RelV y v
  | _, _, _, .cons r (.cons q .nil) => ⟨_, _, rfl, r, q⟩
theorem Vals.zero : ∀ {us : List Value}, Vals [] us → us = []
  | _, .nil => rfl
theorem Vals.eraseIdx : ∀ {xs : List V} {us : List Value} (i : Nat), Vals xs us → Vals (xs.eraseIdx i) (us.eraseIdx i)
  | _, _, _, .nil => .nil
  | _, _, 0, .cons _ t => t
  | _, _, i + 1, .cons r t => .cons r (Vals.eraseIdx i t)
theorem Vals.reverse {xs : List V} {us : List Value} (h : Vals xs us) : Vals xs.reverse us.reverse := by
  induction h with
  | nil => exact .nil
  | cons r t ih => rw [List.reverse_cons, List.reverse_cons]; exact Vals.append ih (.cons r .nil)
theorem Vals.rep {xs : List V} {us : List Value} (h : Vals xs us) : ∀ k : Nat, Vals (List.replicate k xs).flatten (List.replicate k us).flatten
  | 0 => .nil
  | k + 1 => by
    rw [List.replicate_succ, List.replicate_succ, List.flatten_cons, List.flatten_cons]
    exact Vals.append h (Vals.rep h k)
theorem foldl_rep (its : List Value) : ∀ (k : Nat) (acc : List Value),
    List.foldl (fun x1 x2 => x1 ++ x2) acc.toArray (List.replicate k its.toArray) = (acc ++ (List.replicate k its).flatten).toArray
  | 0, acc => by simp
  | k + 1, acc => by
    have e : acc.toArray ++ its.toArray = (acc ++ its).toArray := by simp
    have e2 : (acc ++ its) ++ (List.replicate k its).flatten = acc ++ (List.replicate (k + 1) its).flatten := by
      rw [List.replicate_succ, List.flatten_cons, List.append_assoc]
    rw [← e2, ← foldl_rep its k (acc ++ its), ← e, List.replicate_succ, List.foldl_cons]

section
variable {X : Cx} {pins : List (Addr × Obj)} {σ : St} {H : Hp} {s : Shared} {l b : Addr} {xs ys zs : List V}

theorem Inv.lset {its its' : List Value} {n : Nat} {f : Array Value → Array Value} {t' : Nat} (I : Inv X pins σ H s) (hH : H l = some (.lst xs))
    (e : s.heap.get? l = some { cls := .type "list", data := .seq its.toArray n }) (hf : f its.toArray = its'.toArray) (hv : Vals ys its') (hz : ys.length ≤ sizeLine) (ht : 0 < t' := by first | assumption | exact Nat.succ_pos _ | (apply Inv.tk; assumption) | omega) :
    Inv X pins σ (upd H l (.lst ys)) { s with heap := s.heap.update l (Obj.mapSeq f), toks := t' } := by
  have q := PySem.IsL.update e f
  rw [hf] at q
  refine I.write (x := l) (e := l) (by rw [hH]; exact trivial) (.inl rfl) (fun b' u hb hu => (Heap.get?_update_other s.heap (Obj.mapSeq f) (Ne.symm hb)).trans hu) ⟨_, q⟩ ?_
  exact ⟨hz, its', _, hv, q⟩
theorem Inv.lnew {its : List Value} {t' : Nat} (I : Inv X pins σ H s) (hv : Vals ys its) (hz : ys.length ≤ sizeLine) (ht : 0 < t' := by first | assumption | exact Nat.succ_pos _ | (apply Inv.tk; assumption) | omega) :
    Inv X pins σ (upd H s.heap.objs.size (.lst ys)) { s with heap := s.heap.push { cls := .type "list", data := .seq its.toArray }, toks := t' } :=
  I.laid (fun _ _ q => Heap.get?_push_of_some _ q) (Nat.le_refl _) ⟨hz, its, 0, hv, Heap.get?_push_size _ rfl⟩
theorem Inv.fresh (I : Inv X pins σ H s) : H s.heap.objs.size = none := I.hok.fresh (Nat.le_refl _)
theorem Inv.lstM (I : Inv X pins σ H s) (hH : H l = some (.lst xs)) : xs.length ≤ sizeLine ∧ ∃ (its : List Value) (n : Nat), Vals xs its ∧ xs.length = its.length ∧ s.heap.get? l = some { cls := .type "list", data := .seq its.toArray n } := by
  obtain ⟨z, its, n, r, e⟩ := I.hok l _ hH
  exact ⟨z, its, n, r, r.length, e⟩

theorem notLongL {n : Nat} (h : n ≤ sizeLine) : Builtin.List.listTooLong n = false := by
  unfold Builtin.List.listTooLong
  exact decide_eq_false (by omega)
end

section
variable {X : Cx}

def rAppend : V → List V → Hp → VK → Prop := fun x vs H Q => ∃ l xs y, x = .ref l ∧ vs = [y] ∧ H l = some (.lst xs) ∧ xs.length < sizeLine ∧ Q .non (upd H l (.lst (xs ++ [y])))
theorem mt_append : MtM X "list.append" rAppend := by
  intro pins s σ H x vs v us Q I rx rv h
  obtain ⟨l, xs, y, rfl, rfl, hH, hz, q⟩ := h
  cases rx
  obtain ⟨u, rfl, ru⟩ := rv.one
  obtain ⟨z, its, n, r, hl, e⟩ := I.lstM hH
  refine call_meets F.slot_list_append ⟨_, e, rfl⟩ F.entry_list_append (F.args_list_append_2 _ _) (PySem.list_append l its.toArray n u (by rw [List.size_toArray]; omega)) ⟨e, ?_⟩
  refine ⟨.non, _, I.lset (its' := its ++ [u]) hH e (by simp) (r.append (.cons ru .nil)) ?_, rfl, q⟩
  rw [List.length_append, List.length_singleton]
  omega

def rCat : R2 := fun x y H Q => ∃ l b xs zs, x = .ref l ∧ y = .ref b ∧ H l = some (.lst xs) ∧ H b = some (.lst zs) ∧ xs.length + zs.length ≤ sizeLine ∧ ∀ p, H p = none → Q (.ref p) (upd H p (.lst (xs ++ zs)))
theorem op_cat : OpR X (binaryOp .Add) rCat := by
  intro pins s σ H x y v u Q I rx ry h
  obtain ⟨l, b, xs, zs, rfl, rfl, hH, hB, hz, q⟩ := h
  cases rx
  cases ry
  obtain ⟨z, its, n, r, hl, e⟩ := I.lstM hH
  obtain ⟨z2, its2, n2, r2, hl2, e2⟩ := I.lstM hB
  refine PySem.P.add_list e e2 ?_ (by rw [List.size_toArray, List.size_toArray]; omega)
  have ea : its.toArray ++ its2.toArray = (its ++ its2).toArray := by simp
  rw [ea]
  exact ⟨.ref _, _, I.lnew (t' := s.toks) (r.append r2) (by rw [List.length_append]; omega), rfl, q _ I.fresh⟩
def rRep : R2 := fun x y H Q => ∃ l k xs, x = .ref l ∧ y = .int k ∧ H l = some (.lst xs) ∧ -(2 ^ 63) ≤ k ∧ k < 2 ^ 63 ∧ xs.length * k.toNat ≤ sizeLine ∧
  ∀ p, H p = none → Q (.ref p) (upd H p (.lst (List.replicate k.toNat xs).flatten))
theorem len_rep {α : Type} (xs : List α) (k : Nat) : (List.replicate k xs).flatten.length = k * xs.length := by
  induction k with
  | zero => simp
  | succ k ih => rw [List.replicate_succ, List.flatten_cons, List.length_append, ih, Nat.succ_mul, Nat.add_comm]
theorem op_rep : OpR X (binaryOp .Mult) rRep := by
  intro pins s σ H x y v u Q I rx ry h
  obtain ⟨l, k, xs, rfl, rfl, hH, h1, h2, hz, q⟩ := h
  cases rx
  obtain ⟨t, rfl⟩ := ry
  obtain ⟨z, its, n, r, hl, e⟩ := I.lstM hH
  have hlen : its.toArray.size * k.toNat ≤ sizeLine := by rw [List.size_toArray, ← hl]; exact hz
  have hcap : ¬ its.toArray.size * k.toNat > (2 ^ 63 - 1) / 8 := by
    have : (sizeLine : Nat) ≤ (2 ^ 63 - 1) / 8 := by decide
    omega
  have hfit : ¬ (!Builtin.List.listFitsIndex k) = true := by
    rw [fitsIndex_both h1 h2]
    exact Bool.false_ne_true
  have hlong : ¬ Builtin.List.listTooLong (its.toArray.size * k.toNat) = true := by
    rw [notLongL hlen]
    exact Bool.false_ne_true
  have hnew : List.foldl (fun x1 x2 => x1 ++ x2) #[] (List.replicate (if its.toArray.isEmpty = true then 0 else k.toNat) its.toArray) = (List.replicate k.toNat its).flatten.toArray := by
    have f0 : ∀ m : Nat, List.foldl (fun x1 x2 => x1 ++ x2) #[] (List.replicate m its.toArray) = (List.replicate m its).flatten.toArray := fun m => by
      have := foldl_rep its m []
      rw [List.nil_append] at this
      exact this
    rw [f0]
    cases its with
    | nil => simp
    | cons a r' => rw [if_neg (by simp)]
  refine wpAny_binaryOp_repeat_ref (T := "list") (U := "int") (by decide) ⟨_, e, rfl⟩ (fun s' => typeIs_int s' k t) noFill_list_mul F.fills_int_mul F.slot_int_rmul repeat_list F.slot_int_index.lookup
    (call_meets F.slot_int_rmul (typeIs_int s k t) F.entry_int_rmul (F.args_int_rmul_2 _ _) (int___rmul___int_list k t l its.toArray n)
      ⟨e, rfl, ⟨_, e, rfl⟩, call_meets F.slot_list_mul ⟨_, e, rfl⟩ F.entry_list_mul (F.args_list_mul_2 _ _) (AutoListH.list___mul___list_int_3 l its.toArray n k t hfit hcap hlong) ⟨e, ?_⟩⟩)
  rw [hnew]
  exact ⟨.ref _, _, I.lnew (t' := s.toks) (r.rep k.toNat) (by rw [len_rep, Nat.mul_comm]; exact hz), rfl, q _ I.fresh⟩

end

section
variable {prog : Program} {w : World} {A : Around} {E : Value → Shared → Prop} {s : Shared}
end

section
variable {X : Cx}
end
end L2

namespace Att
open PySem PySem.W PySem.Calls PyProof.Rows

theorem ints_of_wellAll {P : Params} {h : Heap} : ∀ (ns : List Int) (vs : List Value), WellAll P h vs (ns.map WData.int) → IntsAre vs ns := by
  intro ns
  induction ns with
  | nil =>
    intro vs w
    rw [List.map_nil] at w
    cases w
    exact .nil
  | cons n ns ih =>
    intro vs w
    rw [List.map_cons] at w
    cases w with
    | cons a b =>
      cases a
      exact .cons _ _ (ih _ b)

theorem script_of {l : OpenLaw} {n : Nat} (hn : l.most = some n) {P : Params} {h : Heap} {args : List WData} {vals : List Value}
    (hpre : l.row.toRowW.claim.pre args = true) (hwl : WellAll P h vals args) :
    ∃ a vs ns, vals = [Value.ref a] ∧ args = [WData.list (ns.map WData.int)] ∧ h.get? a = some { cls := .type "list", data := .seq vs.toArray } ∧ IntsAre vs ns ∧ ns.length ≤ n := by
  have hsh : WShape.hasAll [] args [.list .int] = true := (pre_splitW hpre).1
  have hc : l.pre.holds [] { args := args } = true := (pre_splitW hpre).2
  obtain ⟨d, r, rfl, h1, h2⟩ := hasAllW_cons hsh
  obtain rfl := hasAllW_nil h2
  obtain ⟨xs, rfl, h3⟩ := hasW_list h1
  obtain ⟨ns, rfl⟩ := items_int h3
  have hlen : ns.length ≤ n := by
    unfold OpenLaw.pre at hc
    have h4 : (WTm.not (.lt (.lit (.int (n : Int))) (.len (.arg 0)))).holds [] { args := [.list (ns.map .int)] } = true := by
      have h4 := (holds_andW hc).1
      rw [hn] at h4
      exact h4
    have h5 := condW_of h4 (w_not (w_lt w_lit (w_len_list (w_arg rfl))))
    rw [List.length_map] at h5
    refine Nat.le_of_not_lt fun q => ?_
    have q' : (n : Int) < ((ns.length : Nat) : Int) := by omega
    first
      | (rw [decide_eq_true q'] at h5; exact absurd h5 (by decide))
      | (simp at h5; omega)
  cases hwl with
  | cons w1 w2 =>
    cases w2
    cases w1 with
    | list ho hall => exact ⟨_, _, ns, rfl, rfl, ho, ints_of_wellAll ns _ hall, hlen⟩

theorem post_true (l : OpenLaw) (args : List WData) : l.row.toRowW.claim.post args (.bool true) args = true :=
  postW_of (r := l.row.toRowW) (X := (true == true))
    (show WShape.has [] (.bool true) .bool = true by first | rfl | decide | simp [WShape.has, WShape.arms, WShape.armsAll])
    (show (WTm.eq .res (.lit (.bool true))).value [] { args := args, res := some (.bool true), after := args } = some (.bool (true == true)) from w_eq_bool (w_res rfl) w_lit) rfl

section
variable {prog : Program} {w : World} {A : Around} {E : Value → Shared → Prop} {s : Shared} {K : Frag}

def ledger (h : Heap) (L d : Addr) : List (Addr × Obj) := (List.range h.objs.size).filterMap fun a => if a = L ∨ a = d then none else (h.get? a).map fun o => (a, o)
end
end Att

namespace L2
open PySem PySem.Spec PyProof.Rows

theorem vals_ints : ∀ {vs : List Value} {ns : List Int}, IntsAre vs ns → Vals (ns.map V.int) vs
  | _, _, .nil => .nil
  | _, _, .cons n t h => .cons ⟨t, rfl⟩ (vals_ints h)

def Only (H : Hp) : Prop := ∀ b, H b = none ∨ ∃ o xs, H b = some (.frz o (.lst xs))

theorem law_call {P : Program} {w : World} {K : PySem.W.Frag} {mg mb : Str → Option Value} {CX : CXT} {k : Nat} {fa a : Addr} {fd : FuncData} {x : Str} {sp : Sp} {s₁ : Shared} {vs : List Value} {ns : List Int}
    (KX : K.In s₁.heap) (hns : s₁.heap.Ns mainGlobals mg) (hb : s₁.heap.Ns builtinsNs mb) (hbb : ∀ x : Str, x ≠ "__name__" → mb x = bootBuiltins x) (hlim : s₁.heap.NoLimit) (hg : s₁.gens = #[]) (htk : 0 < s₁.toks)
    (ha : s₁.heap.get? a = some { cls := .type "list", data := .seq vs.toArray }) (hi : IntsAre vs ns) (hl : ns.length ≤ sizeLine) (hr : Room k callerA)
    (F : ∀ base : Heap, K.In base → base.Ns mainGlobals mg → FnOk P w K mg base CX k fa fd [x] sp) (hbind : ∀ (s : Shared) (u : Value), BindsTo s fd ⟨[u], []⟩ [(x, u)])
    (hsp : ∀ H : Hp, Only H → SqL K H a (ns.map V.int) → sp [.ref a] H (fun v _ => v = .bl true) fun _ _ _ => False)
    (hCX : ∀ H e s', CX [] H s₁ (fun _ _ _ => False) e s' → False) :
    codeAny (model P w) callerA (.call (.ref fa) ⟨[.ref a], []⟩) (fun r s' => r = .ok (.ret (.bool true)) ∧ OldK s₁.heap s'.heap ∧ s'.os = s₁.os ∧ AllBare s'.gens) s₁ := by
  have rv := vals_ints hi
  have lenV := hi.length
  have core : ∀ H : Hp, Only H → SqL K H a (ns.map V.int) → HOk P w H s₁.heap → (∀ b, H b ≠ none → b = a) → (H a ≠ none → K.lookup a = none) →
      codeAny (model P w) callerA (.call (.ref fa) ⟨[.ref a], []⟩) (fun r s' => r = .ok (.ret (.bool true)) ∧ OldK s₁.heap s'.heap ∧ s'.os = s₁.os ∧ AllBare s'.gens) s₁ := by
    intro H hO hS hok hA hK
    have base_of : ∀ {b : Addr} {o : Obj}, s₁.heap.get? b = some o → H b = none → (hidT s₁.heap H).get? b = some o := fun e n => hidT_get e n
    have noA : ∀ {b : Addr} {o : Obj} {es : Array DictEntry} {ep : Nat}, s₁.heap.get? b = some o → o.data = .dict es ep → H b = none := fun {b o es ep} e d => by
      cases q : H b with
      | none => rfl
      | some u =>
        have e' : b = a := hA b (by rw [q]; simp)
        subst e'
        rw [ha] at e; cases e
        have d' : Data.seq vs.toArray _ = Data.dict es ep := d
        cases d'
    have nsK : ∀ {b : Addr} {m : Str → Option Value}, s₁.heap.Ns b m → (hidT s₁.heap H).Ns b m := fun {b m} ⟨o, es, ep, e, d, r⟩ => ⟨o, es, ep, base_of e (noA e d), d, r⟩
    have hKb : K.In (hidT s₁.heap H) := fun b o e => base_of (KX b o e) (by
      cases q : H b with
      | none => rfl
      | some u =>
        have e' : b = a := hA b (by rw [q]; simp)
        subst e'
        rw [hK (by rw [q]; simp)] at e; cases e)
    have hM : Mod K mg (hidT s₁.heap H) := ⟨hKb, nsK hns, ⟨mb, nsK hb, hbb⟩, let ⟨mc, h1, h2⟩ := hlim; ⟨mc, nsK h1, h2⟩⟩
    have e0 : Env0 P w K mg (hidT s₁.heap H) callerA [] s₁ H := ⟨rfl, hM, fun b o e => of_hidT e, Nat.le_of_eq (hidT_size _ _), trivial, fun b hb => absurd (show b ∈ ([] : List Addr) from hb) (by simp), hok, .of_eq hg, htk⟩
    refine codeAny_mono ((F _ hKb (nsK hns)).run callerA [] s₁ H ⟨[.ref a], []⟩ [.ref a] [.ref a] _ _ hr e0 (hbind s₁ (.ref a)) (.cons rfl .nil) (hsp H hO hS)) fun r s' h => ?_
    cases r with
    | error e => exact (hCX H e s' h).elim
    | ok fl =>
      cases fl with
      | next => exact False.elim h
      | brk => exact False.elim h
      | cont => exact False.elim h
      | ret u =>
        obtain ⟨v, H', _, os, bare, un, hok', r', q⟩ := h
        have q' : v = .bl true := q
        subst q'
        obtain rfl : u = Value.bool true := r'
        refine ⟨rfl, OldK.of_keep fun b o e => ?_, os, bare⟩
        cases q : H b with
        | none => exact un.keep b o e q (by intro z; exact absurd (show b ∈ ([] : List Addr) from z) (by simp)) (by simp)
        | some u =>
          rcases hO b with z | ⟨ob, xs, z⟩
          · rw [q] at z; cases z
          · have z2 := un.frzs b ob _ z
            obtain ⟨e1, _⟩ := hok b _ z
            obtain ⟨e2, _⟩ := hok' b _ z2
            rw [e] at e1; cases e1
            exact e2
  cases hk : K.lookup a with
  | some o =>
    have e := KX a o hk
    rw [ha] at e
    cases e
    refine core (fun _ => none) (fun _ => .inl rfl) (.inr ⟨_, vs.toArray, _, hk, rfl, rfl, rfl, by rw [List.size_toArray, lenV]; exact hl, by simpa using rv⟩) (fun b u z => by have z' : (none : Option HO) = some u := z; cases z') (fun b z => absurd rfl z) fun z => absurd rfl z
  | none =>
    refine core (fun b => if b = a then some (.frz { cls := .type "list", data := .seq vs.toArray } (.lst (ns.map V.int))) else none) (fun b => ?_) (.inl (.inr ⟨{ cls := .type "list", data := .seq vs.toArray }, if_pos rfl⟩)) (fun b u z => ?_) (fun b z => ?_) fun _ => hk
    · by_cases hb : b = a
      · exact .inr ⟨_, _, if_pos hb⟩
      · exact .inl (if_neg hb)
    · by_cases hb : b = a
      · have z' := (if_pos hb).symm.trans z
        cases z'
        subst hb
        exact ⟨ha, by rw [List.length_map]; exact hl, vs, _, rv, ha⟩
      · have z' := (if_neg hb).symm.trans z
        cases z'
    · by_cases hb : b = a
      · exact hb
      · exact absurd (if_neg hb) z
end L2

namespace L2
open PySem PySem.Spec PyProof.Rows

abbrev KOf {K : PySem.W.Frag} {h : Heap} (_ : K.In h) : PySem.W.Frag := K

theorem attach_callX {l : PySem.W.OpenLaw} {n : Nat} {q : Program} {loose : List Str} {XP : (Str → Option Value) → Heap → Prop} {α : Type} {Yf : Shared → α} {Ya : World → α} {d : DefRec}
    (hn : l.most = some n) (hdf : d.params.defaults = [])
    (call : ∀ (w : World) (s₀ s₁ : Shared) (mg mb : Str → Option Value) (fa a : Addr) (vs : List Value) (ns : List Int),
      PySem.W.Ground q loose [] XP w s₀ mg mb s₁.heap → Yf s₀ = Ya w → (∀ b o, s₀.heap.get? b = some o → s₁.heap.get? b = some o) → s₀.toks ≤ s₁.toks → mg d.name = some (.ref fa) →
      s₁.heap.get? a = some { cls := .type "list", data := .seq vs.toArray } → IntsAre vs ns → ns.length ≤ n → s₁.gens = #[] →
      codeAny (model l.prog w) callerA (.call (.ref fa) ⟨[.ref a], []⟩) (fun r s' => r = .ok (.ret (.bool true)) ∧ OldK s₁.heap s'.heap ∧ s'.os = s₁.os ∧ AllBare s'.gens) s₁) :
    PySem.W.WalkX q loose XP Yf Ya l.row.toRowW d [] (fun f vs => PySem.call f vs) := by
  intro w s₀ s₁ mg mb G Y fa o pm cd doc dV kV ho hd hcd hD hmg hg args vals as L hpre hlay hrd hwl hlo
  obtain ⟨a, vs, ns, rfl, rfl, hobj, hints, hlen⟩ := Att.script_of hn hpre hwl
  have ht : s₀.toks ≤ s₁.toks := by
    obtain ⟨ord, _, e⟩ := L.laid
    exact (PySem.W.layAllW_grows _ _ _ e).toks
  refine PySem.W.enter_call (codeAny_mono (call w s₀ s₁ mg mb fa a vs ns G Y L.keeps ht hmg hobj hints hlen hg) fun r s' hq => ?_)
  obtain ⟨rfl, h2, h3, h4⟩ := hq
  exact ⟨.inl ⟨.bool true, .bool true, [], rfl, fun _ => rfl, .bool true, Att.post_true l _, fun _ => ⟨List.Pairwise.nil, fun _ hm => (nomatch hm)⟩⟩, h2, h3, h4⟩
theorem walk_ofX {l : PySem.W.OpenLaw} {n k : Nat} {q : Program} {loose : List Str} {XP : (Str → Option Value) → Heap → Prop} {α : Type} {Yf : Shared → α} {Ya : World → α} {d : DefRec} {K : Params → PySem.W.Frag} {CX : World → CXT} {sp : World → Sp} {x : Str}
    (hn : l.most = some n) (hn2 : n ≤ sizeLine) (hdf : d.params.defaults = []) (hr : Room k callerA)
    (hY : ∀ (w : World) (s : Shared), Yf s = Ya w → (K w.params).In s.heap ∧ 0 < s.toks)
    (F : ∀ (w : World) (mg : Str → Option Value) (fa : Addr) (h : Heap), (K w.params).In h → h.Ns mainGlobals mg → mg d.name = some (.ref fa) →
      ∃ fd : FuncData, (∀ (s : Shared) (u : Value), BindsTo s fd ⟨[u], []⟩ [(x, u)]) ∧
        ∀ base : Heap, (K w.params).In base → base.Ns mainGlobals mg → FnOk l.prog w (K w.params) mg base (CX w) k fa fd [x] (sp w))
    (hsp : ∀ (w : World) (H : Hp) (a : Addr) (ns : List Int), ns.length ≤ n → Only H → SqL (K w.params) H a (ns.map V.int) → sp w [.ref a] H (fun v _ => v = .bl true) fun _ _ _ => False)
    (hCX : ∀ (w : World) (H : Hp) (s : Shared) (e : Value) (s' : Shared), CX w [] H s (fun _ _ _ => False) e s' → False) :
    PySem.W.WalkX q loose XP Yf Ya l.row.toRowW d [] (fun f vs => PySem.call f vs) := by
  refine attach_callX hn hdf fun w s₀ s₁ mg mb fa a vs ns G Y kp ht hmg hobj hints hlen hg => ?_
  obtain ⟨K0, t0⟩ := hY w s₀ Y
  have KX : (K w.params).In s₁.heap := fun b o e => kp b o (K0 b o e)
  obtain ⟨fd, hb, hF⟩ := F w mg fa _ KX G.T.g hmg
  exact law_call KX G.T.g G.T.b G.T.builtins G.T.nolimit hg (Nat.lt_of_lt_of_le t0 ht) hobj hints (Nat.le_trans hlen hn2) hr hF hb (fun H hO hS => hsp w H a ns hlen hO hS) fun H e s' => hCX w H s₁ e s'
end L2

/- THE LAST THEOREM (shape; LID, My.* are yours):
   My.Adr: a structure of the addresses that your layer names (classes, functions); My.Txt K t: a structure (Prop) of the equations over K;
   My.txt_mk : {K} {implicit addresses ..} (e1 : nsIn K mainGlobals "law" = some (some (.ref f))) (e2 : K.lookup f = some ⟨oc, od, .func (fnOf "law" "law" params body scope dV kV doc pm an cdv ct), sl⟩) (e3 : codeIn K cdv "law" = true) .. : ∃ t, My.Txt K t

set_option maxRecDepth 100000 in
set_option maxHeartbeats 0 in
theorem PySem.Challenge.cw_LID_holds : PySem.Challenge.rw_LID.Holds := by
  w_on; o_law; k_head; (case hw => w_witness2)
  k_fill
  refine L2.walk_of (l := PySem.Challenge.rw_LID) (n := 63) (k := 40) (x := "script") (CX := fun w => ..) (sp := fun _ => My.sp_law) rfl (by decide) rfl ⟨rfl, by decide, by decide⟩ (fun w h Y => PySem.W.kIn_of Y) ?F ?S ?C
  case F =>
    intro w mg fa h KX G hmg
    have T : ∃ t, My.Txt (L2.KOf KX) t := by
      dsimp only [L2.KOf]                          -- K must stand as «<heap const> w.params» for k_is
      refine' My.txt_mk ?e1 ?e2 ?e3 ..
      (case e1 => PySem.W.k_is)                    -- in the order: a name -> its address -> its object -> its parts
      (case e2 => PySem.W.k_is)
      ..
    obtain ⟨t, T⟩ := T
    have e0 := hmg.symm.trans (PySem.W.mg_of KX G T.law)
    cases e0                                       -- fa is the law's own address
    exact ⟨_, fun s u => .of_eq rfl, fun base kb nb => My.law_fn T kb nb⟩     -- if «.of_eq rfl» comes too early: refine' ⟨_, ?b, fun base kb nb => My.law_fn T kb nb⟩; exact fun s u => .of_eq rfl
  case S => exact fun w H a ns hl hO hS => ..
  case C => exact ..
(the tactic k_is has no namespace: write k_is) -/

namespace L2
open PySem PySem.Spec PyProof.Rows

def inClass (s : Stmt) (j : Nat) : Stmt := match s with
  | .ClassDef _ _ _ body _ _ _ _ _ _ _ => body.getD j (.Pass ⟨0, 0, 0, 0⟩)
  | _ => .Pass ⟨0, 0, 0, 0⟩
def defArgs (s : Stmt) : Arguments := match s with
  | .FunctionDef _ a _ _ _ _ _ _ _ _ => a
  | _ => { posonlyargs := [], args := [], vararg := none, kwonlyargs := [], kw_defaults := [], kwarg := none, defaults := [] }
def defBody (s : Stmt) : List Stmt := match s with
  | .FunctionDef _ _ b _ _ _ _ _ _ _ => b
  | _ => []
def defScope (s : Stmt) : Scope := match s with
  | .FunctionDef _ _ _ _ _ _ sc _ _ _ => sc
  | _ => { kind := .function, names := [], isGenerator := false, isCoroutine := false }

abbrev CX0 : CXT := fun _ _ _ _ _ _ => False
abbrev E0 : XK := fun _ _ _ => False
theorem pass0 {X : Cx} : Passes CX0 X E0 := fun _ _ _ _ _ _ _ h => h.elim

structure Fun (K : PySem.W.Frag) (x qual : Str) (st : Stmt) (f : Addr) (fd : FuncData) : Prop where
  ex : ∃ (oc : Value) (od : Option Addr) (kV doc pm : Value) (an : Option Addr) (cdv ct : Value) (osl : Array (Option Value)),
    fd = PySem.W.fnOf x qual (defArgs st) (defBody st) (defScope st) .none kV doc pm an cdv ct ∧ K.lookup f = some ⟨oc, od, .func fd, osl⟩ ∧ PySem.W.codeIn K cdv qual = true
  kp : PySem.W.keepIn K (.ref f) = true
section
variable {P : Program} {w : World} {K : PySem.W.Frag} {mg : Str → Option Value} {base : Heap}
theorem Fun.ok {x qual : Str} {st : Stmt} {f : Addr} {fd : FuncData} {N ps : List Str} {k : Nat} {sp : Sp} (F : Fun K x qual st f fd) (S : FnScope N ps (defScope st)) (len : ∀ vs H Q E, sp vs H Q E → vs.length = ps.length)
    (hbody : ∀ (cdv : Value) (A : Around) (outer : List Env) (s : Shared) (H : Hp) (vs : List V) (Q : VK) (E : XK), Room k (A.deeper (envOfC qual (defScope st) s.heap.objs.size f cdv)) → sp vs H Q E →
      ∃ t, PSs (cxOf CX0 P w K mg base N qual (defScope st) f cdv A outer s H E).nox (defBody st) t ∧ t { nx := fun _ H' => Q .non H', rt := Q } (start N vs) H) : FnOk P w K mg base CX0 (k + 1) f fd ps sp := by
  obtain ⟨oc, od, kV, doc, pm, an, cdv, ct, osl, rfl, lk, hcd⟩ := F.ex
  refine fn_of lk hcd S len fun A outer s H vs Q E hr hsp => ?_
  obtain ⟨t, h, q⟩ := hbody cdv A outer s H vs Q E hr hsp
  exact ⟨t, h.nox, q⟩
theorem Fun.binds {x qual : Str} {st : Stmt} {f : Addr} {fd : FuncData} {ps : List Str} (F : Fun K x qual st f fd)
    (h : ∀ (kV doc pm : Value) (an : Option Addr) (cdv ct : Value) (us : List Value), us.length = ps.length → bindArgs (PySem.W.fnOf x qual (defArgs st) (defBody st) (defScope st) .none kV doc pm an cdv ct) ⟨us, []⟩ = pure (ps.zip us)) : Binds K fd ps [] := by
  obtain ⟨oc, od, kV, doc, pm, an, cdv, ct, osl, rfl, lk, hcd⟩ := F.ex
  exact .all (h kV doc pm an cdv ct)
theorem fun_mk {x qual : Str} {st : Stmt} {f : Addr} {oc : Value} {od an : Option Addr} {osl : Array (Option Value)} {kV doc pm cdv ct : Value} (l : K.lookup f = some ⟨oc, od, .func (PySem.W.fnOf x qual (defArgs st) (defBody st) (defScope st) .none kV doc pm an cdv ct), osl⟩)
    (c : PySem.W.codeIn K cdv qual = true) (k : PySem.W.keepIn K (.ref f) = true) : Fun K x qual st f (PySem.W.fnOf x qual (defArgs st) (defBody st) (defScope st) .none kV doc pm an cdv ct) := ⟨⟨oc, od, kV, doc, pm, an, cdv, ct, osl, rfl, l, c⟩, k⟩
end
theorem hu_of {A : Around} {k : Nat} (hr : Room k A) : A.units + 1 < cLine := Nat.lt_of_le_of_lt (Nat.add_le_add_left (by decide : 1 ≤ 64) _) hr.units
section
variable {X : Cx}
end

theorem ite2 {c A B : Prop} [Decidable c] (h1 : c → A) (h2 : ¬ c → B) : if c then A else B := by
  by_cases h : c
  · rw [if_pos h]
    exact h1 h
  · rw [if_neg h]
    exact h2 h
def Same (H H' : Hp) : Prop := ∀ b o, H b = some o → H' b = some o
theorem Same.refl (H : Hp) : Same H H := fun _ _ h => h
theorem Same.trans {H H1 H2 : Hp} (a : Same H H1) (b : Same H1 H2) : Same H H2 := fun c o h => b c o (a c o h)
theorem Same.free {H H' : Hp} (e : Same H H') {l : Addr} (h : H' l = Option.none) : H l = Option.none := by
  cases q : H l with
  | none => rfl
  | some o =>
    rw [e l o q] at h
    cases h
theorem Same.seq {K : PySem.W.Frag} {H H' : Hp} {a : Addr} {xs : List V} (e : Same H H') (h : SqL K H a xs) : SqL K H' a xs := by
  rcases h with (h | ⟨o, h⟩) | h
  · exact .inl (.inl (e _ _ h))
  · exact .inl (.inr ⟨o, e _ _ h⟩)
  · exact .inr h

end L2


namespace L2
open PySem PySem.Spec PyProof.Rows
section
variable {X : Cx} {pins : List (Addr × Obj)} {σ : St} {H H' : Hp} {s : Shared} {h' : Heap}
theorem Inv.turnedL {t' : Nat} {its : List Addr} (I : Inv X pins σ H s) (k : ∀ b o, b ∉ its → s.heap.get? b = some o → h'.get? b = some o) (hf : ∀ b ∈ its, FpOk X pins H b) (ht : 0 < t' := by first | assumption | exact Nat.succ_pos _ | (apply Inv.tk; assumption) | omega) : Inv X pins σ H { s with heap := h', toks := t' } := by
  have nit : ∀ b u, H b = some u → b ∉ its := fun b u e z => by
    have q := (hf b z).1
    rw [q] at e
    cases e
  refine I.step (g' := s.gens) (d' := s.drawn) (ch := its) (fun b hb => ?_) (fun b o _ _ hc e _ => k b o hc e) (fun b o _ _ hc e _ => ⟨o.slots, k b o hc e⟩) (fun _ _ _ _ n => n)
    (fun b o hc e => ⟨o, k b o hc e⟩) (fun _ _ e => e) (fun _ _ _ e => e) (fun b ps e => ⟨#[], by rw [e]; simp⟩) (fun m hm => ?_) (fun b u e => ?_) I.bare
  · obtain ⟨f0, f1, f2, f3, f4, f5⟩ := hf b hb
    exact ⟨f3, f1, f4, f5⟩
  · obtain ⟨o, es, ep, ho, r⟩ := hm
    exact ⟨o, es, ep, k _ o (fun z => (hf _ z).2.1 rfl) ho, r⟩
  · refine (I.hok b u e).stay (fun c v hc q => k c v ?_ q) (fun _ q => q) fun _ _ q => q
    rcases hc with z | z
    · rw [z]; exact nit b u e
    · exact nit c _ z
end

theorem strIter_no (x : Str) : ["enumerate", "zip", "dict_itemiterator", "dict_reverseitemiterator", "odict_iterator", "itertools.zip_longest", "itertools.pairwise"].contains (strIterType x) = false := by
  unfold strIterType
  split <;> decide
section
variable {prog : Program} {w : World} {A : Around} {E : Value → Shared → Prop} {s : Shared}
theorem strIterType_cases (x : Str) : strIterType x = "str_ascii_iterator" ∨ strIterType x = "str_iterator" := by
  unfold strIterType
  split
  · exact .inl rfl
  · exact .inr rfl
theorem next_str_item {it : Addr} {x : Str} {t : Tok} {i c : Nat} {Q : Option Value → Shared → Prop} (hit : s.heap.IsStrIter it (strIterType x) x t i) (hx : x.cps[i]? = some c)
    (hQ : ∀ h', h'.IsStrIter it (strIterType x) x t (i + 1) → Heap.SameBut it s.heap h' → Q (some (.str ⟨#[c]⟩ s.toks)) { s with heap := h', toks := s.toks + 1 }) :
    wpAny (model prog w) A (pyNext (.ref it)) Q E s := by
  rcases strIterType_cases x with e | e
  · rw [e] at hit
    simp only [e] at hQ
    exact wpAny_pyNext_ascii_item hit hx hQ
  · rw [e] at hit
    simp only [e] at hQ
    exact wpAny_pyNext_wide_item hit hx hQ
theorem next_str_end {it : Addr} {x : Str} {t : Tok} {i : Nat} {Q : Option Value → Shared → Prop} (hh : A.handled = none) (hit : s.heap.IsStrIter it (strIterType x) x t i) (hx : x.cps[i]? = none)
    (hQ : ∀ h', Heap.ExtBut it s.heap h' → Q none { s with heap := h' }) : wpAny (model prog w) A (pyNext (.ref it)) Q E s := by
  rcases strIterType_cases x with e | e
  · rw [e] at hit
    exact wpAny_pyNext_ascii_end hh hit hx hQ
  · rw [e] at hit
    exact wpAny_pyNext_wide_end hh hit hx hQ
theorem iter_str_self {it : Addr} {x : Str} {t : Tok} {i : Nat} {Q : Value → Shared → Prop} (hit : s.heap.IsStrIter it (strIterType x) x t i) (h : Q (.ref it) s) : wpAny (model prog w) A (pyIter (.ref it)) Q E s := by
  rcases strIterType_cases x with e | e
  · rw [e] at hit
    exact wpAny_pyIter_striter_ascii hit h
  · rw [e] at hit
    exact wpAny_pyIter_striter_wide hit h
end
def Its (x : Str) : It := ⟨fun i _ => i < x.cps.size, fun i H v H' => H' = H ∧ ∃ c, x.cps[i]? = some c ∧ v = .str ⟨#[c]⟩, fun i _ => x.cps.size ≤ i⟩
theorem strIter_obj {h : Heap} {it : Addr} {ty : String} {x : Str} {t : Tok} {i : Nat} (st : h.IsStrIter it ty x t i) : ∃ o, h.get? it = some o ∧ ∀ v, o.data ≠ .cell v := by
  obtain ⟨o, e, c, d⟩ := st
  exact ⟨o, e, fun v z => by rw [d] at z; cases z⟩
theorem turn_str {P : Program} {w : World} {K : PySem.W.Frag} {tg : Expr} (x : Str) (t : Tok) (it : Addr) : Turn P w K tg (Its x) [it] it (fun i h => h.IsStrIter it (strIterType x) x t i) where
  mem := by simp
  obj := fun i h st b hb => by
    have e : b = it := by simpa using hb
    subst e
    exact strIter_obj st
  keep := fun i h h' st k => by
    obtain ⟨o, e, r⟩ := st
    exact ⟨o, k it (by simp) o e, r⟩
  item := by
    intro X hP hw hK hc i pins s σ H E I hf st hg
    subst hP hw hK
    have hi : i < x.cps.size := hg
    refine next_str_item st (c := x.cps[i]) (by simp [hi]) fun h' st' sb => ?_
    have I1 : Inv X pins σ H { s with heap := h', toks := s.toks + 1 } := I.turnedL (its := [it]) (fun b o hb e => (sb.2 b (by simpa using hb)).trans e) hf
    obtain ⟨o, e, c, d⟩ := id st'
    exact ⟨_, rfl, go_of (s := { s with heap := h', toks := s.toks + 1 }) e c d (strIter_no x) ⟨.str ⟨#[x.cps[i]]⟩, H, I1, ⟨_, rfl⟩, ⟨rfl, _, by simp [hi], rfl⟩, st', fun b hb => (hf b hb).1⟩⟩
  done := by
    intro X hP hw hK hc i pins s σ H E I hf st hg
    subst hP hw hK
    have hi : x.cps.size ≤ i := hg
    exact next_str_end (I.ok.hd hc) st (by simp [hi]) fun h' eb => ⟨rfl, I.turnedL (t' := s.toks) (its := [it]) (fun b o hb e => eb b o (by simpa using hb) e) hf⟩
  self := fun _ _ _ _ _ st h => iter_str_self st h
section
variable {X : Cx} {tg e : Expr} {te : TE}
end
theorem for_it {J : It} {n : Nat} {g : TG} {tb : TS} {D : Ends} {σ : St} {H : Hp} (Pv : Nat → St → Hp → Prop) (h0 : Pv 0 σ H) (hgo : ∀ i σ H, i < n → Pv i σ H → J.go i H) (hst : ∀ σ H, Pv n σ H → J.stop n H)
    (hs : ∀ i σ H x H', i < n → Pv i σ H → J.yld i H x H' → g x σ H' fun σ2 H2 => tb { D with nx := Pv (i + 1), ct := Pv (i + 1), bk := D.nx } σ2 H2) (hd : ∀ σ H, Pv n σ H → D.nx σ H) :
    ∃ W : Nat → Nat → St → Hp → Prop, (∃ m, W 0 m σ H) ∧ ∀ i m σ H, W i m σ H →
      (J.stop i H ∧ D.nx σ H) ∨ (J.go i H ∧ ∃ N : St → Hp → Prop, (∀ σ' H', N σ' H' → ∃ m', m' < m ∧ W (i + 1) m' σ' H') ∧ ∀ x H', J.yld i H x H' → g x σ H' fun σ2 H2 => tb { D with nx := N, ct := N, bk := D.nx } σ2 H2) := by
  refine ⟨fun i m σ H => m = n - i ∧ i ≤ n ∧ Pv i σ H, ⟨n, by simp, Nat.zero_le _, h0⟩, ?_⟩
  rintro i m σ H ⟨rfl, hi, p⟩
  by_cases hlt : i < n
  · exact .inr ⟨hgo i σ H hlt p, Pv (i + 1), fun σ' H' p' => ⟨n - (i + 1), by omega, rfl, hlt, p'⟩, fun x H' y => hs i σ H x H' hlt p y⟩
  · have e : i = n := by omega
    subst e
    exact .inl ⟨hst σ H p, hd σ H p⟩

structure Nx (prog : Program) (w : World) (A : Around) (it : Addr) (f : List Addr) (Sa Sb : Heap → Prop) (P : Value → Prop) : Prop where
  fra : ∀ h h', Sa h → (∀ b ∈ f, ∀ o, h.get? b = some o → h'.get? b = some o) → Sa h'
  frb : ∀ h h', Sb h → (∀ b ∈ f, ∀ o, h.get? b = some o → h'.get? b = some o) → Sb h'
  step : ∀ (s : Shared) (Q : Value → Shared → Prop) (E : Value → Shared → Prop), Sa s.heap → (∀ x h' tk, P x → Sb h' → Heap.SameBut it s.heap h' → Q x { s with heap := h', toks := tk }) → wpAny (model prog w) A (Builtin.SmallTypes.nextOf (.ref it)) Q E s
structure Nd (prog : Program) (w : World) (A : Around) (it : Addr) (f : List Addr) (Sa : Heap → Prop) : Prop where
  fra : ∀ h h', Sa h → (∀ b ∈ f, ∀ o, h.get? b = some o → h'.get? b = some o) → Sa h'
  step : ∀ (s : Shared) (Q : Value → Shared → Prop) (E : Value → Shared → Prop), Sa s.heap → (∀ h' e, Heap.ExtBut it s.heap h' → (∃ o, h'.get? e = some o ∧ o.cls = .type "StopIteration") → E (.ref e) { s with heap := h' }) → wpAny (model prog w) A (Builtin.SmallTypes.nextOf (.ref it)) Q E s
structure ZAp (z TI TO i1 i2 : Addr) : Prop where
  TIz : TI ≠ z
  TOz : TO ≠ z
  i1z : i1 ≠ z
  i2z : i2 ≠ z
  TITO : TI ≠ TO
  TIi1 : TI ≠ i1
  TIi2 : TI ≠ i2
  TOi1 : TO ≠ i1
  TOi2 : TO ≠ i2
  i12 : i1 ≠ i2
section
variable {prog : Program} {w : World} {A : Around} {E : Value → Shared → Prop} {s : Shared}
set_option hygiene false
local macro_rules | `(tactic| walk_at "zip_in") => `(tactic| (
  refine wpAny_bind (m := slotArgs "__next__" 0 _) (wpAny_of_eq (a := (Value.ref _, [])) rfl ?_);
  refine wpAny_bind (m := field _ 2) (wpAny_field hz rfl (x := Value.bool false) rfl (wpAny_bind (m := field _ 3) (wpAny_field hz rfl (x := Value.ref TI) rfl (wpAny_bind (m := seqItems? _) (wpAny_seqItems hTI rfl ?_)))));
  refine wpAny_bind (m := Builtin.SmallTypes.ownedTupleIsFree _) (wpAny_bind (wpAny_field hz rfl (x := Value.none) rfl (wpAny_pure ?_)));
  refine wpAny_bind (wpAny_rule (wpAny_bind (wpAny_field hz rfl (x := Value.ref TO) rfl (wpAny_bind (wpAny_setField_rec hz (by simp) fun g1 zg sg => wpAny_bind ?_)))));
  simp only [List.zipIdx_cons, List.zipIdx_nil, List.forIn_cons, List.forIn_nil]))
set_option hygiene true
end
end L2


namespace L2
open PySem PySem.Spec PyProof.Rows
inductive Src where
  | str (x : Str) | lst (a : Addr)
def SrcGo (K : PySem.W.Frag) (H : Hp) : Src → Nat → Prop
  | .str x, i => i < x.cps.size
  | .lst a, i => ∃ xs v, SqL K H a xs ∧ xs[i]? = some v
def SrcAt (K : PySem.W.Frag) (H : Hp) : Src → Nat → V → Prop
  | .str x, i, v => ∃ c, x.cps[i]? = some c ∧ v = .str ⟨#[c]⟩
  | .lst a, i, v => ∀ xs, SqL K H a xs → xs[i]? = some v
def SrcEnd (K : PySem.W.Frag) (H : Hp) : Src → Nat → Prop
  | .str x, i => x.cps.size ≤ i
  | .lst a, i => ∃ xs, SqL K H a xs ∧ xs.length ≤ i
def SrcIt (h : Heap) : Src → Addr → Nat → Prop
  | .str x, it, i => ∃ t, h.IsStrIter it (strIterType x) x t i
  | .lst a, it, i => h.IsListIter it a i
theorem SrcIt.obj {h : Heap} {S : Src} {it : Addr} {i : Nat} (st : SrcIt h S it i) : ∃ o, h.get? it = some o ∧ (∀ v, o.data ≠ .cell v) ∧ o.cls ≠ .type "list" ∧ o.cls ≠ .type "zip" ∧ o.cls ≠ .type "tuple" := by
  cases S with
  | str x =>
    obtain ⟨t, o, e, c, d⟩ := st
    refine ⟨o, e, (fun v z => by rw [d] at z; cases z), ?_⟩
    rw [c]
    rcases strIterType_cases x with q | q <;> rw [q] <;> decide
  | lst a =>
    obtain ⟨o, e, c, d⟩ := (show h.IsListIter it a i from st)
    refine ⟨o, e, (fun v z => by rw [d] at z; cases z), ?_⟩
    rw [c]
    decide
theorem SrcIt.keep {h h' : Heap} {S : Src} {it : Addr} {i : Nat} (st : SrcIt h S it i) (k : ∀ o, h.get? it = some o → h'.get? it = some o) : SrcIt h' S it i := by
  cases S with
  | str x =>
    obtain ⟨t, o, e, r⟩ := st
    exact ⟨t, o, k o e, r⟩
  | lst a => exact Heap.IsListIter.at (show h.IsListIter it a i from st) k
section
variable {X : Cx} {pins : List (Addr × Obj)} {σ : St} {H : Hp} {s : Shared} {A : Around}
theorem Inv.turnedLaid {t' : Nat} {its : List Addr} {h' : Heap} {a : Addr} {o : HO} (I : Inv X pins σ H s) (k : ∀ b ob, b ∉ its → s.heap.get? b = some ob → h'.get? b = some ob) (hf : ∀ b ∈ its, FpOk X pins H b) (hp : s.heap.objs.size ≤ a)
    (new : ObjOk X.prog X.w (upd H a o) h' a o) (ht : 0 < t' := by first | assumption | exact Nat.succ_pos _ | (apply Inv.tk; assumption) | omega) : Inv X pins σ (upd H a o) { s with heap := h', toks := t' } := by
  have hn : H a = none := I.hok.fresh hp
  have nit : ∀ b u, H b = some u → b ∉ its := fun b u e z => by
    have q := (hf b z).1
    rw [q] at e
    cases e
  have nea : ∀ b ob, s.heap.get? b = some ob → b ≠ a := fun b ob e => Nat.ne_of_lt (Nat.lt_of_lt_of_le (Heap.lt_size e) hp)
  refine I.step (g' := s.gens) (d' := s.drawn) (ch := its) (fun b hb => ?_) (fun b o _ _ hc e _ => k b o hc e) (fun b o _ _ hc e _ => ⟨o.slots, k b o hc e⟩) (fun b ob _ e n => by rw [upd_ne (nea b ob e)]; exact n)
    (fun b o hc e => ⟨o, k b o hc e⟩) (fun _ _ e => by rw [upd_ne (ne_of_none e hn)]; exact e) (fun _ _ _ e => by rw [upd_ne (ne_of_none e hn)]; exact e) (fun b ps e => ⟨#[], by rw [upd_ne (ne_of_none e hn), e]; simp⟩) (fun m hm => ?_) (fun b u e => ?_) I.bare
  · obtain ⟨f0, f1, f2, f3, f4, f5⟩ := hf b hb
    exact ⟨f3, f1, f4, f5⟩
  · obtain ⟨o, es, ep, ho, r⟩ := hm
    exact ⟨o, es, ep, k _ o (fun z => (hf _ z).2.1 rfl) ho, r⟩
  · by_cases hb : b = a
    · subst hb
      rw [upd_same] at e
      cases e
      exact new
    · rw [upd_ne hb] at e
      refine (I.hok b u e).stay (fun c v hc q => k c v ?_ q) (fun c q => by rw [upd_ne (ne_of_none q hn)]; exact q) fun c xs q => by rw [upd_ne (ne_of_none q hn)]; exact q
      rcases hc with z | z
      · rw [z]; exact nit b u e
      · exact nit c _ z
end
def Itz (K : PySem.W.Frag) (S1 S2 : Src) : It := ⟨fun i H => SrcGo K H S1 i ∧ SrcGo K H S2 i, fun i H v H' => ∃ T x y, v = .ref T ∧ H T = none ∧ H' = upd H T (.tup [x, y]) ∧ SrcAt K H S1 i x ∧ SrcAt K H S2 i y,
  fun i H => SrcEnd K H S1 i ∨ (SrcGo K H S1 i ∧ SrcEnd K H S2 i)⟩
def srcOk (h : Heap) : Src → Prop
  | .str _ => True
  | .lst a => ∃ its, h.IsList a its
theorem srcOk.push {h : Heap} {S : Src} (ok : srcOk h S) (o : Obj) : srcOk (h.push o) S := by
  cases S with
  | str x => trivial
  | lst a =>
    obtain ⟨its, q⟩ := ok
    exact ⟨its, Heap.IsList.push q _⟩
section
variable {prog : Program} {w : World} {A : Around} {E : Value → Shared → Prop} {s : Shared}
end
section
variable {prog : Program} {w : World} {A : Around} {E : Value → Shared → Prop} {s : Shared}
end
section
variable {X : Cx}
end
end L2


namespace L2
open PySem PySem.Spec PyProof.Rows
def clOf (cells : List (Str × Addr)) : List (Str × NameKind) → List (Str × Addr) → List (Str × Addr)
  | [], cs => cs
  | (n, k) :: r, cs => clOf cells r (if (k == NameKind.free) = true then (n, (cells.lookup n).getD 0) :: cs else cs)
theorem closureFor_some {scope : Scope} {env : Env} (h : ∀ y ∈ scope.names, y.2 = .free → ∃ c, env.cells.lookup y.1 = some c) : closureFor scope env = pure (clOf env.cells scope.names []) := by
  unfold closureFor
  have key : ∀ (names : List (Str × NameKind)) (cs : List (Str × Addr)), (∀ y ∈ names, y.2 = .free → ∃ c, env.cells.lookup y.1 = some c) →
      (forIn names cs (fun x r => match x with
        | (name, kind) => if (kind == NameKind.free) = true then (do let __do_lift ← cellOf env name; pure (ForInStep.yield ((name, __do_lift) :: r))) else pure (ForInStep.yield r)) : Sem (List (Str × Addr))) = pure (clOf env.cells names cs) := by
    intro names
    induction names with
    | nil => intro cs _; rfl
    | cons y r ih =>
      intro cs hy
      obtain ⟨n, k⟩ := y
      rw [List.forIn_cons]
      have hr : ∀ y ∈ r, y.2 = .free → ∃ c, env.cells.lookup y.1 = some c := fun y hm => hy y (List.mem_cons_of_mem _ hm)
      cases hk : (k == NameKind.free) with
      | true =>
        have hk' : k = .free := by simpa using hk
        obtain ⟨c, hc⟩ := hy (n, k) List.mem_cons_self hk'
        have ec : cellOf env n = pure c := by unfold cellOf; rw [hc]
        have e1 : (clOf env.cells ((n, k) :: r) cs) = clOf env.cells r ((n, c) :: cs) := by
          show clOf env.cells r (if (k == NameKind.free) = true then (n, (env.cells.lookup n).getD 0) :: cs else cs) = _
          rw [hk, if_pos rfl, show env.cells.lookup n = some c from hc]
          rfl
        rw [e1, ← ih _ hr]
        simp only [ec, hk, if_true, pure_bind]
      | false =>
        have e1 : (clOf env.cells ((n, k) :: r) cs) = clOf env.cells r cs := by
          show clOf env.cells r (if (k == NameKind.free) = true then (n, (env.cells.lookup n).getD 0) :: cs else cs) = _
          rw [hk, if_neg Bool.false_ne_true]
        rw [e1, ← ih _ hr]
        simp only [hk, Bool.false_eq_true, if_false, pure_bind]
  have q := key scope.names [] h
  first
    | exact q
    | (simp only [bind_pure]; exact q)
    | (rw [q]; rfl)
theorem clOf_sound {cells : List (Str × Addr)} {x : Str} {c : Addr} : ∀ (names : List (Str × NameKind)) (cs : List (Str × Addr)), (∀ y ∈ names, y.2 = .free → ∃ c, cells.lookup y.1 = some c) → (∀ x c, cs.lookup x = some c → cells.lookup x = some c) →
    (clOf cells names cs).lookup x = some c → cells.lookup x = some c
  | [], cs, _, h, e => h x c e
  | (n, k) :: r, cs, hn, h, e => by
    unfold clOf at e
    refine clOf_sound r _ (fun y hm => hn y (List.mem_cons_of_mem _ hm)) (fun x c q => ?_) e
    split at q
    · rename_i hk
      have hk' : k = .free := by simpa using hk
      obtain ⟨c', hc⟩ := hn (n, k) List.mem_cons_self hk'
      rw [List.lookup_cons] at q
      cases hx : (x == n) with
      | true =>
        rw [hx] at q
        have hx' : x = n := by simpa using hx
        subst hx'
        rw [hc] at q
        simp at q
        rw [hc, q]
      | false =>
        rw [hx] at q
        exact h x c q
    · exact h x c q
theorem clOf_keeps {cells : List (Str × Addr)} {x : Str} : ∀ (names : List (Str × NameKind)) (cs : List (Str × Addr)), (cs.lookup x).isSome = true → ((clOf cells names cs).lookup x).isSome = true
  | [], cs, h => h
  | (n, k) :: r, cs, h => by
    unfold clOf
    refine clOf_keeps r _ ?_
    split
    · rw [List.lookup_cons]
      split
      · rfl
      · exact h
    · exact h
theorem clOf_has {cells : List (Str × Addr)} {x : Str} : ∀ (names : List (Str × NameKind)) (cs : List (Str × Addr)), (x, NameKind.free) ∈ names → ((clOf cells names cs).lookup x).isSome = true
  | [], _, h => by cases h
  | (n, k) :: r, cs, h => by
    unfold clOf
    rcases List.mem_cons.mp h with e | e
    · cases e
      refine clOf_keeps r _ ?_
      simp
    · exact clOf_has r _ e
theorem lookup_relabel (env : Env) (x : Str) : ∀ names : List (Str × NameKind),
    (names.map fun (n, k) => if (k == NameKind.free && env.scope.kind == .function && env.kindOf n == some .cell) then (n, NameKind.cell) else (n, k)).lookup x =
      (names.lookup x).map fun k => if (k == NameKind.free && env.scope.kind == .function && env.kindOf x == some .cell) = true then .cell else k
  | [] => rfl
  | (n, k) :: r => by
    have ih := lookup_relabel env x r
    simp only [List.map_cons]
    cases hx : (x == n) with
    | true =>
      have hx' : x = n := by simpa using hx
      subst hx'
      by_cases hc : (k == NameKind.free && env.scope.kind == .function && env.kindOf x == some .cell) = true
      · rw [if_pos hc, List.lookup_cons, List.lookup_cons, hx]
        show some NameKind.cell = some (if (k == NameKind.free && env.scope.kind == .function && env.kindOf x == some .cell) = true then NameKind.cell else k)
        rw [if_pos hc]
      · rw [if_neg hc, List.lookup_cons, List.lookup_cons, hx]
        show some k = some (if (k == NameKind.free && env.scope.kind == .function && env.kindOf x == some .cell) = true then NameKind.cell else k)
        rw [if_neg hc]
    | false =>
      by_cases hc : (k == NameKind.free && env.scope.kind == .function && env.kindOf n == some .cell) = true
      · rw [if_pos hc]
        simp only [List.lookup_cons, hx]
        exact ih
      · rw [if_neg hc]
        simp only [List.lookup_cons, hx]
        exact ih
structure CScope (scope : Scope) : Prop where
  kind : scope.kind = .function
  nocell : ∀ y ∈ scope.names, y.2 ≠ .cell
  loc : ∀ y ∈ scope.names, y.2 = .local → scope.names.lookup y.1 = some .local
def cxC (X : Cx) (scope : Scope) (cl : List (Str × Addr)) (N' : List Str) (C : Addr) (s : Shared) (H : Hp) (ex : List Addr) : Cx :=
  { X with N := N', s₀ := s, H₀ := H, env := compEnvC scope cl C X.env, outer := X.stack, ex := ex, fn := fun _ => false, pn := [], xe := fun _ _ => False }
def compσ (nt : Nat) (fi : List Nat) (σ : St) : St := List.replicate nt none ++ fi.map fun j => (σ[j]?).getD none
structure CNames (X : Cx) (scope : Scope) (nt : Nat) (fi : List Nat) (N' : List Str) : Prop where
  len : N'.length = nt + fi.length
  cap : ∀ k j : Nat, fi[k]? = some j → ∃ x, N'[nt + k]? = some x ∧ X.N[j]? = some x ∧ scope.names.lookup x = some .free
  fre : ∀ y ∈ scope.names, y.2 = .free → X.env.scope.names.lookup y.1 = some .cell ∨ X.env.scope.names.lookup y.1 = some .free
def GK (nt : Nat) (g : TG) : Prop := ∀ x σ H Q, g x σ H Q → g x σ H fun σ' H' => Q σ' H' ∧ σ'.length = σ.length ∧ σ'.drop nt = σ.drop nt
def PIf (X : Cx) (ifs : List Expr) (t : TT) : Prop :=
  ∀ (pins : List (Addr × Obj)) (s : Shared) (σ : St) (H : Hp) (Q : Bool → Hp → Prop), Inv X pins σ H s → t σ H Q →
    wpAny (model X.prog X.w) X.A (forIn ifs true fun c r => if r = true then do let ok ← isTrue c X.env (eval c X.env); pure (ForInStep.yield ok) else pure (ForInStep.yield r)) (TP X pins σ Q) X.xe s
def tYes : TT := fun _ H Q => Q true H
theorem pif_nil {X : Cx} : PIf X [] tYes := fun pins s σ H Q I h => wpAny_tests_nil ⟨H, I, h⟩
theorem pif_one {X : Cx} {c : Expr} {t : TT} (h : PT X c t) : PIf X [c] t := fun pins s σ H Q I q => wpAny_tests_one (h pins s σ H Q I q)
theorem gk_name {nt i : Nat} (hi : i < nt) : GK nt (gName i) := fun x σ H Q h => by
  refine ⟨h, ?_, ?_⟩
  · rw [List.length_set]
  · rw [List.drop_set_of_lt hi]
theorem gk_tup2 {K : PySem.W.Frag} {nt i j n : Nat} (hi : i < nt) (hj : j < nt) : GK nt (gTup K n (gCons (gName i) (gCons (gName j) gNil))) := fun x σ H Q h => by
  obtain ⟨a, xs, e, hq, hl, v, r, e1, v', r', e2, e3, q⟩ := h
  refine ⟨a, xs, e, hq, hl, v, r, e1, v', r', e2, e3, q, ?_, ?_⟩
  · rw [List.length_set, List.length_set]
  · rw [List.drop_set_of_lt hj, List.drop_set_of_lt hi]
section
variable {prog : Program} {w : World} {A : Around} {R : Result → Shared → Prop} {s : Shared}
theorem thnF {α : Type} {t : Sem α} {Q Q' : α → Shared → Prop} {M : Model} {E : Value → Shared → Prop} (h : wpAny M A t Q (fun _ _ => False) s) (hQ : ∀ a s, Q a s → Q' a s) : wpAny M A t Q' E s := wpAny_mono h hQ fun _ _ f => f.elim
theorem compLoop_any {elt target iter : Expr} {ifs : List Expr} {scope : Scope} {pos : Pos} {it acc : Value} {env : Env} (I : Nat → Shared → Prop)
    (turn : ∀ n s, I n s → wpAny (model prog w) A (pyNext it) (fun r s₁ => match r with
      | none => R (.ok .next) s₁
      | some v => wpAny (model prog w) A (letOwnedTupleGo target it v) (fun _ s₂ => wpAny (model prog w) A (assign target env v) (fun _ s₃ =>
          wpAny (model prog w) A (forIn ifs true fun c r => if r = true then do let ok ← isTrue c env (eval c env); pure (ForInStep.yield ok) else pure (ForInStep.yield r)) (fun ok s₄ =>
            if ok = true then wpAny (model prog w) A (eval elt env) (fun x s₅ => wpAny (model prog w) A (call (.builtin "list.append") [acc, x]) (fun _ s₆ => ∃ m, m < n ∧ I m s₆) (fun _ _ => False) s₅) (fun _ _ => False) s₄
            else ∃ m, m < n ∧ I m s₄) (fun _ _ => False) s₃) (fun _ _ => False) s₂) (fun _ _ => False) s₁) (fun _ _ => False) s)
    (n : Nat) (h : I n s) : codeAny (model prog w) A (.compLoop (.ListComp elt [⟨target, iter, ifs, 0⟩] scope pos) 0 it acc env) R s := by
  refine codeAny_loop rfl I (fun n s hI => ?_) n h
  show wpAny _ A ((compTurn (.ListComp elt [⟨target, iter, ifs, 0⟩] scope pos) 0 it acc env).onRaise (fun x => do noteFrame x env; theTreesLotGoes x)) _ _ s
  refine wpAny_noted ?_
  rw [compTurn_list]
  refine wpAny_bind (wpAny_standAt (wpAny_bind (thnF (turn n s hI) fun r s₁ h₁ => ?_)))
  cases r with
  | none => exact wpAny_pure h₁
  | some v =>
    refine wpAny_bind (thnF h₁ fun _ s₂ h₂ => wpAny_bind (thnF h₂ fun _ s₃ h₃ => wpAny_bind (thnF h₃ fun ok s₄ h₄ => ?_)))
    cases ok with
    | false => exact wpAny_pure ⟨rfl, h₄⟩
    | true => exact wpAny_bind (wpAny_bind (thnF h₄ fun x s₅ h₅ => wpAny_bind (thnF h₅ fun _ s₆ h₆ => wpAny_pure (wpAny_pure ⟨rfl, h₆⟩))))
end
def tComp (nt : Nat) (fi : List Nat) (wi : TI) (g : TG) (tc : TT) (te : TE) : TE := fun σ H Q => wi σ H fun J H1 => ∀ D, H1 D = none →
  ∃ W : Nat → Nat → List V → Hp → Prop, (∃ m, W 0 m [] (upd H1 D (.lst []))) ∧ ∀ i m acc H2, W i m acc H2 →
    (J.stop i H2 ∧ Q (.ref D) H2) ∨ (J.go i H2 ∧ ∀ x H3, J.yld i H2 x H3 → g x (compσ nt fi σ) H3 fun σ4 H4 => tc σ4 H4 fun b H5 => if b = true then
      te σ4 H5 fun v H6 => H6 D = some (.lst acc) ∧ acc.length < sizeLine ∧ ∃ m', m' < m ∧ W (i + 1) m' (acc ++ [v]) (upd H6 D (.lst (acc ++ [v]))) else ∃ m', m' < m ∧ W (i + 1) m' acc H5)
theorem compσ_weak {nt : Nat} {fi : List Nat} {σ σ' : St} (hl : σ'.length = (compσ nt fi σ).length) (hd : σ'.drop nt = (compσ nt fi σ).drop nt) : ∀ (i : Nat) v, (compσ nt fi σ)[i]? = some (some v) → σ'[i]? = some (some v) := fun i v e => by
  by_cases hi : i < nt
  · unfold compσ at e
    rw [List.getElem?_append_left (by simpa using hi), List.getElem?_replicate] at e
    split at e <;> cases e
  · have ei : i = nt + (i - nt) := by omega
    have q := congrArg (fun l => l[i - nt]?) hd
    simp only [List.getElem?_drop] at q
    rw [← ei] at q
    rw [q]
    exact e
section
variable {X : Cx}
theorem inv_comp {pins : List (Addr × Obj)} {σ : St} {H : Hp} {s : Shared} {scope : Scope} {nt : Nat} {fi : List Nat} {N' : List Str} {fp : List Addr} {h₁ : Heap} {m : Str → Option Value} {tk : Nat}
    (I : Inv X pins σ H s) (S : CScope scope) (cn : CNames X scope nt fi N') (hf : ∀ b ∈ fp, FpOk X pins H b) (ho : ∀ b ∈ fp, ∃ o, s.heap.get? b = some o)
    (hns : h₁.Ns s.heap.objs.size m) (kp : ∀ b o, s.heap.get? b = some o → h₁.get? b = some o) (htk : 0 < tk) :
    Inv (cxC X scope (clOf X.env.cells scope.names []) N' s.heap.objs.size s H fp) (X.pn ++ pins) (compσ nt fi σ) H { s with heap := h₁, toks := tk } := by
  have hfr : ∀ y ∈ scope.names, y.2 = .free → ∃ c, X.env.cells.lookup y.1 = some c := fun y hy e => I.ok.has y.1 (cn.fre y hy e)
  have snd : ∀ x c, (clOf X.env.cells scope.names []).lookup x = some c → X.env.cells.lookup x = some c := fun x c e => clOf_sound scope.names [] hfr (fun _ _ q => by simp at q) e
  have offstk : ∀ b, b ≠ X.env.locals → b ∉ X.fs → b ∉ frs X.stack := fun b h1 h2 h3 => by
    rcases List.mem_cons.mp (I.stkSub b h3) with e | e
    · exact h1 e
    · exact h2 e
  have lt : ∀ {b o}, s.heap.get? b = some o → b ≠ s.heap.objs.size := fun e => Nat.ne_of_lt (Heap.lt_size e)
  have kinds : ∀ x k, (relabel scope X.env).names.lookup x = some k → (k = .cell ∨ k = .free) → (x, NameKind.free) ∈ scope.names := fun x k e hk => by
    have e' : (scope.names.map fun (n, k) => if (k == NameKind.free && X.env.scope.kind == .function && X.env.kindOf n == some .cell) then (n, NameKind.cell) else (n, k)).lookup x = some k := e
    rw [lookup_relabel] at e'
    cases q : scope.names.lookup x with
    | none => rw [q] at e'; cases e'
    | some k' =>
      have mem : (x, k') ∈ scope.names := PySem.mem_of_lookup q
      rw [q] at e'
      simp only [Option.map_some, Option.some.injEq] at e'
      split at e'
      · rename_i hc
        simp only [Bool.and_eq_true, beq_iff_eq] at hc
        rw [hc.1.1] at mem
        exact mem
      · subst e'
        rcases hk with z | z
        · subst z
          exact absurd rfl (S.nocell _ mem)
        · subst z
          exact mem
  refine ⟨⟨I.ok.mod, S.kind, I.ok.glob, I.ok.blt, Nat.le_refl _, fun x y c e1 e2 => I.ok.inj x y c (snd x c e1) (snd y c e2), fun x hx => ?_, fun x c e => (nomatch e), I.ok.hd, I.ok.frames, .inl rfl, fun b hb => ⟨?_, fun x c e => (hf b hb).2.2.2.2.1 x c (snd x c e)⟩, I.bs, ?_, fun b o e hb => ?_, fun b hb => offstk b (hf b hb).2.1 (hf b hb).2.2.1, I.stack, I.stkFree⟩,
    rfl, I.bare, Un.kept kp, ⟨m, hns, fun i x v e1 e2 e3 => ?_⟩, fun x c e => ?_, I.hok.fresh (Nat.le_refl _), fun x c e => I.freeC x c (snd x c e), fun p hp => ?_, I.hok.kept kp, ?_, htk⟩
  · have hx' : (relabel scope X.env).names.lookup x = some .cell ∨ (relabel scope X.env).names.lookup x = some .free := hx
    have mem : (x, NameKind.free) ∈ scope.names := by
      rcases hx' with q | q
      · exact kinds x _ q (.inl rfl)
      · exact kinds x _ q (.inr rfl)
    exact Option.isSome_iff_exists.mp (clOf_has scope.names [] mem)
  · obtain ⟨o, e⟩ := ho b hb
    exact lt e
  · exact Nat.le_trans I.ok.bsz I.sz
  · rcases (hf b hb).2.2.2.1 with q | q
    · exact I.ok.noex b o e q
    · exact absurd (Nat.lt_of_lt_of_le (Heap.lt_size e) (Nat.le_trans I.ok.bsz q)) (Nat.lt_irrefl _)
  · have hi : ¬ i < nt := fun hi => by
      unfold compσ at e2
      rw [List.getElem?_append_left (by simpa using hi), List.getElem?_replicate] at e2
      split at e2 <;> cases e2
    have ei : i = nt + (i - nt) := by omega
    have e2' : (fi.map fun j => (σ[j]?).getD none)[i - nt]? = some (some v) := by
      unfold compσ at e2
      rw [List.getElem?_append_right (by simpa using Nat.le_of_not_lt hi)] at e2
      simpa using e2
    rw [List.getElem?_map] at e2'
    cases ej : fi[i - nt]? with
    | none => rw [ej] at e2'; cases e2'
    | some j =>
      rw [ej] at e2'
      obtain ⟨x', n1, n2, n3⟩ := cn.cap (i - nt) j ej
      rw [← ei] at n1
      have e1' : N'[i]? = some x := e1
      rw [n1] at e1'
      cases e1'
      have ev : σ[j]? = some (some v) := by
        have e2' : some ((σ[j]?).getD none) = some (some v) := e2'
        cases q : σ[j]? with
        | none => rw [q] at e2'; simp at e2'
        | some w => rw [q] at e2'; simp at e2'; rw [e2']
      have mem : (x, NameKind.free) ∈ scope.names := PySem.mem_of_lookup n3
      have vis := cn.fre _ mem rfl
      obtain ⟨m0, hn0, hl0⟩ := I.loc
      obtain ⟨u, ru, lk⟩ := hl0 j x v n2 ev (.inr vis)
      refine ⟨u, ru, ?_⟩
      rcases lk with ⟨q, _⟩ | ⟨q, c, ec, o, hoc, hod⟩
      · have q' : X.env.scope.names.lookup x = some .local := q
        rcases vis with z | z
        · have z' : X.env.scope.names.lookup x = some .cell := z
          rw [q'] at z'; cases z'
        · have z' : X.env.scope.names.lookup x = some .free := z
          rw [q'] at z'; cases z'
      · obtain ⟨c', ec'⟩ := Option.isSome_iff_exists.mp (clOf_has (cells := X.env.cells) scope.names [] mem)
        have ecc := snd x c' ec'
        rw [ec] at ecc
        cases ecc
        refine .inr ⟨?_, c, ec', o, kp c o hoc, hod⟩
        show (relabel scope X.env).names.lookup x = some .cell ∨ (relabel scope X.env).names.lookup x = some .free
        have e4 : (relabel scope X.env).names.lookup x = (scope.names.lookup x).map fun k => if (k == NameKind.free && X.env.scope.kind == .function && X.env.kindOf x == some .cell) = true then .cell else k := lookup_relabel X.env x scope.names
        rw [e4, n3]
        simp only [Option.map_some]
        split
        · exact .inl rfl
        · exact .inr rfl
  · obtain ⟨v, o, hoc, hod⟩ := I.cell x c (snd x c e)
    exact ⟨v, o, kp c o hoc, hod⟩
  · have hp' : p ∈ X.pn ++ pins := by
      have hp'' : p ∈ ([] : List (Addr × Obj)) ++ (X.pn ++ pins) := hp
      simpa using hp''
    obtain ⟨e, n, ne, nf, d⟩ := I.pin p hp'
    exact ⟨kp _ _ e, n, lt e, offstk _ ne nf, d⟩
  · show (compσ nt fi σ).length = N'.length
    unfold compσ
    rw [cn.len, List.length_append, List.length_replicate, List.length_map]
theorem inv_back {pins : List (Addr × Obj)} {σ σ' : St} {H H' : Hp} {s s' : Shared} {scope : Scope} {cl : List (Str × Addr)} {N' : List Str} {fp : List Addr} {C : Addr} {P : List (Addr × Obj)} {h'' : Heap}
    (I : Inv X pins σ H s) (hf : ∀ b ∈ fp, FpOk X pins H b) (hC : s.heap.objs.size ≤ C) (J : Inv (cxC X scope cl N' C s H fp) P σ' H' s') (sb : Heap.SameBut C s'.heap h'') : Inv X pins σ H' { s' with heap := h'' } := by
  have ne : ∀ {b o}, s.heap.get? b = some o → b ≠ C := fun e => Nat.ne_of_lt (Nat.lt_of_lt_of_le (Heap.lt_size e) hC)
  have u : Un (frs X.stack) fp H H' s.heap s'.heap := J.base
  refine I.call' (s' := { s' with heap := h'' }) (ch := fp) J.os ⟨fun b o e n hb hx => ?_, fun b o e n hb hx => ?_, u.free, fun b o e hx => ?_, u.tups, u.frzs, u.tbls⟩ (fun b o e => ?_) J.bare (fun b hb => ?_) J.tk
  · exact (sb.2 b (ne e)).trans (u.keep b o e n hb hx)
  · obtain ⟨sl, q⟩ := u.slot b o e n hb hx
    exact ⟨sl, (sb.2 b (ne e)).trans q⟩
  · obtain ⟨o', q⟩ := u.there b o e hx
    exact ⟨o', (sb.2 b (ne e)).trans q⟩
  · have fr : H' C = none := J.free
    refine (J.hok b o e).stay (fun c v hc q => (sb.2 c ?_).trans q) (fun _ q => q) fun _ _ q => q
    rintro rfl
    rcases hc with z | z
    · subst z
      rw [fr] at e
      cases e
    · rw [fr] at z
      cases z
  · obtain ⟨f0, f1, f2, f3, f4, f5⟩ := hf b hb
    exact ⟨f3, f1, f4, f5⟩
theorem pe_comp {elt tg iter : Expr} {ifs : List Expr} {scope : Scope} {pos : Pos} {wi : TI} {g : TG} {tc : TT} {te : TE} {nt : Nat} {fi : List Nat} {N' : List Str} (hcalm : X.calm = true)
    (S : CScope scope) (cn : CNames X scope nt fi N') (gk : GK nt g) (hi : PI X tg iter wi)
    (hg : ∀ cl C s H ex, PG (cxC X scope cl N' C s H ex) tg g) (hc : ∀ cl C s H ex, PIf (cxC X scope cl N' C s H ex) ifs tc) (he : ∀ cl C s H ex, PE (cxC X scope cl N' C s H ex) elt te)
    (hs : ∀ x, foldedSetIterable iter X.env x = pure x := by intro _; rfl) : PE X (.ListComp elt [⟨tg, iter, ifs, 0⟩] scope pos) (tComp nt fi wi g tc te) := by
  intro pins s σ H Q I h
  have hfr : ∀ y ∈ scope.names, y.2 = .free → ∃ c, X.env.cells.lookup y.1 = some c := fun y hy e => I.ok.has y.1 (cn.fre y hy e)
  rw [eval_ListComp]
  refine wpAny_comprehension_free (use := none) rfl hs (closureFor_some hfr) S.kind S.loc (thn (hi pins s σ H _ I h) fun v s1 h1 => thn h1 fun itv s2 h2 => ?_)
  obtain ⟨it, fp, tn, J, H2, e, I2, T, st2, f2, hW⟩ := h2
  subst e
  have fD : H2 s2.heap.objs.size = none := I2.hok.fresh (Nat.le_refl _)
  obtain ⟨W, ⟨m0, w0⟩, turn⟩ := hW s2.heap.objs.size fD
  refine wpAny_newObj_type (wpAny_newFunctionEnv S.nocell (by intro y hy; simp at hy) (fun h₁ hns₁ hsb₁ => ?_) S.kind)
  have I3 : Inv X pins σ (upd H2 s2.heap.objs.size (.lst [])) { s2 with heap := s2.heap.push { cls := .type "list", dict := none, data := .seq ([] : List Value).toArray } } := I2.lnew (its := []) (t' := s2.toks) .nil (Nat.zero_le _)
  generalize hs3 : ({ s2 with heap := s2.heap.push { cls := .type "list", dict := none, data := .seq ([] : List Value).toArray } } : Shared) = s3 at I3 hns₁ hsb₁ ⊢
  have hsz : s3.heap.objs.size = s2.heap.objs.size + 1 := by rw [← hs3]; exact Heap.size_push ..
  have ob2 : ∀ b ∈ fp, ∃ o, s3.heap.get? b = some o := fun b hb => by
    obtain ⟨o, e, _⟩ := T.obj _ _ st2 b hb
    rw [← hs3]
    exact ⟨o, Heap.get?_push_of_some _ e⟩
  have f3 : ∀ b ∈ fp, FpOk X pins (upd H2 s2.heap.objs.size (.lst [])) b := fun b hb => by
    obtain ⟨o, e, _⟩ := T.obj _ _ st2 b hb
    refine ⟨?_, (f2 b hb).2⟩
    rw [upd_ne (Nat.ne_of_lt (Heap.lt_size e))]
    exact (f2 b hb).1
  have kp : ∀ b o, s3.heap.get? b = some o → h₁.get? b = some o := fun b o e => hsb₁.extBut b o (Nat.ne_of_lt (Heap.lt_size e)) (Heap.get?_push_of_some _ e)
  have st3 : tn 0 h₁ := T.keep _ _ _ st2 fun b _ o e => kp b o (by rw [← hs3]; exact Heap.get?_push_of_some _ e)
  have J4 : Inv (cxC X scope (clOf X.env.cells scope.names []) N' s3.heap.objs.size s3 (upd H2 s2.heap.objs.size (.lst [])) fp) (X.pn ++ pins) (compσ nt fi σ) (upd H2 s2.heap.objs.size (.lst [])) { s3 with heap := h₁, toks := s3.toks + ([] : List (Str × Value)).length } :=
    inv_comp I3 S cn f3 ob2 hns₁ kp I3.tk
  generalize hcl : clOf X.env.cells scope.names [] = cl at J4 ⊢
  generalize hH3 : upd H2 s2.heap.objs.size (.lst []) = H3 at J4 I3 f3 w0
  have stat : ∀ {H' : Hp}, (∀ b ∈ fp, H' b = none) → ∀ b ∈ fp, FpOk (cxC X scope cl N' s3.heap.objs.size s3 H3 fp) (X.pn ++ pins) H' b := fun {H'} hn b hb => by
    obtain ⟨g0, g1, g2, g3, g4, g5⟩ := f3 b hb
    have ok := J4.ok
    refine ⟨hn b hb, (ok.exf b hb).1, ok.exfs b hb, .inl hb, (ok.exf b hb).2, fun p hp => g5 p ?_⟩
    have hp' : p ∈ ([] : List (Addr × Obj)) ++ (X.pn ++ pins) := hp
    simpa using hp'
  have loop : ∀ s₃ : Shared, s₃ = { s3 with heap := h₁, toks := s3.toks + ([] : List (Str × Value)).length } →
      codeAny (model X.prog X.w) X.A (.compLoop (.ListComp elt [⟨tg, iter, ifs, 0⟩] scope pos) 0 (.ref it) (.ref s2.heap.objs.size) (compEnvC scope cl s3.heap.objs.size X.env))
        (compPost (model X.prog X.w) X.A X.xe none (EP X pins σ Q) (.ref s2.heap.objs.size) s3.heap.objs.size) s₃ := by
    rintro s₃ rfl
    refine compLoop_any (fun n s' => ∃ i acc H', Inv (cxC X scope cl N' s3.heap.objs.size s3 H3 fp) (X.pn ++ pins) (compσ nt fi σ) H' s' ∧ tn i s'.heap ∧ (∀ b ∈ fp, H' b = none) ∧ W i n acc H') ?_ m0
      ⟨0, [], H3, J4, st3, fun b hb => (f3 b hb).1, w0⟩
    rintro n s5 ⟨i, acc, H5, I5, st5, fr5, w5⟩
    rcases turn i n acc H5 w5 with ⟨stop, qn⟩ | ⟨go, step⟩
    · refine thn (T.done (cxC X scope cl N' s3.heap.objs.size s3 H3 fp) rfl rfl rfl hcalm i (X.pn ++ pins) s5 (compσ nt fi σ) H5 (fun _ _ => False) I5 (stat fr5) st5 stop) fun r s6 ⟨hr, I6⟩ => ?_
      subst hr
      obtain ⟨m6, hn6, _⟩ := I6.loc
      exact ⟨m6, hn6, fun h' sb => ⟨.ref s2.heap.objs.size, H5, inv_back I3 f3 (Nat.le_refl _) I6 sb, rfl, qn⟩⟩
    · refine thn (T.item (cxC X scope cl N' s3.heap.objs.size s3 H3 fp) rfl rfl rfl hcalm i (X.pn ++ pins) s5 (compσ nt fi σ) H5 (fun _ _ => False) I5 (stat fr5) st5 go) fun r s6 ⟨u, hr, h6⟩ => ?_
      subst hr
      refine thn h6 fun _ s7 ⟨x, H7, I7, r7, y7, st7, fr7⟩ => ?_
      have I7' := I7.pinned (stat fr7) (T.obj _ _ st7)
      refine thn (hg _ _ _ _ _ _ s7 (compσ nt fi σ) H7 x u _ I7' r7 (gk _ _ _ _ (step x H7 y7))) fun _ s8 ⟨σ8, H8, I8, q8, l8, d8⟩ => ?_
      refine thn (hc _ _ _ _ _ _ s8 σ8 H8 _ I8 q8) fun b s9 ⟨H9, I9, q9⟩ => ?_
      have again : ∀ {s' : Shared} {H' : Hp} {m' : Nat} {acc' : List V}, Inv (cxC X scope cl N' s3.heap.objs.size s3 H3 fp) ((X.pn ++ pins) ++ pinsAt fp s7.heap) σ8 H' s' → m' < n → W (i + 1) m' acc' H' →
          ∃ m, m < n ∧ ∃ i acc H', Inv (cxC X scope cl N' s3.heap.objs.size s3 H3 fp) (X.pn ++ pins) (compσ nt fi σ) H' s' ∧ tn i s'.heap ∧ (∀ b ∈ fp, H' b = none) ∧ W i m acc H' := fun {s' H' m' acc'} I' hm w' => by
        refine ⟨m', hm, i + 1, acc', H', I'.unpinned.weak l8.symm (compσ_weak l8 d8), T.keep _ _ _ st7 fun b hb o e => (I'.pin (b, o) (List.mem_append_right _ (List.mem_append_right _ (mem_pinsAt hb e)))).1, fun b hb => ?_, w'⟩
        obtain ⟨o, e, d⟩ := T.obj _ _ st7 b hb
        exact (I'.pin (b, o) (List.mem_append_right _ (List.mem_append_right _ (mem_pinsAt hb e)))).2.1
      cases b with
      | false =>
        rw [if_neg Bool.false_ne_true] at q9 ⊢
        obtain ⟨m', hm, w'⟩ := q9
        exact again I9 hm w'
      | true =>
        rw [if_pos rfl] at q9 ⊢
        refine thn (he _ _ _ _ _ _ s9 σ8 H9 _ I9 q9) fun uv s10 ⟨v10, H10, I10, r10, hD, hlt, m', hm, w'⟩ => ?_
        refine thn (mt_append (X := cxC X scope cl N' s3.heap.objs.size s3 H3 fp) _ s10 σ8 H10 (.ref s2.heap.objs.size) [v10] (.ref s2.heap.objs.size) [uv] (fun _ H' => H' = upd H10 s2.heap.objs.size (.lst (acc ++ [v10]))) I10 rfl (.cons r10 .nil) ⟨_, acc, v10, rfl, rfl, hD, hlt, rfl⟩) fun _ s11 ⟨_, H11, I11, _, e11⟩ => ?_
        subst e11
        exact again I11 hm w'
  exact codeAny_compStart_list (loop _ rfl) (T.self _ 0 _ _ _ st3 (loop _ rfl))
end
end L2


namespace L2
open PySem PySem.Spec PyProof.Rows
abbrev st (l : List Nat) : Str := ⟨l.toArray⟩
theorem st_len (l : List Nat) : (st l).length = l.length := by simp [Str.length]
theorem st_cps (l : List Nat) : (st l).cps.toList = l := rfl
theorem st_app (l m : List Nat) : st l ++ st m = st (l ++ m) := by
  show Str.append (st l) (st m) = _
  simp [Str.append]
theorem st_inj {l m : List Nat} : st l = st m ↔ l = m := by simp
theorem strsAre_of {ys : List Str} : ∀ {us : List Value}, Vals (ys.map V.str) us → StrsAre us ys := by
  induction ys with
  | nil => intro us r; cases r; exact .nil
  | cons y r ih =>
    intro us h
    cases h with
    | cons r1 r2 =>
      obtain ⟨t, rfl⟩ := r1
      exact .cons y t (ih r2)
theorem txt_join_ones (l : List Nat) : Txt.join ⟨#[]⟩ (l.map fun k => (⟨#[k]⟩ : Str)) = st l := by
  have h := join_plain_closes ⟨#[]⟩ (l.map fun k => (⟨#[k]⟩ : Str))
  rw [eq_of_beq h]
  exact join_ones l
section
variable {X : Cx}
def rJoin (K : PySem.W.Frag) : V → List V → Hp → VK → Prop := fun x vs H Q => ∃ sep l ys, x = .str sep ∧ vs = [.ref l] ∧ SqL K H l (ys.map V.str) ∧ (ys.map (·.length)).sum + ys.length * sep.length ≤ 16777216 ∧ Q (.str (Txt.join sep ys)) H
theorem mt_join : MtR X "str.join" (rJoin X.K) := by
  intro pins s σ H x vs v us Q I rx rv h
  obtain ⟨sep, l, ys, rfl, rfl, hq, hz, q⟩ := h
  obtain ⟨t, rfl⟩ := rx
  obtain ⟨u, rfl, ru⟩ := rv.one
  cases ru
  obtain ⟨its, r, pl, _⟩ := I.list hq
  exact tokQ I.tk (join_list pl.isList (strsAre_of r) hz fun t' k (htk : 0 < k) => ⟨.str _, H, I.tok _, ⟨_, rfl⟩, q⟩)
theorem sum_ones (l : List Nat) : ((l.map fun k => (⟨#[k]⟩ : Str)).map (·.length)).sum = l.length := by
  induction l with
  | nil => rfl
  | cons a r ih =>
    rw [List.map_cons, List.map_cons, List.sum_cons, ih, List.length_cons]
    show 1 + r.length = r.length + 1
    omega
def rJoin1 (K : PySem.W.Frag) : V → List V → Hp → VK → Prop := fun x vs H Q => ∃ l cs, x = .str (Str.ofString "") ∧ vs = [.ref l] ∧ SqL K H l (cs.map fun k => V.str ⟨#[k]⟩) ∧ cs.length ≤ 10000 ∧ Q (.str (st cs)) H
theorem ofString_nil : Str.ofString "" = ⟨#[]⟩ := by decide +kernel
theorem mt_join1 : MtR X "str.join" (rJoin1 X.K) := by
  intro pins s σ H x vs v us Q I rx rv h
  obtain ⟨l, cs, rfl, rfl, hq, hz, q⟩ := h
  refine mt_join pins s σ H _ _ v us Q I rx rv ⟨_, l, cs.map fun k => ⟨#[k]⟩, rfl, rfl, ?_, ?_, ?_⟩
  · rw [List.map_map]
    exact hq
  · rw [sum_ones, List.length_map, ofString_nil]
    show cs.length + cs.length * 0 ≤ 16777216
    omega
  · rw [ofString_nil, txt_join_ones]
    exact q
def rSlS : V → Option Int → Option Int → Hp → VK → Prop := fun x lo hi H Q => ∃ z, x = .str z ∧ z.length ≤ sizeLine ∧ Q (.str (Txt.slice z lo hi)) H
theorem sl_str : SlR X rSlS := by
  intro pins s σ H x v vl vu lo hi sl Q I rx hs pl pu h
  obtain ⟨z, rfl, hz, q⟩ := h
  obtain ⟨t, rfl⟩ := rx
  have fin : ∀ t' k, 0 < k → EP X pins σ Q (.str (Txt.slice z lo hi) t') { s with toks := k } := fun t' k htk => ⟨.str _, H, I.tok _, ⟨_, rfl⟩, q⟩
  refine ⟨"str", _, F.slot_str_getitem.lookup, typeIs_str _ _ _, tokQ I.tk ?_⟩
  obtain ⟨o, e1, e2, e3⟩ := id hs
  cases pl with
  | none =>
    cases pu with
    | none => exact wpAny_getItem_str_slice (l := none) (u := none) (st := none) ⟨o, e1, e2, e3⟩ rfl (post_val_or_str ⟨Nat.le_trans (Txt.slice_le z _ _) hz, fin⟩)
    | int j tj => exact wpAny_getItem_str_slice (l := none) (u := some (j, tj)) (st := none) ⟨o, e1, e2, e3⟩ rfl (post_val_or_str ⟨Nat.le_trans (Txt.slice_le z _ _) hz, fin⟩)
  | int i ti =>
    cases pu with
    | none => exact wpAny_getItem_str_slice (l := some (i, ti)) (u := none) (st := none) ⟨o, e1, e2, e3⟩ rfl (post_val_or_str ⟨Nat.le_trans (Txt.slice_le z _ _) hz, fin⟩)
    | int j tj => exact wpAny_getItem_str_slice (l := some (i, ti)) (u := some (j, tj)) (st := none) ⟨o, e1, e2, e3⟩ rfl (post_val_or_str ⟨Nat.le_trans (Txt.slice_le z _ _) hz, fin⟩)
theorem slice_to (l : List Nat) (k : Nat) (h : k ≤ l.length) : Txt.slice (st l) none (some (k : Int)) = st (l.take k) := by
  have q := slice_closes_to (x := st l) (j := (k : Int)) ⟨by omega, by simpa using h⟩
  rw [eq_of_beq q]
  simp
theorem slice_from (l : List Nat) (k : Nat) (h : k ≤ l.length) : Txt.slice (st l) (some (k : Int)) none = st (l.drop k) := by
  have q := slice_from_eq (x := st l) (i := (k : Int)) (b := (l.length : Int)) (by omega) (by simpa [Str.length] using h) (by simp [Str.length])
  rw [q]
  simp only [st_cps, Int.toNat_natCast]
  rw [List.take_of_length_le (by rw [List.length_drop]; omega)]
theorem op_mul_str : OpR X (binaryOp .Mult) (fun x y H Q => ∃ z n, x = .str z ∧ y = .int n ∧ MulOk z n ∧ Q (.str (Txt.mul z n)) H) := by
  intro pins s σ H x y v u Q I rx ry h
  obtain ⟨z, n, rfl, rfl, hok, q⟩ := h
  obtain ⟨t, rfl⟩ := rx
  obtain ⟨t', rfl⟩ := ry
  exact tokQ I.tk (SB.mul hok fun t' k (htk : 0 < k) => ⟨.str _, H, I.tok _, ⟨_, rfl⟩, q⟩)
theorem mul1 (k n : Nat) : Txt.mul ⟨#[k]⟩ (n : Int) = st (List.replicate n k) := by
  have q := mul_one_list k (n : Int)
  rw [Int.toNat_natCast] at q
  have e : ∀ x : Str, x = ⟨x.cps.toList.toArray⟩ := fun x => by simp
  rw [e (Txt.mul ⟨#[k]⟩ (n : Int)), q]
theorem call_isinst : CallR X (.builtin "isinstance") (fun xs H Q => ∃ x n t b, xs = [x, .ty n] ∧ TyOf X.K H x t ∧ PySem.W.kitOne X.K t (.type n) = some b ∧ Q (.bl b) H) := by
  intro pins s σ H xs us Q I r h
  obtain ⟨x, n, t, b, rfl, ty, e, q⟩ := h
  obtain ⟨u, w', rfl, r1, r2⟩ := vals2 r
  cases r2
  exact tokQ I.tk (isinst_ok I r1 ty e fun tk (htk : 0 < tk) => ⟨.bl b, H, I.tok _, rfl, q⟩)
theorem call_int_txt : CallR X (.type "int") (fun xs H Q => ∃ z n, xs = [.str z] ∧ PySem.intText? z = some n ∧ z.length ≤ 640 ∧ Q (.int n) H) := by
  intro pins s σ H xs us Q I r h
  obtain ⟨z, n, rfl, e, hz, q⟩ := h
  obtain ⟨u, rfl, t, rfl⟩ := vals1 r
  exact PySem.W.KIN.call_text e hz ⟨.int n, H, I.tok _, ⟨_, rfl⟩, q⟩
end
end L2


namespace L2
open PySem PySem.Spec PyProof.Rows
def Fn (K : PySem.W.Frag) (mg : Str → Option Value) (x : Str) (st : Stmt) : Prop := ∃ f fd, Fun K x x st f fd ∧ mg x = some (.ref f)
def Callee (P : Program) (w : World) (K : PySem.W.Frag) (mg : Str → Option Value) (base : Heap) (k : Nat) (x : Str) (ps : List Str) (sp : Sp) : Prop :=
  ∃ f fd, FnOk P w K mg base CX0 k f fd ps sp ∧ Binds K fd ps [] ∧ PySem.W.keepIn K (.ref f) = true ∧ mg x = some (.ref f)
theorem Callee.mono {P : Program} {w : World} {K : PySem.W.Frag} {mg : Str → Option Value} {base : Heap} {j k : Nat} {x : Str} {ps : List Str} {sp : Sp} (C : Callee P w K mg base j x ps sp) (h : j ≤ k) : Callee P w K mg base k x ps sp := by
  obtain ⟨f, fd, F, r⟩ := C
  exact ⟨f, fd, F.mono h, r⟩
theorem Fn.cal {P : Program} {w : World} {K : PySem.W.Frag} {mg : Str → Option Value} {base : Heap} {x : Str} {st : Stmt} {N ps : List Str} {k : Nat} {sp : Sp} (F : Fn K mg x st) (S : FnScope N ps (defScope st)) (len : ∀ vs H Q E, sp vs H Q E → vs.length = ps.length)
    (hb : ∀ (kV doc pm : Value) (an : Option Addr) (cdv ct : Value) (us : List Value), us.length = ps.length → bindArgs (PySem.W.fnOf x x (defArgs st) (defBody st) (defScope st) .none kV doc pm an cdv ct) ⟨us, []⟩ = pure (ps.zip us))
    (hbody : ∀ (f : Addr) (cdv : Value) (A : Around) (outer : List Env) (s : Shared) (H : Hp) (vs : List V) (Q : VK) (E : XK), Room k (A.deeper (envOfC x (defScope st) s.heap.objs.size f cdv)) → sp vs H Q E →
      ∃ t, PSs (cxOf CX0 P w K mg base N x (defScope st) f cdv A outer s H E).nox (defBody st) t ∧ t { nx := fun _ H' => Q .non H', rt := Q } (start N vs) H) : Callee P w K mg base (k + 1) x ps sp := by
  obtain ⟨f, fd, F, m⟩ := F
  exact ⟨f, fd, F.ok S len (hbody f), F.binds hb, F.kp, m⟩
section
variable {X : Cx} {k : Nat} {x : Str} {ps : List Str} {sp : Sp} {p pos : Pos} {e : Expr} {es : List Expr} {t : TA}
theorem pe_fn (C : Callee X.prog X.w X.K X.mg X.base k x ps sp) (hr : Room k X.A) (hg : Gl X x) (ha : PA X (e :: es) t)
    (he : starEach (e :: es) X.env = (false, eval e X.env) :: starEach es X.env := by rfl) (hpl : (backTo pos (starEach es X.env)).any (·.1) = false := by rfl) (hd : (x == ("__debug__" : Str)) = false := by decide) : PE X (.Call (.Name x p) (e :: es) [] pos) (tCall sp [] E0 t) := by
  obtain ⟨f, fd, F, b, kp, m⟩ := C
  exact pe_call F hr hg m kp b .nil pass0 ha (hdb := hd) (he := he) (hpl := hpl)
end
def tJoin (t u : TS) : TS := fun D σ H => ∃ J : St → Hp → Prop, t { D with nx := J } σ H ∧ ∀ σ' H', J σ' H' → u D σ' H'
theorem pss_join {X : Cx} {st : Stmt} {rest : List Stmt} {t u : TS} (h1 : PS X st t) (h2 : PSs X rest u) : PSs X (st :: rest) (tJoin t u) := by
  intro pins s σ H D I h
  obtain ⟨J, hj, hr⟩ := h
  refine wpAny_execs_cons (thn (h1 pins s σ H { D with nx := J } I hj) fun f s1 q => ?_)
  cases f with
  | next =>
    obtain ⟨σ', H', I', q⟩ := q
    exact h2 pins s1 σ' H' D I' (hr σ' H' q)
  | ret v => exact q
  | brk => exact q
  | cont => exact q
theorem same_new {H : Hp} {p : Addr} (h : H p = none) (o : HO) : Same H (upd H p o) := fun b u q => by rw [upd_ne (ne_of_none q h)]; exact q
theorem same_upd {H H' : Hp} {p : Addr} {o : HO} (s : Same H H') (h : H p = none) : Same H (upd H' p o) := fun b u q => by rw [upd_ne (ne_of_none q h)]; exact s b u q
theorem sizeBig {n : Nat} (h : n ≤ 100000) : n < sizeLine := Nat.lt_of_le_of_lt h (by decide)
def RowL (l : List Nat) : Prop := ∀ c ∈ l, c = 48 ∨ c = 49 ∨ c = 45
theorem RowL.nil : RowL [] := fun _ h => nomatch h
theorem RowL.snoc {l : List Nat} {c : Nat} (h : RowL l) (hc : c = 48 ∨ c = 49 ∨ c = 45) : RowL (l ++ [c]) := fun d hd => by
  rcases List.mem_append.mp hd with q | q
  · exact h d q
  · rw [List.mem_singleton.mp q]
    exact hc
end L2


namespace L2
open PySem PySem.Spec PyProof.Rows
section
variable {X : Cx}
theorem PE.imp {e : Expr} {t t' : TE} (h : PE X e t) (k : ∀ σ H Q, t' σ H Q → t σ H Q) : PE X e t' := fun pins s σ H Q I q => h pins s σ H Q I (k σ H Q q)
theorem PT.imp {e : Expr} {t t' : TT} (h : PT X e t) (k : ∀ σ H Q, t' σ H Q → t σ H Q) : PT X e t' := fun pins s σ H Q I q => h pins s σ H Q I (k σ H Q q)
theorem PI.imp {tg e : Expr} {t t' : TI} (h : PI X tg e t) (k : ∀ σ H Q, t' σ H Q → t σ H Q) : PI X tg e t' := fun pins s σ H Q I q => h pins s σ H Q I (k σ H Q q)
theorem PG.imp {e : Expr} {t t' : TG} (h : PG X e t) (k : ∀ v σ H Q, t' v σ H Q → t v σ H Q) : PG X e t' := fun pins s σ H v u Q I r q => h pins s σ H v u Q I r (k v σ H Q q)
theorem OpR.imp {f : Value → Value → Sem Value} {r r' : R2} (h : OpR X f r) (k : ∀ x y H Q, r' x y H Q → r x y H Q) : OpR X f r' := fun pins s σ H x y v u Q I rx ry q => h pins s σ H x y v u Q I rx ry (k x y H Q q)
theorem CallR.imp {f : Value} {r r' : List V → Hp → VK → Prop} (h : CallR X f r) (k : ∀ xs H Q, r' xs H Q → r xs H Q) : CallR X f r' := fun pins s σ H xs us Q I r q => h pins s σ H xs us Q I r (k xs H Q q)
theorem IxR.imp {r r' : R2} (h : IxR X r) (k : ∀ x y H Q, r' x y H Q → r x y H Q) : IxR X r' := fun a b pins s σ H x y v u Q I rx ry q => h a b pins s σ H x y v u Q I rx ry (k x y H Q q)
theorem MtR.imp {id : String} {r r' : V → List V → Hp → VK → Prop} (h : MtR X id r) (k : ∀ x xs H Q, r' x xs H Q → r x xs H Q) : MtR X id r' := fun pins s σ H x xs v us Q I rx r q => h pins s σ H x xs v us Q I rx r (k x xs H Q q)
theorem SlR.imp {r r' : V → Option Int → Option Int → Hp → VK → Prop} (h : SlR X r) (k : ∀ x a b H Q, r' x a b H Q → r x a b H Q) : SlR X r' := fun pins s σ H x v vl vu lo hi sl Q I rx hs pl pu q => h pins s σ H x v vl vu lo hi sl Q I rx hs pl pu (k x lo hi H Q q)
def cVar (i : Nat) : TE := fun σ H Q => match σ[i]? with | some (some v) => Q v H | _ => False
theorem qv (i : Nat) {x : Str} {pos : Pos} (hN : X.N[i]? = some x := by rfl) (hv : Vis X.env.scope x := by first | exact Or.inl rfl | exact Or.inr (Or.inl rfl) | exact Or.inr (Or.inr rfl)) (hd : (x == ("__debug__" : Str)) = false := by decide)
    (hcd : (x == ("__classdict__" : Str)) = false := by decide) : PE X (.Name x pos) (cVar i) := (pe_var hN hv hd hcd).imp fun σ H Q q => by
  unfold cVar at q
  split at q
  · exact ⟨_, by assumption, q⟩
  · exact q.elim
theorem qs (l : List Nat) {x : Str} {j pos} (h : x = st l := by decide +kernel) : PE X (.Constant (.str x) j pos) (tC (.str (st l))) := by
  rw [← h]
  exact pe_str
theorem st_eta (a : Str) : st a.cps.toList = a := by simp
def kAdd : R2 := fun x y H Q => match x, y with
  | .int i, .int j => Q (.int (i + j)) H
  | .str a, .str b => a.cps.toList.length + b.cps.toList.length ≤ 100000 ∧ Q (.str (st (a.cps.toList ++ b.cps.toList))) H
  | .ref l, .ref b => ∃ xs zs, H l = some (.lst xs) ∧ H b = some (.lst zs) ∧ xs.length + zs.length ≤ sizeLine ∧ ∀ p, H p = none → Q (.ref p) (upd H p (.lst (xs ++ zs)))
  | _, _ => False
theorem op_addK : OpR X (binaryOp .Add) kAdd := by
  intro pins s σ H x y v u Q I rx ry q
  unfold kAdd at q
  split at q
  · exact op_add pins s σ H _ _ v u Q I rx ry ⟨_, _, rfl, rfl, q⟩
  · obtain ⟨h, q⟩ := q
    refine op_add_str pins s σ H _ _ v u Q I rx ry ⟨_, _, rfl, rfl, ?_, ?_⟩
    · have : (100000 : Nat) ≤ sizeLine := by decide
      simp only [Array.length_toList] at h
      simp only [Str.length]
      omega
    · rename_i a b
      have e : a ++ b = st (a.cps.toList ++ b.cps.toList) := by
        rw [← st_app, st_eta, st_eta]
      rw [e]
      exact q
  · obtain ⟨xs, zs, h1, h2, h3, q⟩ := q
    exact op_cat pins s σ H _ _ v u Q I rx ry ⟨_, _, _, _, rfl, rfl, h1, h2, h3, q⟩
  · exact q.elim
def kI (C : Int → Int → Prop) (g : Int → Int → V) : R2 := fun x y H Q => match x, y with
  | .int i, .int j => C i j ∧ Q (g i j) H
  | _, _ => False
def kI0 (g : Int → Int → V) : R2 := fun x y H Q => match x, y with
  | .int i, .int j => Q (g i j) H
  | _, _ => False
theorem kI_imp {C : Int → Int → Prop} {g : Int → Int → V} : ∀ x y H Q, kI C g x y H Q → rI C g x y H Q := fun x y H Q q => by
  unfold kI at q
  split at q
  · exact ⟨_, _, rfl, rfl, q.1, q.2⟩
  · exact q.elim
theorem kI0_imp {g : Int → Int → V} : ∀ x y H Q, kI0 g x y H Q → rI0 g x y H Q := fun x y H Q q => by
  unfold kI0 at q
  split at q
  · exact ⟨_, _, rfl, rfl, q⟩
  · exact q.elim
abbrev kMod : R2 := kI (fun _ j => 0 < j) fun i j => .int (i % j)
abbrev kFdiv : R2 := kI CDiv fun i j => .int (i / j)
theorem op_modK : OpR X (binaryOp .Mod) kMod := op_mod.imp kI_imp
theorem op_fdivK : OpR X (binaryOp .FloorDiv) kFdiv := op_fdiv.imp kI_imp
def kMul : R2 := fun x y H Q => match x, y with
  | .int i, .int j => CMul i j ∧ Q (.int (i * j)) H
  | .str a, .int n => ∃ c, a.cps.toList = [c] ∧ 0 ≤ n ∧ n ≤ 10000 ∧ Q (.str (st (List.replicate n.toNat c))) H
  | .ref l, .int k => ∃ xs, H l = some (.lst xs) ∧ 0 ≤ k ∧ k ≤ 10000 ∧ xs.length = 1 ∧ ∀ p, H p = none → Q (.ref p) (upd H p (.lst (List.replicate k.toNat xs).flatten))
  | _, _ => False
theorem mulOk_one (k n : Nat) (hn : n ≤ 10000) : MulOk ⟨#[k]⟩ (n : Int) := by
  have hl : (⟨#[k]⟩ : Str).length = 1 := rfl
  refine ⟨?_, fun _ _ => ?_, fun _ _ => ?_⟩
  · rw [decide_eq_false (by omega), decide_eq_false (by omega)]
    rfl
  · rw [hl]
    intro z
    have : (2 ^ 63 - 1) / (n : Int) < 1 := by omega
    have h2 : (n : Int) ≤ 10000 := by omega
    have h1 : ¬ (n : Int) < 1 := by assumption
    have h3 : 1 ≤ (2 ^ 63 - 1) / (n : Int) := by
      rw [Int.le_ediv_iff_mul_le (by omega)]
      omega
    omega
  · rw [hl]
    unfold PySem.Builtin.Str.tooLong sizeLine
    exact decide_eq_false (by rw [Int.toNat_natCast]; have : (2 : Nat) ^ 24 = 16777216 := by decide
                              omega)
theorem op_mulK : OpR X (binaryOp .Mult) kMul := by
  intro pins s σ H x y v u Q I rx ry q
  unfold kMul at q
  split at q
  · exact op_mul pins s σ H _ _ v u Q I rx ry ⟨_, _, rfl, rfl, q.1, q.2⟩
  · obtain ⟨c, e, h0, h1, q⟩ := q
    rename_i a n
    obtain ⟨k, rfl⟩ : ∃ k : Nat, n = k := ⟨n.toNat, by omega⟩
    have ea : a = ⟨#[c]⟩ := by rw [← st_eta a, e]
    subst ea
    refine op_mul_str pins s σ H _ _ v u Q I rx ry ⟨_, _, rfl, rfl, mulOk_one c k (by omega), ?_⟩
    rw [mul1]
    exact q
  · obtain ⟨xs, h1, h2, h3, h4, q⟩ := q
    refine op_rep pins s σ H _ _ v u Q I rx ry ⟨_, _, _, rfl, rfl, h1, by omega, by omega, ?_, q⟩
    have : (10000 : Nat) ≤ sizeLine := by decide
    rw [h4]
    omega
  · exact q.elim
def kEq (neg : Bool) : R2 := fun x y H Q => match x, y with
  | .int i, .int j => Q (.bl (neg ^^ decide (i = j))) H
  | .str a, .str b => Q (.bl (neg ^^ decide (a.cps.toList = b.cps.toList))) H
  | .bl a, .bl b => Q (.bl (neg ^^ decide (a = b))) H
  | .non, .non => Q (.bl (neg ^^ true)) H
  | .non, .int _ => Q (.bl (neg ^^ false)) H
  | .int _, .non => Q (.bl (neg ^^ false)) H
  | .non, .str _ => Q (.bl (neg ^^ false)) H
  | .str _, .non => Q (.bl (neg ^^ false)) H
  | _, _ => False
theorem V_str_eq (a b : Str) : decide (V.str a = V.str b) = decide (a.cps.toList = b.cps.toList) := by
  by_cases h : a.cps.toList = b.cps.toList
  · have : a = b := by rw [← st_eta a, h, st_eta]
    subst this
    simp
  · rw [decide_eq_false h, decide_eq_false (fun z => h (by cases z; rfl))]
theorem kEq_eq : ∀ x y H Q, kEq false x y H Q → rEq x y H Q := fun x y H Q q => by
  unfold kEq at q
  split at q <;> first
    | exact q.elim
    | (refine ⟨rfl, ?_⟩
       first
       | (rw [V_str_eq]; simpa using q)
       | simpa using q)
theorem kEq_ne : ∀ x y H Q, kEq true x y H Q → rNe x y H Q := fun x y H Q q => by
  unfold kEq at q
  split at q <;> first
    | exact q.elim
    | (refine ⟨rfl, ?_⟩
       first
       | (rw [V_str_eq]; simpa using q)
       | simpa using q)
theorem op_eqK : OpR X (compareOp .Eq) (kEq false) := op_eq.imp kEq_eq
theorem op_neK : OpR X (compareOp .NotEq) (kEq true) := op_ne.imp kEq_ne
abbrev kLt : R2 := kI0 fun i j => .bl (decide (i < j))
abbrev kLe : R2 := kI0 fun i j => .bl (decide (i ≤ j))
abbrev kGt : R2 := kI0 fun i j => .bl (decide (j < i))
theorem op_ltK : OpR X (compareOp .Lt) kLt := op_lt.imp kI0_imp
theorem op_leK : OpR X (compareOp .LtE) kLe := op_le.imp kI0_imp
theorem op_gtK : OpR X (compareOp .Gt) kGt := op_gt.imp kI0_imp
def kIs (neg : Bool) : R2 := fun x y H Q => match y with
  | .non => Q (.bl (neg ^^ decide (x = .non))) H
  | _ => False
def kIn (K : PySem.W.Frag) (neg : Bool) : R2 := fun x y H Q => match x, y with
  | .str a, .str b => ∃ c, a.cps.toList = [c] ∧ Q (.bl (neg ^^ decide (c ∈ b.cps.toList))) H
  | x, .ref p => ∃ xs, (SqL K H p xs ∨ SqT K H p xs) ∧ flatV x = true ∧ xs.all flatV = true ∧ Q (.bl (neg ^^ inV x xs)) H
  | _, _ => False
theorem op_notinK : OpR X (compareOp .NotIn) (kIn X.K true) := by
  intro pins s σ H x y v u Q I rx ry q
  unfold kIn at q
  split at q
  · obtain ⟨c, e, q⟩ := q
    rename_i a b
    have ea : a = ⟨#[c]⟩ := by rw [← st_eta a, e]
    subst ea
    refine op_notin_str pins s σ H _ _ v u Q I rx ry ⟨_, _, rfl, rfl, ?_⟩
    rw [StrLaws.found_one]
    simpa using q
  · obtain ⟨xs, h1, h2, h3, q⟩ := q
    exact op_notIn_seq pins s σ H _ _ v u Q I rx ry ⟨_, _, rfl, h1, h2, h3, by simpa using q⟩
  · exact q.elim
def kIx (K : PySem.W.Frag) : R2 := fun x y H Q => match x, y with
  | .str z, .int i => z.cps.toList.length ≤ 100000 ∧ ∃ c, atI z.cps.toList i = some c ∧ Q (.str (st [c])) H
  | .ref p, .int i => ∃ xs v, (SqL K H p xs ∨ SqT K H p xs) ∧ atI xs i = some v ∧ Q v H
  | _, _ => False
theorem big5 : (100000 : Nat) ≤ sizeLine := by decide
theorem strlen (z : Str) : z.length = z.cps.toList.length := by simp [Str.length]
theorem ix_K : IxR X (kIx X.K) := ix_seq.imp fun x y H Q q => by
  unfold kIx at q
  split at q
  · obtain ⟨h, c, e, q⟩ := q
    exact .inr (.inr ⟨_, _, c, rfl, rfl, by rw [strlen]; exact Nat.le_trans h big5, e, q⟩)
  · obtain ⟨xs, v, h | h, e, q⟩ := q
    · exact .inl ⟨_, _, _, _, rfl, rfl, h, e, q⟩
    · exact .inr (.inl ⟨_, _, _, _, rfl, rfl, h, e, q⟩)
  · exact q.elim
def kLen (K : PySem.W.Frag) : List V → Hp → VK → Prop := fun xs H Q => match xs with
  | [.str z] => z.cps.toList.length ≤ 100000 ∧ Q (.int z.cps.toList.length) H
  | [.ref p] => ∃ ys, (SqL K H p ys ∨ SqT K H p ys) ∧ Q (.int ys.length) H
  | _ => False
theorem call_lenK : CallR X (.builtin "len") (kLen X.K) := by
  intro pins s σ H xs us Q I r q
  unfold kLen at q
  split at q
  · obtain ⟨h, q⟩ := q
    refine call_len_str pins s σ H _ us Q I r ⟨_, rfl, by rw [strlen]; exact Nat.le_trans h big5, ?_⟩
    rw [strlen]
    exact q
  · obtain ⟨ys, h, q⟩ := q
    exact call_len_seq pins s σ H _ us Q I r ⟨_, _, rfl, h, q⟩
  · exact q.elim
def up (t : TE) : TE := fun σ H Q => ∃ Q0 : VK, t σ H Q0 ∧ ∀ v H', Q0 v H' → Q v H'
def up2 (r : R2) : R2 := fun x y H Q => ∃ Q0 : VK, r x y H Q0 ∧ ∀ v H', Q0 v H' → Q v H'
theorem EP.imp {pins : List (Addr × Obj)} {σ : St} {Q Q' : VK} {u : Value} {s : Shared} (h : EP X pins σ Q u s) (k : ∀ v H', Q v H' → Q' v H') : EP X pins σ Q' u s := by
  obtain ⟨v, H', I, r, q⟩ := h
  exact ⟨v, H', I, r, k v H' q⟩
theorem PE.mono {e : Expr} {t : TE} (h : PE X e t) : PE X e (up t) := fun pins s σ H Q I ⟨Q0, q, k⟩ => thn (h pins s σ H Q0 I q) fun u s' z => z.imp k
theorem OpR.mono {f : Value → Value → Sem Value} {r : R2} (h : OpR X f r) : OpR X f (up2 r) := fun pins s σ H x y v u Q I rx ry ⟨Q0, q, k⟩ => thn (h pins s σ H x y v u Q0 I rx ry q) fun u s' z => z.imp k
def blK (Q : Bool → Hp → Prop) : VK := fun x H' => match x with | .bl k => Q k H' | _ => False
theorem blK_ex {Q : Bool → Hp → Prop} {x : V} {H' : Hp} (h : blK Q x H') : ∃ k, x = .bl k ∧ Q k H' := by
  unfold blK at h
  split at h
  · exact ⟨_, rfl, h⟩
  · exact h.elim
def cTest (t : TE) : TT := fun σ H Q => t σ H (blK Q)
theorem qt_val {e : Expr} {t : TE} (h : PE X e t) (he : ∀ whole, isTrue e X.env whole = (do let v ← whole; standAt e.pos; holding [v] (truthy v)) := by intro _; rfl) : PT X e (cTest t) :=
  (pt_val h.mono he).imp fun σ H Q q => ⟨_, q, fun v H' z => blK_ex z⟩
variable {a b c : Expr} {ta tb tc : TE} {pos : Pos} {rest : List Expr}
theorem qt_cmp {op : CmpOp} {r : R2} (ho : OpR X (compareOp op) r) (ha : PE X a ta) (hb : PE X b tb) (hm : behindInMarks op b = false := by first | exact nomark _ | rfl) : PT X (.Compare a [op] [b] pos) (cTest (tOp r ta tb)) :=
  (pt_cmpR ho.mono ha.mono hb.mono hm).imp fun σ H Q q => ⟨_, q, fun x H1 z => ⟨_, z, fun y H2 z2 => ⟨_, z2, fun v H' z3 => blK_ex z3⟩⟩⟩
theorem qe_cmp {op : CmpOp} {r : R2} (ho : OpR X (compareOp op) r) (ha : PE X a ta) (hb : PE X b tb) (hm : behindInMarks op b = false := by first | exact nomark _ | rfl) : PE X (.Compare a [op] [b] pos) (tOp r ta tb) := pe_cmpR ho ha hb hm
def cAndV (ta tb : TE) : TE := fun σ H Q => ta σ H (blK fun c H1 => if c = true then tb σ H1 Q else Q (.bl false) H1)
def cOrV (ta tb : TE) : TE := fun σ H Q => ta σ H (blK fun c H1 => if c = true then Q (.bl true) H1 else tb σ H1 Q)
def cNotV (ta : TE) : TE := fun σ H Q => ta σ H (blK fun c H1 => Q (.bl (!c)) H1)
theorem qe_and (ha : PE X a ta) (hb : PE X (.BoolOp .And (b :: rest) pos) tb) : PE X (.BoolOp .And (a :: b :: rest) pos) (cAndV ta tb) := (pe_and ha.mono hb).imp fun σ H Q q => ⟨_, q, fun v H' z => blK_ex z⟩
variable {o e : Expr} {to te : TE} {apos cpos : Pos}
def cApp (to te : TE) : TE := fun σ H Q => to σ H fun x H1 => match x with
  | .ref l => (∃ xs, H1 l = some (.lst xs)) ∧ te σ H1 fun y H2 => ∃ xs, H2 l = some (.lst xs) ∧ xs.length < sizeLine ∧ Q .non (upd H2 l (.lst (xs ++ [y])))
  | _ => False
theorem qe_append (ho : PE X o to) (he : PE X e te) (hbase : attributeBase o "append" X.env (eval o X.env) = eval o X.env := by rfl)
    (hfew : ((backTo cpos (starEach [e] X.env)).all (fun x => !x.1) && (backToKw cpos (keywordEach [] X.env)).all (fun x => x.1.isSome)
      && decide ([e].length + ([] : List Keyword).length + (if ([] : List Keyword).isEmpty then 0 else 1) < 30)) = true := by rfl)
    (hline : (apos.endLine == cpos.line) = true := by rfl) (hs : starEach [e] X.env = (false, eval e X.env) :: starEach [] X.env := by rfl) (hplain : (backTo cpos (starEach [] X.env)).any (·.1) = false := by rfl) :
    PE X (.Call (.Attribute o "append" apos) [e] [] cpos) (cApp to te) :=
  (pe_bm PySem.F.plainAttrs_list PySem.F.slot_list_append PySem.F.type_list_append mt_append ho.mono (pa_cons he.mono pa_nil hs) hbase hfew hline hs hplain).imp fun σ H Q q => ⟨_, q, fun x H1 z => by
    split at z
    · rename_i l
      obtain ⟨⟨xs, h⟩, z⟩ := z
      refine ⟨.inl ⟨rfl, _, SqL.of h⟩, _, z, fun y H2 z2 => ?_⟩
      obtain ⟨xs2, h2, h3, z3⟩ := z2
      exact ⟨l, xs2, y, rfl, rfl, h2, h3, z3⟩
    · exact z.elim⟩
def cJoin1 (K : PySem.W.Frag) (te : TE) : TE := fun σ H Q => te σ H fun x H1 => match x with
  | .ref l => ∃ cs : List Nat, SqL K H1 l (cs.map fun k => V.str (st [k])) ∧ cs.length ≤ 10000 ∧ Q (.str (st cs)) H1
  | _ => False
theorem qe_join1 {j : Nat} {p1 : Pos} (he : PE X e te) (hfew : ((backTo cpos (starEach [e] X.env)).all (fun x => !x.1) && (backToKw cpos (keywordEach [] X.env)).all (fun x => x.1.isSome)
      && decide ([e].length + ([] : List Keyword).length + (if ([] : List Keyword).isEmpty then 0 else 1) < 30)) = true := by rfl)
    (hline : (apos.endLine == cpos.line) = true := by rfl) (hs : starEach [e] X.env = (false, eval e X.env) :: starEach [] X.env := by rfl) (hplain : (backTo cpos (starEach [] X.env)).any (·.1) = false := by rfl)
    (hbase : attributeBase (.Constant (.str (Str.ofString "")) j p1) "join" X.env (eval (.Constant (.str (Str.ofString "")) j p1) X.env) = eval (.Constant (.str (Str.ofString "")) j p1) X.env := by rfl) :
    PE X (.Call (.Attribute (.Constant (.str (Str.ofString "")) j p1) "join" apos) [e] [] cpos) (cJoin1 X.K te) :=
  (pe_bm PySem.F.plainAttrs_str PySem.F.slot_str_join PySem.F.type_str_join mt_join1 pe_str (pa_cons he.mono pa_nil hs) hbase hfew hline hs hplain).imp fun σ H Q q => ⟨rfl, _, q, fun x H1 z => by
    split at z
    · obtain ⟨cs, h, h2, z⟩ := z
      exact ⟨_, cs, rfl, rfl, h, h2, z⟩
    · exact z.elim⟩
end
end L2


namespace L2
open PySem PySem.Spec PyProof.Rows
section
variable {X : Cx} {tg a b e : Expr} {te ta tb : TE} {pos p : Pos}
def cIter (K : PySem.W.Frag) (te : TE) : TI := fun σ H R => te σ H fun x H1 => match x with
  | .str z => R (Its z) H1
  | .ref a => ((∃ xs, SqL K H1 a xs) ∧ R (Itl K a) H1) ∨ ((∃ xs, SqT K H1 a xs) ∧ R (Itt K a) H1)
  | _ => False
theorem qi_iter (he : PE X e te) : PI X tg e (cIter X.K te) := by
  intro pins s σ H R I h
  refine thn (he pins s σ H _ I h) fun v s1 ⟨y, H1, I1, r1, q1⟩ => ?_
  dsimp only at q1
  split at q1
  · rename_i x
    obtain ⟨t, rfl⟩ := r1
    refine wpAny_pyIter_strU ?_
    refine ⟨s1.heap.objs.size, [s1.heap.objs.size], _, Its x, H1, rfl, I1.kept (t' := s1.toks) fun b o e => Heap.get?_push_of_some _ e, turn_str x t _, ⟨_, Heap.get?_push_size _ rfl, rfl, rfl⟩, fun b hb => ?_, q1⟩
    have e : b = s1.heap.objs.size := by simpa using hb
    subst e
    exact I1.fpOk (Nat.le_refl _) (I1.hok.fresh (Nat.le_refl _))
  · rename_i l
    cases r1
    rcases q1 with ⟨⟨xs, hq⟩, q⟩ | ⟨⟨xs, hq⟩, q⟩
    · obtain ⟨its, rv, p, hz⟩ := I1.list hq
      refine wpAny_pyIter_list p.isList ?_
      refine ⟨s1.heap.objs.size, [s1.heap.objs.size], _, _, H1, rfl, I1.kept (t' := s1.toks) fun b o e => Heap.get?_push_of_some _ e, turn_list l _, ⟨_, Heap.get?_push_size _ rfl, rfl, rfl⟩, fun b hb => ?_, q⟩
      have e : b = s1.heap.objs.size := by simpa using hb
      subst e
      exact I1.fpOk (Nat.le_refl _) (I1.hok.fresh (Nat.le_refl _))
    · obtain ⟨its, rv, p, hz⟩ := I1.tuple hq
      refine wpAny_pyIter_tuple (show s1.heap.IsTuple l its.toArray from p) ?_
      refine ⟨s1.heap.objs.size, [s1.heap.objs.size], _, _, H1, rfl, I1.kept (t' := s1.toks) fun b o e => Heap.get?_push_of_some _ e, turn_tuple l _, ⟨_, Heap.get?_push_size _ rfl, rfl, rfl⟩, fun b hb => ?_, q⟩
      have e : b = s1.heap.objs.size := by simpa using hb
      subst e
      exact I1.fpOk (Nat.le_refl _) (I1.hok.fresh (Nat.le_refl _))
  · exact q1.elim
def cRng1 (te : TE) : TI := fun σ H R => te σ H fun x H1 => match x with
  | .int j => -1000000 ≤ j ∧ j ≤ 1000000 ∧ R (Itr 0 j.toNat) H1
  | _ => False
theorem qi_range1 (hg : Gl X "range") (hm : X.mg "range" = none) (ha : PE X a ta) (hs : starEach [a] X.env = [(false, eval a X.env)] := by rfl) : PI X tg (.Call (.Name "range" p) [a] [] pos) (cRng1 ta) :=
  (pi_range1 hg hm (pa_cons ha.mono pa_nil hs) hs).imp fun σ H R q => ⟨_, q, fun x H1 z => by
    split at z
    · exact ⟨_, rfl, by omega, by omega, z.2.2⟩
    · exact z.elim⟩
def cRng2 (ta tb : TE) : TI := fun σ H R => ta σ H fun x H1 => tb σ H1 fun y H2 => match x, y with
  | .int i, .int j => (-1000000 ≤ i ∧ i ≤ 1000000 ∧ -1000000 ≤ j ∧ j ≤ 1000000) ∧ R (Itr i (j - i).toNat) H2
  | _, _ => False
def srcK (K : PySem.W.Frag) (H : Hp) (v : V) (R : Src → Prop) : Prop := match v with
  | .str x => R (.str x)
  | .ref a => (∃ xs, SqL K H a xs) ∧ R (.lst a)
  | _ => False
def cZip (K : PySem.W.Frag) (ta tb : TE) : TI := fun σ H R => ta σ H fun x H1 => tb σ H1 fun y H2 => srcK K H2 x fun S1 => srcK K H2 y fun S2 => R (Itz K S1 S2) H2
end
def loopW (J : It) (g : TG) (tb : TS) (D : Ends) (σ : St) (H : Hp) : Prop := ∃ W : Nat → Nat → St → Hp → Prop, (∃ m, W 0 m σ H) ∧ ∀ i m σ H, W i m σ H →
  (J.stop i H ∧ D.nx σ H) ∨ (J.go i H ∧ ∃ N : St → Hp → Prop, (∀ σ' H', N σ' H' → ∃ m', m' < m ∧ W (i + 1) m' σ' H') ∧ ∀ x H', J.yld i H x H' → g x σ H' fun σ2 H2 => tb { D with nx := N, ct := N, bk := D.nx } σ2 H2)
def cFor (wi : TI) (g : TG) (tb : TS) : TS := fun D σ H => wi σ H fun J H1 => loopW J g tb D σ H1
theorem qs_for {X : Cx} {tg iter : Expr} {body : List Stmt} {wi : TI} {g : TG} {tb : TS} {pos : Pos} (hp : PassesOwn (model X.prog X.w) X.A X.env X.xe) (hc : X.calm = true) (hi : PI X tg iter wi) (hg : PG X tg g) (hb : PSs X body tb)
    (hs : ∀ x, foldedSetIterable iter X.env x = pure x := by intro _; rfl) : PS X (.For tg iter body [] pos) (cFor wi g tb) := ps_for hp hc hi hg hb hs
section
variable {K : PySem.W.Frag} {g : TG} {tb : TS} {D : Ends} {σ : St} {H : Hp}
abbrev Ends.turn (D : Ends) (N : St → Hp → Prop) : Ends := { D with nx := N, ct := N, bk := D.nx }
theorem loop_str {l : List Nat} (Pv : Nat → St → Hp → Prop) (h0 : Pv 0 σ H) (hs : ∀ i c σ H, l[i]? = some c → Pv i σ H → g (.str (st [c])) σ H fun σ2 H2 => tb (D.turn (Pv (i + 1))) σ2 H2) (hd : ∀ σ H, Pv l.length σ H → D.nx σ H) :
    loopW (Its (st l)) g tb D σ H :=
  for_it (n := l.length) Pv h0 (fun i σ H hi _ => by show i < (st l).cps.size; simpa using hi) (fun σ H _ => by show (st l).cps.size ≤ l.length; simp)
    (fun i σ H x H' hi p y => by
      obtain ⟨rfl, c, hc, rfl⟩ := y
      exact hs i c σ _ (by simpa using hc) p) hd
theorem loop_list {p : Addr} {xs : List V} (Pv : Nat → St → Hp → Prop) (h0 : Pv 0 σ H) (hl : ∀ i σ H, i ≤ xs.length → Pv i σ H → SqL K H p xs)
    (hs : ∀ i x σ H, xs[i]? = some x → Pv i σ H → g x σ H fun σ2 H2 => tb (D.turn (Pv (i + 1))) σ2 H2) (hd : ∀ σ H, Pv xs.length σ H → D.nx σ H) : loopW (Itl K p) g tb D σ H := for_list Pv h0 hl hs hd
theorem loop_items {α : Type} (item : α → V) (xs : List α) {p : Addr} (Pv : Nat → St → Hp → Prop) (h0 : Pv 0 σ H) (hl : ∀ i σ H, i ≤ xs.length → Pv i σ H → SqL K H p (xs.map item))
    (hs : ∀ i x σ H, xs[i]? = some x → Pv i σ H → g (item x) σ H fun σ2 H2 => tb (D.turn (Pv (i + 1))) σ2 H2) (hd : ∀ σ H, Pv xs.length σ H → D.nx σ H) : loopW (Itl K p) g tb D σ H :=
  loop_list (xs := xs.map item) Pv h0 (fun i σ H hi => hl i σ H (by simpa using hi)) (fun i x σ H hx p => by
    rw [List.getElem?_map] at hx
    obtain ⟨y, hy, rfl⟩ := Option.map_eq_some_iff.mp hx
    exact hs i y σ H hy p) (fun σ H p => hd σ H (by simpa using p))
theorem loop_range {lo : Int} {n : Nat} (Pv : Nat → St → Hp → Prop) (h0 : Pv 0 σ H) (hs : ∀ i σ H, i < n → Pv i σ H → g (.int (lo + i)) σ H fun σ2 H2 => tb (D.turn (Pv (i + 1))) σ2 H2) (hd : ∀ σ H, Pv n σ H → D.nx σ H) :
    loopW (Itr lo n) g tb D σ H := for_range Pv h0 hs hd
def SrcVals (K : PySem.W.Frag) (H : Hp) : Src → List V → Prop
  | .str x, xs => xs = x.cps.toList.map fun c => V.str (st [c])
  | .lst a, xs => SqL K H a xs
theorem SrcVals.go {S : Src} {xs : List V} {i : Nat} (h : SrcVals K H S xs) (hi : i < xs.length) : SrcGo K H S i := by
  cases S with
  | str x =>
    have e : xs = x.cps.toList.map fun c => V.str (st [c]) := h
    subst e
    show i < x.cps.size
    simpa using hi
  | lst a => exact ⟨xs, xs[i], h, by simp [hi]⟩
theorem SrcVals.stop {S : Src} {xs : List V} {i : Nat} (h : SrcVals K H S xs) (hi : xs.length ≤ i) : SrcEnd K H S i := by
  cases S with
  | str x =>
    have e : xs = x.cps.toList.map fun c => V.str (st [c]) := h
    subst e
    show x.cps.size ≤ i
    simpa using hi
  | lst a => exact ⟨xs, h, hi⟩
theorem SrcVals.at {S : Src} {xs : List V} {i : Nat} {v : V} (h : SrcVals K H S xs) (q : SrcAt K H S i v) : xs[i]? = some v := by
  cases S with
  | str x =>
    have e : xs = x.cps.toList.map fun c => V.str (st [c]) := h
    subst e
    obtain ⟨c, hc, rfl⟩ := q
    simp [hc]
  | lst a => exact q xs h
theorem SqT.upd_same {p : Addr} {xs : List V} : SqT K (upd H p (.tup xs)) p xs := SqT.of L2.upd_same
end
def compW (J : It) (g : TG) (tc : TT) (te : TE) (σc : St) (D : Addr) (Q : VK) (H : Hp) : Prop :=
  ∃ W : Nat → Nat → List V → Hp → Prop, (∃ m, W 0 m [] (upd H D (.lst []))) ∧ ∀ i m acc H2, W i m acc H2 →
    (J.stop i H2 ∧ Q (.ref D) H2) ∨ (J.go i H2 ∧ ∀ x H3, J.yld i H2 x H3 → g x σc H3 fun σ4 H4 => tc σ4 H4 fun b H5 => if b = true then
      te σ4 H5 fun v H6 => H6 D = some (.lst acc) ∧ acc.length < sizeLine ∧ ∃ m', m' < m ∧ W (i + 1) m' (acc ++ [v]) (upd H6 D (.lst (acc ++ [v]))) else ∃ m', m' < m ∧ W (i + 1) m' acc H5)
def cComp (nt : Nat) (fi : List Nat) (wi : TI) (g : TG) (tc : TT) (te : TE) : TE := fun σ H Q => wi σ H fun J H1 => ∀ D, H1 D = none → compW J g tc te (compσ nt fi σ) D Q H1
theorem qe_comp {X : Cx} {elt tg iter : Expr} {ifs : List Expr} {scope : Scope} {pos : Pos} {wi : TI} {g : TG} {tc : TT} {te : TE} {nt : Nat} {fi : List Nat} {N' : List Str} (hcalm : X.calm = true)
    (S : CScope scope) (cn : CNames X scope nt fi N') (gk : GK nt g) (hi : PI X tg iter wi)
    (hg : ∀ cl C s H ex, PG (cxC X scope cl N' C s H ex) tg g) (hc : ∀ cl C s H ex, PIf (cxC X scope cl N' C s H ex) ifs tc) (he : ∀ cl C s H ex, PE (cxC X scope cl N' C s H ex) elt te)
    (hs : ∀ x, foldedSetIterable iter X.env x = pure x := by intro _; rfl) : PE X (.ListComp elt [⟨tg, iter, ifs, 0⟩] scope pos) (cComp nt fi wi g tc te) := pe_comp hcalm S cn gk hi hg hc he hs
section
variable {K : PySem.W.Frag} {J : It} {g : TG} {tc : TT} {te : TE} {σc : St} {D : Addr} {Q : VK} {H : Hp}
theorem range_flat_succ {α : Type} (f : Nat → List α) (n : Nat) : (List.range (n + 1)).flatMap f = (List.range n).flatMap f ++ f n := by
  rw [List.range_succ, List.flatMap_append]
  simp
theorem range_flat_len {α : Type} (f : Nat → List α) (hf : ∀ i, (f i).length ≤ 1) (n : Nat) : ((List.range n).flatMap f).length ≤ n := by
  induction n with
  | zero => simp
  | succ n ih =>
    rw [range_flat_succ, List.length_append]
    have := hf n
    omega
theorem comp_it {n : Nat} (f : Nat → List V) (hfree : H D = none) (hn : n ≤ 100000) (hf : ∀ i, (f i).length ≤ 1) (hy : ∀ i H x H', J.yld i H x H' → Same H H')
    (hgo : ∀ i H', i < n → Same H H' → J.go i H') (hst : ∀ H', Same H H' → J.stop n H')
    (hs : ∀ i H1 x H2 (out : VK) (non : Hp → Prop), i < n → Same H H1 → J.yld i H1 x H2 → (∀ v H6, f i = [v] → Same H2 H6 → out v H6) → (∀ H5, f i = [] → Same H2 H5 → non H5) →
      g x σc H2 fun σ4 H4 => tc σ4 H4 fun b H5 => if b = true then te σ4 H5 out else non H5)
    (hq : ∀ H', Same H H' → H' D = some (.lst ((List.range n).flatMap f)) → Q (.ref D) H') : compW J g tc te σc D Q H := by
  refine ⟨fun i m acc H2 => m = n - i ∧ i ≤ n ∧ acc = (List.range i).flatMap f ∧ Same H H2 ∧ H2 D = some (.lst acc), ⟨n, by simp, Nat.zero_le _, by simp, same_new hfree _, upd_same⟩, ?_⟩
  rintro i m acc H2 ⟨rfl, hi, rfl, sm, hD⟩
  by_cases hlt : i < n
  · refine .inr ⟨hgo i H2 hlt sm, fun x H3 y => ?_⟩
    have s23 := hy i H2 x H3 y
    refine hs i H2 x H3 _ _ hlt sm y (fun v H6 e s6 => ?_) fun H5 e s5 => ?_
    · refine ⟨s6 _ _ (s23 _ _ hD), Nat.lt_of_le_of_lt (range_flat_len f hf i) (sizeBig (by omega)), n - (i + 1), by omega, rfl, hlt, ?_, ?_, upd_same⟩
      · rw [range_flat_succ, e]
      · exact same_upd (sm.trans (s23.trans s6)) hfree
    · refine ⟨n - (i + 1), by omega, rfl, hlt, ?_, sm.trans (s23.trans s5), s5 _ _ (s23 _ _ hD)⟩
      rw [range_flat_succ, e, List.append_nil]
  · have e : i = n := by omega
    subst e
    exact .inl ⟨hst H2 sm, hq H2 sm hD⟩
def atH {α β : Type} (xs : List α) (h : α → List β) (i : Nat) : List β := ((xs[i]?).map h).getD []
theorem atH_some {α β : Type} {xs : List α} {h : α → List β} {i : Nat} {x : α} (e : xs[i]? = some x) : atH xs h i = h x := by simp [atH, e]
theorem atH_len {α β : Type} {xs : List α} {h : α → List β} (hf : ∀ x, (h x).length ≤ 1) (i : Nat) : (atH xs h i).length ≤ 1 := by
  unfold atH
  cases xs[i]? with
  | none => simp
  | some x => simpa using hf x
theorem flat_at {α β : Type} (xs : List α) (h : α → List β) : (List.range xs.length).flatMap (atH xs h) = xs.flatMap h := by
  induction xs with
  | nil => rfl
  | cons a xs ih =>
    rw [List.length_cons, List.range_succ_eq_map, List.flatMap_cons, List.flatMap_map, List.flatMap_cons, ← ih]
    rfl
section
variable {α : Type} (item : α → V) (xs : List α) (h : α → List V)
theorem comp_list {p : Addr} (hfree : H D = none) (hl : SqL K H p (xs.map item)) (hn : xs.length ≤ 100000) (hf : ∀ x, (h x).length ≤ 1)
    (hs : ∀ x H1 (out : VK) (non : Hp → Prop), x ∈ xs → Same H H1 → (∀ v H6, h x = [v] → Same H1 H6 → out v H6) → (∀ H5, h x = [] → Same H1 H5 → non H5) →
      g (item x) σc H1 fun σ4 H4 => tc σ4 H4 fun b H5 => if b = true then te σ4 H5 out else non H5)
    (hq : ∀ H', Same H H' → H' D = some (.lst (xs.flatMap h)) → Q (.ref D) H') : compW (Itl K p) g tc te σc D Q H := by
  refine comp_it (n := xs.length) (atH xs h) hfree hn (atH_len hf) (fun i H x H' y => ?_) (fun i H' hi s => ?_) (fun H' s => ?_) (fun i H1 x H2 out non hi s y ho hnn => ?_) fun H' s q => ?_
  · rw [y.1]
    exact Same.refl _
  · exact ⟨_, item xs[i], s.seq hl, by simp [hi]⟩
  · exact ⟨_, s.seq hl, by simp⟩
  · obtain ⟨rfl, y⟩ := y
    have e := y _ (s.seq hl)
    rw [List.getElem?_map, List.getElem?_eq_getElem hi] at e
    have e2 : item xs[i] = x := Option.some.inj e
    subst e2
    simp only [atH_some (List.getElem?_eq_getElem hi)] at ho hnn
    exact hs xs[i] _ out non (List.getElem_mem hi) s ho hnn
  · rw [flat_at] at q
    exact hq H' s q
theorem comp_range {lo : Int} {n : Nat} {h : Nat → List V} (hfree : H D = none) (hn : n ≤ 100000) (hf : ∀ x, (h x).length ≤ 1)
    (hs : ∀ i H1 (out : VK) (non : Hp → Prop), i < n → Same H H1 → (∀ v H6, h i = [v] → Same H1 H6 → out v H6) → (∀ H5, h i = [] → Same H1 H5 → non H5) →
      g (.int (lo + i)) σc H1 fun σ4 H4 => tc σ4 H4 fun b H5 => if b = true then te σ4 H5 out else non H5)
    (hq : ∀ H', Same H H' → H' D = some (.lst ((List.range n).flatMap h)) → Q (.ref D) H') : compW (Itr lo n) g tc te σc D Q H := by
  refine comp_it (n := n) h hfree hn hf (fun i H x H' y => ?_) (fun i H' hi s => hi) (fun H' s => Nat.le_refl _) (fun i H1 x H2 out non hi s y ho hnn => ?_) hq
  · rw [y.1]
    exact Same.refl _
  · obtain ⟨rfl, rfl⟩ := y
    exact hs i _ out non hi s ho hnn
end
end
def cnOk (N : List Str) (sc scope : Scope) (nt : Nat) (fi : List Nat) (N' : List Str) : Bool :=
  N'.length == nt + fi.length && ((List.range fi.length).all fun k => match fi[k]? with
    | some j => match N'[nt + k]?, N[j]? with
      | some x, some y => x == y && scope.names.lookup x == some NameKind.free
      | _, _ => false
    | none => false) && scope.names.all fun y => y.2 != NameKind.free || (sc.names.lookup y.1 == some NameKind.cell || sc.names.lookup y.1 == some NameKind.free)
theorem cnames {X : Cx} {N : List Str} {sc scope : Scope} {nt : Nat} {fi : List Nat} {N' : List Str} (hN : X.N = N) (hsc : X.env.scope = sc) (h : cnOk N sc scope nt fi N' = true) : CNames X scope nt fi N' := by
  unfold cnOk at h
  simp only [Bool.and_eq_true, List.all_eq_true, List.mem_range, beq_iff_eq] at h
  obtain ⟨⟨h1, h2⟩, h3⟩ := h
  refine ⟨h1, fun k j e => ?_, fun y hy e => ?_⟩
  · have hk : k < fi.length := (List.getElem?_eq_some_iff.mp e).1
    have q := h2 k hk
    rw [e] at q
    dsimp only at q
    split at q
    · rename_i x y e1 e2
      simp only [Bool.and_eq_true, beq_iff_eq] at q
      obtain ⟨rfl, q⟩ := q
      exact ⟨_, e1, by rw [hN]; exact e2, q⟩
    · cases q
  · have q := h3 y hy
    rw [e] at q
    rw [hsc]
    simpa using q
theorem cscope {scope : Scope} (hk : scope.kind = .function) (h : (scope.names.all fun y => y.2 != NameKind.cell && (y.2 != NameKind.local || scope.names.lookup y.1 == some NameKind.local)) = true) : CScope scope := by
  simp only [List.all_eq_true, Bool.and_eq_true] at h
  refine ⟨hk, fun y hy e => ?_, fun y hy e => ?_⟩
  · have := (h y hy).1
    rw [e] at this
    exact absurd this (by decide)
  · have := (h y hy).2
    rw [e] at this
    simpa using this
end L2


namespace L2
open PySem PySem.Spec PyProof.Rows
theorem bb_len : bootBuiltins "len" = some (.builtin "len") := by decide +kernel
theorem bb_sorted : bootBuiltins "sorted" = some (.builtin "sorted") := by decide +kernel
theorem bb_isinstance : bootBuiltins "isinstance" = some (.builtin "isinstance") := by decide +kernel
theorem bb_str : bootBuiltins "str" = some (.type "str") := by decide +kernel
theorem bb_int : bootBuiltins "int" = some (.type "int") := by decide +kernel
theorem bb_list : bootBuiltins "list" = some (.type "list") := by decide +kernel
inductive Ty where
  | bool | int | str | list | tuple
def Ty.nm : Ty → String
  | .bool => "bool" | .int => "int" | .str => "str" | .list => "list" | .tuple => "tuple"
def Ty.isBl : Ty → Bool
  | .bool => true | .int => true | _ => false
def Ty.isInt : Ty → Bool
  | .int => true | _ => false
def Ty.isStr : Ty → Bool
  | .str => true | _ => false
def Ty.isLst : Ty → Bool
  | .list => true | _ => false
def Ty.isTup : Ty → Bool
  | .tuple => true | _ => false
section
variable {K : PySem.W.Frag}
theorem kit_non (n : Ty) : PySem.W.kitOne K (.type "NoneType") (.type n.nm) = some false := by cases n <;> with_unfolding_all rfl
theorem kit_bl (n : Ty) : PySem.W.kitOne K (.type "bool") (.type n.nm) = some n.isBl := by cases n <;> with_unfolding_all rfl
theorem kit_int (n : Ty) : PySem.W.kitOne K (.type "int") (.type n.nm) = some n.isInt := by cases n <;> with_unfolding_all rfl
theorem kit_str (n : Ty) : PySem.W.kitOne K (.type "str") (.type n.nm) = some n.isStr := by cases n <;> with_unfolding_all rfl
theorem kit_lst (n : Ty) : PySem.W.kitOne K (.type "list") (.type n.nm) = some n.isLst := by cases n <;> with_unfolding_all rfl
theorem kit_tup (n : Ty) : PySem.W.kitOne K (.type "tuple") (.type n.nm) = some n.isTup := by cases n <;> with_unfolding_all rfl
end
section
variable {X : Cx} {a b e : Expr} {ta tb te : TE} {pos p p2 : Pos}
theorem qe_ty {x : Str} {n : String} (hg : Gl X x) (hm : X.mg x = none) (hv : bootBuiltins x = some (.type n)) (hn : x ≠ "__name__" := by decide) (hd : (x == ("__debug__" : Str)) = false := by decide) : PE X (.Name x pos) (tC (.ty n)) := pe_bltn (v := .ty n) hg hm hv rfl hn hd
def cIsI (n : Ty) (ta : TE) : TE := fun σ H Q => ta σ H fun x H1 => match x with
  | .non => Q (.bl false) H1
  | .bl _ => Q (.bl n.isBl) H1
  | .int _ => Q (.bl n.isInt) H1
  | .str _ => Q (.bl n.isStr) H1
  | .ref p => ((∃ xs, H1 p = some (.lst xs)) ∧ Q (.bl n.isLst) H1) ∨ ((∃ xs, H1 p = some (.tup xs)) ∧ Q (.bl n.isTup) H1)
  | _ => False
theorem qe_isinst {x : Str} (n : Ty) (hg : Gl X "isinstance") (hm : X.mg "isinstance" = none) (ha : PE X a ta) (hg2 : Gl X x) (hm2 : X.mg x = none) (hv2 : bootBuiltins x = some (.type n.nm)) (hn2 : x ≠ "__name__" := by decide) (hd2 : (x == ("__debug__" : Str)) = false := by decide)
    (hs : starEach [a, .Name x p2] X.env = (false, eval a X.env) :: starEach [.Name x p2] X.env := by rfl) (hpl : (backTo pos (starEach [.Name x p2] X.env)).any (·.1) = false := by rfl) : PE X (.Call (.Name "isinstance" p) [a, .Name x p2] [] pos) (cIsI n ta) :=
  (pe_callB call_isinst hg hm bb_isinstance (pa_cons ha.mono (pa_cons (qe_ty hg2 hm2 hv2 hn2 hd2) pa_nil) hs) (he := hs) (hpl := hpl)).imp fun σ H Q q => ⟨_, q, fun v H1 z => by
    show ∃ x n t b, [v, V.ty _] = [x, .ty n] ∧ TyOf X.K H1 x t ∧ PySem.W.kitOne X.K t (.type n) = some b ∧ Q (.bl b) H1
    split at z
    · exact ⟨_, _, _, _, rfl, .non, kit_non n, z⟩
    · exact ⟨_, _, _, _, rfl, .bl _, kit_bl n, z⟩
    · exact ⟨_, _, _, _, rfl, .int _, kit_int n, z⟩
    · exact ⟨_, _, _, _, rfl, .str _, kit_str n, z⟩
    · rcases z with ⟨⟨xs, h⟩, z⟩ | ⟨⟨xs, h⟩, z⟩
      · exact ⟨_, _, _, _, rfl, .lst h, kit_lst n, z⟩
      · exact ⟨_, _, _, _, rfl, .tup h, kit_tup n, z⟩
    · exact z.elim⟩
def kInt : List V → Hp → VK → Prop := fun xs H Q => match xs with
  | [.int i] => Q (.int i) H
  | [.bl k] => Q (.int (if k then 1 else 0)) H
  | [.str z] => ∃ c : Nat, z.cps.toList = [c] ∧ 48 ≤ c ∧ c ≤ 57 ∧ Q (.int ((c - 48 : Nat) : Int)) H
  | _ => False
theorem intText_one (c : Nat) (h0 : 48 ≤ c) (h1 : c ≤ 57) : PySem.intText? ⟨#[c]⟩ = some ((c - 48 : Nat) : Int) := by
  obtain ⟨d, rfl⟩ : ∃ d, c = 48 + d := ⟨c - 48, by omega⟩
  have h : d < 10 := by omega
  have hd : d = 0 ∨ d = 1 ∨ d = 2 ∨ d = 3 ∨ d = 4 ∨ d = 5 ∨ d = 6 ∨ d = 7 ∨ d = 8 ∨ d = 9 := by omega
  rcases hd with rfl | rfl | rfl | rfl | rfl | rfl | rfl | rfl | rfl | rfl <;> decide +kernel
theorem call_intK : CallR X (.type "int") kInt := by
  intro pins s σ H xs us Q I r q
  unfold kInt at q
  split at q
  · exact call_int1 pins s σ H _ us Q I r (.inl ⟨_, rfl, q⟩)
  · exact call_int1 pins s σ H _ us Q I r (.inr ⟨_, rfl, q⟩)
  · obtain ⟨c, e, h0, h1, q⟩ := q
    rename_i z
    have ea : z = ⟨#[c]⟩ := by rw [← st_eta z, e]
    subst ea
    exact call_int_txt pins s σ H _ us Q I r ⟨_, _, rfl, intText_one c h0 h1, (by decide : 1 ≤ 640), q⟩
  · exact q.elim
def kSl (K : PySem.W.Frag) : V → Option Int → Option Int → Hp → VK → Prop := fun x lo hi H Q => match x with
  | .str z => match lo, hi with
    | none, some j => z.cps.toList.length ≤ 100000 ∧ 0 ≤ j ∧ j ≤ z.cps.toList.length ∧ Q (.str (st (z.cps.toList.take j.toNat))) H
    | some i, none => z.cps.toList.length ≤ 100000 ∧ 0 ≤ i ∧ i ≤ z.cps.toList.length ∧ Q (.str (st (z.cps.toList.drop i.toNat))) H
    | _, _ => False
  | .ref a => ∃ xs, SqL K H a xs ∧ ∀ p, H p = none → Q (.ref p) (upd H p (.lst (cutV xs lo hi)))
  | _ => False
theorem sl_K : SlR X (kSl X.K) := by
  refine (SlR.or sl_str sl_list).imp fun x lo hi H Q q => ?_
  unfold kSl at q
  split at q
  · rename_i z
    split at q
    · obtain ⟨h, h0, h1, q⟩ := q
      rename_i j
      obtain ⟨k, rfl⟩ : ∃ k : Nat, j = k := ⟨j.toNat, by omega⟩
      refine .inl ⟨z, rfl, by rw [strlen]; exact Nat.le_trans h big5, ?_⟩
      have e := slice_to z.cps.toList k (by omega)
      rw [st_eta] at e
      rw [e]
      simpa using q
    · obtain ⟨h, h0, h1, q⟩ := q
      rename_i j
      obtain ⟨k, rfl⟩ : ∃ k : Nat, j = k := ⟨j.toNat, by omega⟩
      refine .inl ⟨z, rfl, by rw [strlen]; exact Nat.le_trans h big5, ?_⟩
      have e := slice_from z.cps.toList k (by omega)
      rw [st_eta] at e
      rw [e]
      simpa using q
    · exact q.elim
  · obtain ⟨xs, h, q⟩ := q
    exact .inr ⟨_, _, rfl, h, q⟩
  · exact q.elim
def kEqNil (K : PySem.W.Frag) : R2 := fun x y H Q => match x, y with
  | .ref a, .ref b => ∃ xs, SqL K H a xs ∧ SqL K H b [] ∧ Q (.bl (decide (xs = []))) H
  | _, _ => False
def kIsB (neg : Bool) : R2 := fun x y H Q => match x, y with
  | .bl a, .bl b => Q (.bl (neg ^^ (a == b))) H
  | _, _ => False
def cNeg (ta : TE) : TE := fun σ H Q => ta σ H fun x H1 => match x with
  | .int i => Q (.int (-i)) H1
  | _ => False
theorem qe_neg (ha : PE X a ta) : PE X (.UnaryOp .USub a pos) (cNeg ta) := (pe_un un_neg ha.mono).imp fun σ H Q q => ⟨_, q, fun v H1 z => by
  split at z
  · exact ⟨_, rfl, z⟩
  · exact z.elim⟩
end
section
variable {X : Cx} {a b e : Expr} {ta tb te : TE} {pos p apos cpos : Pos}
theorem ixE (K : PySem.W.Frag) (h : X.K = K) : IxR X (kIx K) := by subst h; exact ix_K
theorem slE (K : PySem.W.Frag) (h : X.K = K) : SlR X (kSl K) := by subst h; exact sl_K
theorem lenE (K : PySem.W.Frag) (h : X.K = K) : CallR X (.builtin "len") (kLen K) := by subst h; exact call_lenK
theorem notinE (K : PySem.W.Frag) (h : X.K = K) : OpR X (compareOp .NotIn) (kIn K true) := by subst h; exact op_notinK
theorem joinE (K : PySem.W.Frag) (h : X.K = K) {j : Nat} {p1 : Pos} (he : PE X e te) (hfew : ((backTo cpos (starEach [e] X.env)).all (fun x => !x.1) && (backToKw cpos (keywordEach [] X.env)).all (fun x => x.1.isSome)
      && decide ([e].length + ([] : List Keyword).length + (if ([] : List Keyword).isEmpty then 0 else 1) < 30)) = true := by rfl)
    (hline : (apos.endLine == cpos.line) = true := by rfl) (hs : starEach [e] X.env = (false, eval e X.env) :: starEach [] X.env := by rfl) (hplain : (backTo cpos (starEach [] X.env)).any (·.1) = false := by rfl)
    (hbase : attributeBase (.Constant (.str (Str.ofString "")) j p1) "join" X.env (eval (.Constant (.str (Str.ofString "")) j p1) X.env) = eval (.Constant (.str (Str.ofString "")) j p1) X.env := by rfl) :
    PE X (.Call (.Attribute (.Constant (.str (Str.ofString "")) j p1) "join" apos) [e] [] cpos) (cJoin1 K te) := by subst h; exact qe_join1 he hfew hline hs hplain hbase
theorem iterE (K : PySem.W.Frag) (h : X.K = K) {tg : Expr} (he : PE X e te) : PI X tg e (cIter K te) := by subst h; exact qi_iter he
theorem tupE (K : PySem.W.Frag) (h : X.K = K) {es : List Expr} {k : Nat} {t : TGs} {n : Nat} (hc : X.calm = true) (hp : PGs X es t) (hn : (assignEach es X.env).length = n := by rfl) (hst : (assignEach es X.env).findIdx? (·.1) = none := by rfl) : PG X (.Tuple es k pos) (gTup K n t) := by subst h; exact pg_tup hc hp hn hst
end
section
variable {t u : TS} {te ta tb : TE} {tc : TT} {D : Ends} {σ : St} {H : Hp} {Q : VK} {R : Bool → Hp → Prop} {i : Nat} {v : V}
theorem a_cVar : cVar i σ H Q = (match σ[i]? with | some (some v) => Q v H | _ => False) := rfl
theorem a_tC : tC v σ H Q = Q v H := rfl
theorem a_tOp {r : R2} : tOp r ta tb σ H Q = ta σ H fun x H1 => tb σ H1 fun y H2 => r x y H2 Q := rfl
theorem a_kAddI {a b : Int} : kAdd (.int a) (.int b) H Q = Q (.int (a + b)) H := rfl
theorem a_kAddS {a b : List Nat} : kAdd (.str (st a)) (.str (st b)) H Q = (a.length + b.length ≤ 100000 ∧ Q (.str (st (a ++ b))) H) := rfl
theorem a_kAddL {a b : Addr} : kAdd (.ref a) (.ref b) H Q = ∃ xs zs, H a = some (.lst xs) ∧ H b = some (.lst zs) ∧ xs.length + zs.length ≤ sizeLine ∧ ∀ p, H p = none → Q (.ref p) (upd H p (.lst (xs ++ zs))) := rfl
theorem a_kI {C : Int → Int → Prop} {g : Int → Int → V} {a b : Int} : kI C g (.int a) (.int b) H Q = (C a b ∧ Q (g a b) H) := rfl
theorem a_kI0 {g : Int → Int → V} {a b : Int} : kI0 g (.int a) (.int b) H Q = Q (g a b) H := rfl
theorem a_kMulI {a b : Int} : kMul (.int a) (.int b) H Q = (CMul a b ∧ Q (.int (a * b)) H) := rfl
theorem a_kMulS {c : Nat} {n : Int} : kMul (.str (st [c])) (.int n) H Q = (0 ≤ n ∧ n ≤ 10000 ∧ Q (.str (st (List.replicate n.toNat c))) H) := by
  show (∃ d, [c] = [d] ∧ 0 ≤ n ∧ n ≤ 10000 ∧ Q (.str (st (List.replicate n.toNat d))) H) = _
  refine propext ⟨?_, fun h => ⟨c, rfl, h⟩⟩
  rintro ⟨d, e, h⟩
  cases e
  exact h
theorem a_kEqI {n : Bool} {a b : Int} : kEq n (.int a) (.int b) H Q = Q (.bl (n ^^ decide (a = b))) H := rfl
theorem a_kEqS {n : Bool} {a b : List Nat} : kEq n (.str (st a)) (.str (st b)) H Q = Q (.bl (n ^^ decide (a = b))) H := rfl
theorem a_kEqB {n : Bool} {a b : Bool} : kEq n (.bl a) (.bl b) H Q = Q (.bl (n ^^ decide (a = b))) H := rfl
theorem a_kEqNS {n : Bool} {b : Str} : kEq n .non (.str b) H Q = Q (.bl (n ^^ false)) H := rfl
theorem a_kEqSN {n : Bool} {b : Str} : kEq n (.str b) .non H Q = Q (.bl (n ^^ false)) H := rfl
theorem a_kEqNN {n : Bool} : kEq n .non .non H Q = Q (.bl (n ^^ true)) H := rfl
theorem a_kIs {n : Bool} {x : V} : kIs n x .non H Q = Q (.bl (n ^^ decide (x = .non))) H := rfl
theorem a_kIsB {n a b : Bool} : kIsB n (.bl a) (.bl b) H Q = Q (.bl (n ^^ (a == b))) H := rfl
theorem a_kInS {K : PySem.W.Frag} {n : Bool} {c : Nat} {b : List Nat} : kIn K n (.str (st [c])) (.str (st b)) H Q = Q (.bl (n ^^ decide (c ∈ b))) H := by
  show (∃ d, [c] = [d] ∧ Q (.bl (n ^^ decide (d ∈ b))) H) = _
  refine propext ⟨?_, fun h => ⟨c, rfl, h⟩⟩
  rintro ⟨d, e, h⟩
  cases e
  exact h
theorem a_kInL {K : PySem.W.Frag} {n : Bool} {x : V} {p : Addr} : kIn K n x (.ref p) H Q = ∃ xs, (SqL K H p xs ∨ SqT K H p xs) ∧ flatV x = true ∧ xs.all flatV = true ∧ Q (.bl (n ^^ inV x xs)) H := by
  cases x <;> rfl
theorem a_kIxS {K : PySem.W.Frag} {l : List Nat} {j : Int} : kIx K (.str (st l)) (.int j) H Q = (l.length ≤ 100000 ∧ ∃ c, atI l j = some c ∧ Q (.str (st [c])) H) := rfl
theorem a_kIxL {K : PySem.W.Frag} {p : Addr} {j : Int} : kIx K (.ref p) (.int j) H Q = ∃ xs v, (SqL K H p xs ∨ SqT K H p xs) ∧ atI xs j = some v ∧ Q v H := rfl
theorem a_kLenS {K : PySem.W.Frag} {l : List Nat} : kLen K [.str (st l)] H Q = (l.length ≤ 100000 ∧ Q (.int l.length) H) := rfl
theorem a_kLenL {K : PySem.W.Frag} {p : Addr} : kLen K [.ref p] H Q = ∃ ys, (SqL K H p ys ∨ SqT K H p ys) ∧ Q (.int ys.length) H := rfl
theorem a_kIntI {a : Int} : kInt [.int a] H Q = Q (.int a) H := rfl
theorem a_kIntB {a : Bool} : kInt [.bl a] H Q = Q (.int (if a then 1 else 0)) H := rfl
theorem a_kIntS {c : Nat} : kInt [.str (st [c])] H Q = (48 ≤ c ∧ c ≤ 57 ∧ Q (.int ((c - 48 : Nat) : Int)) H) := by
  show (∃ d : Nat, [c] = [d] ∧ 48 ≤ d ∧ d ≤ 57 ∧ Q (.int ((d - 48 : Nat) : Int)) H) = _
  refine propext ⟨?_, fun h => ⟨c, rfl, h⟩⟩
  rintro ⟨d, e, h⟩
  cases e
  exact h
theorem a_kSlTo {K : PySem.W.Frag} {l : List Nat} {j : Int} : kSl K (.str (st l)) none (some j) H Q = (l.length ≤ 100000 ∧ 0 ≤ j ∧ j ≤ l.length ∧ Q (.str (st (l.take j.toNat))) H) := rfl
theorem a_kSlFrom {K : PySem.W.Frag} {l : List Nat} {j : Int} : kSl K (.str (st l)) (some j) none H Q = (l.length ≤ 100000 ∧ 0 ≤ j ∧ j ≤ l.length ∧ Q (.str (st (l.drop j.toNat))) H) := rfl
theorem a_kSlL {K : PySem.W.Frag} {p : Addr} {lo hi : Option Int} : kSl K (.ref p) lo hi H Q = ∃ xs, SqL K H p xs ∧ ∀ q, H q = none → Q (.ref q) (upd H q (.lst (cutV xs lo hi))) := rfl
theorem a_tSl {r : V → Option Int → Option Int → Hp → VK → Prop} {tl th : TO} : tSl r te tl th σ H Q = te σ H fun x H1 => tl σ H1 fun l H2 => th σ H2 fun u H3 => r x l u H3 Q := rfl
theorem a_tNoPart {Q : Option Int → Hp → Prop} : tNoPart σ H Q = Q none H := rfl
def cPart (t : TE) : TO := fun σ H Q => t σ H fun x H1 => match x with | .int i => Q (some i) H1 | _ => False
theorem a_cPart {Q : Option Int → Hp → Prop} : cPart te σ H Q = te σ H fun x H1 => match x with | .int i => Q (some i) H1 | _ => False := rfl
theorem a_cNeg : cNeg ta σ H Q = ta σ H fun x H1 => match x with | .int i => Q (.int (-i)) H1 | _ => False := rfl
theorem a_kEqNil {K : PySem.W.Frag} {a b : Addr} : kEqNil K (.ref a) (.ref b) H Q = ∃ xs, SqL K H a xs ∧ SqL K H b [] ∧ Q (.bl (decide (xs = []))) H := rfl
theorem a_cIsI {n : Ty} : cIsI n ta σ H Q = ta σ H fun x H1 => match x with
  | .non => Q (.bl false) H1
  | .bl _ => Q (.bl n.isBl) H1
  | .int _ => Q (.bl n.isInt) H1
  | .str _ => Q (.bl n.isStr) H1
  | .ref p => ((∃ xs, H1 p = some (.lst xs)) ∧ Q (.bl n.isLst) H1) ∨ ((∃ xs, H1 p = some (.tup xs)) ∧ Q (.bl n.isTup) H1)
  | _ => False := rfl
theorem a_cTest : cTest te σ H R = te σ H (blK R) := rfl
theorem a_blK {b : Bool} : blK R (.bl b) H = R b H := rfl
theorem a_cAndV : cAndV ta tb σ H Q = ta σ H (blK fun c H1 => if c = true then tb σ H1 Q else Q (.bl false) H1) := rfl
theorem a_cOrV : cOrV ta tb σ H Q = ta σ H (blK fun c H1 => if c = true then Q (.bl true) H1 else tb σ H1 Q) := rfl
theorem a_cNotV : cNotV ta σ H Q = ta σ H (blK fun c H1 => Q (.bl (!c)) H1) := rfl
theorem a_tAnd {t u : TT} : tAnd t u σ H R = t σ H fun c H1 => if c = true then u σ H1 R else R false H1 := rfl
theorem a_tOr {t u : TT} : tOr t u σ H R = t σ H fun c H1 => if c = true then R true H1 else u σ H1 R := rfl
theorem a_tNot {t : TT} : tNot t σ H R = t σ H fun c H1 => R (!c) H1 := rfl
theorem a_tYes : tYes σ H R = R true H := rfl
theorem a_tIf : tIf tc ta tb σ H Q = tc σ H fun c H1 => if c = true then ta σ H1 Q else tb σ H1 Q := rfl
theorem a_cApp : cApp ta te σ H Q = ta σ H fun x H1 => match x with
  | .ref l => (∃ xs, H1 l = some (.lst xs)) ∧ te σ H1 fun y H2 => ∃ xs, H2 l = some (.lst xs) ∧ xs.length < sizeLine ∧ Q .non (upd H2 l (.lst (xs ++ [y])))
  | _ => False := rfl
theorem a_cJoin1 {K : PySem.W.Frag} : cJoin1 K te σ H Q = te σ H fun x H1 => match x with
  | .ref l => ∃ cs : List Nat, SqL K H1 l (cs.map fun k => V.str (st [k])) ∧ cs.length ≤ 10000 ∧ Q (.str (st cs)) H1
  | _ => False := rfl
theorem a_tNil {R : List V → Hp → Prop} : tNil σ H R = R [] H := rfl
theorem a_tCons {t : TA} {R : List V → Hp → Prop} : tCons ta t σ H R = ta σ H fun x H1 => t σ H1 fun xs H2 => R (x :: xs) H2 := rfl
theorem a_tCall {sp : Sp} {E : XK} {t : TA} : tCall sp [] E t σ H Q = t σ H fun vs H1 => sp vs H1 Q E := by
  unfold tCall
  simp only [List.append_nil]
theorem a_tCB {r : List V → Hp → VK → Prop} {t : TA} : tCB r t σ H Q = t σ H fun vs H1 => r vs H1 Q := rfl
theorem a_tLst {t : TA} : tLst t σ H Q = t σ H fun xs H1 => xs.length ≤ sizeLine ∧ ∀ p, H1 p = none → Q (.ref p) (upd H1 p (.lst xs)) := rfl
theorem a_tTup {t : TA} : tTup t σ H Q = t σ H fun xs H1 => xs.length ≤ sizeLine ∧ ∀ p, H1 p = none → Q (.ref p) (upd H1 p (.tup xs)) := rfl
theorem a_tNext : tNext D σ H = D.nx σ H := rfl
theorem a_tSeq : tSeq t u D σ H = t { D with nx := u D } σ H := rfl
theorem a_tDrop : tDrop te D σ H = te σ H fun _ H1 => D.nx σ H1 := rfl
theorem a_tRet : tRet te D σ H = te σ H D.rt := rfl
theorem a_tRetN : tRetN D σ H = D.rt .non H := rfl
theorem a_tIfS : tIfS tc t u D σ H = tc σ H fun b H1 => if b = true then t D σ H1 else u D σ H1 := rfl
theorem a_tAsg {g : TG} : tAsg te g D σ H = te σ H fun x H1 => g x σ H1 D.nx := rfl
theorem a_gName {R : St → Hp → Prop} : gName i v σ H R = R (σ.set i (some v)) H := rfl
theorem a_tJoin : tJoin t u D σ H = ∃ J : St → Hp → Prop, t { D with nx := J } σ H ∧ ∀ σ' H', J σ' H' → u D σ' H' := rfl
theorem a_cFor {wi : TI} {g : TG} : cFor wi g t D σ H = wi σ H fun J H1 => loopW J g t D σ H1 := rfl
theorem a_cIter {K : PySem.W.Frag} {R : It → Hp → Prop} : cIter K te σ H R = te σ H fun x H1 => match x with
  | .str z => R (Its z) H1
  | .ref a => ((∃ xs, SqL K H1 a xs) ∧ R (Itl K a) H1) ∨ ((∃ xs, SqT K H1 a xs) ∧ R (Itt K a) H1)
  | _ => False := rfl
theorem a_cRng1 {R : It → Hp → Prop} : cRng1 te σ H R = te σ H fun x H1 => match x with
  | .int j => -1000000 ≤ j ∧ j ≤ 1000000 ∧ R (Itr 0 j.toNat) H1
  | _ => False := rfl
theorem a_cRng2 {R : It → Hp → Prop} : cRng2 ta tb σ H R = ta σ H fun x H1 => tb σ H1 fun y H2 => match x, y with
  | .int i, .int j => (-1000000 ≤ i ∧ i ≤ 1000000 ∧ -1000000 ≤ j ∧ j ≤ 1000000) ∧ R (Itr i (j - i).toNat) H2
  | _, _ => False := rfl
theorem a_cZip {K : PySem.W.Frag} {R : It → Hp → Prop} : cZip K ta tb σ H R = ta σ H fun x H1 => tb σ H1 fun y H2 => srcK K H2 x fun S1 => srcK K H2 y fun S2 => R (Itz K S1 S2) H2 := rfl
theorem a_srcKS {K : PySem.W.Frag} {z : Str} {R : Src → Prop} : srcK K H (.str z) R = R (.str z) := rfl
theorem a_srcKL {K : PySem.W.Frag} {p : Addr} {R : Src → Prop} : srcK K H (.ref p) R = ((∃ xs, SqL K H p xs) ∧ R (.lst p)) := rfl
theorem a_cComp {nt : Nat} {fi : List Nat} {wi : TI} {g : TG} : cComp nt fi wi g tc te σ H Q = wi σ H fun J H1 => ∀ D, H1 D = none → compW J g tc te (compσ nt fi σ) D Q H1 := rfl
end
theorem a_cxK {CX : CXT} {P : Program} {w : World} {K : PySem.W.Frag} {mg : Str → Option Value} {base : Heap} {N : List Str} {qual : Str} {scope : Scope} {f : Addr} {cd : Value} {A : Around} {outer : List Env} {s : Shared} {H : Hp} {E : XK} : (cxOf CX P w K mg base N qual scope f cd A outer s H E).K = K := rfl
theorem a_cxCK {X : Cx} {scope : Scope} {cl : List (Str × Addr)} {N' : List Str} {C : Addr} {s : Shared} {H : Hp} {ex : List Addr} : (cxC X scope cl N' C s H ex).K = X.K := rfl
theorem a_one {a b : Nat} : (([a] : List Nat) = [b]) = (a = b) := by simp
theorem qo_some {X : Cx} {e : Expr} {te : TE} (h : PE X e te) : PO X (some e) (cPart te) := fun pins s σ H Q I q => po_some h.mono pins s σ H Q I ⟨_, q, fun v H1 z => by
  split at z
  · exact ⟨_, rfl, z⟩
  · exact z.elim⟩
end L2


set_option linter.all false
namespace Mir
open PySem L2
def cell (ns : List Int) (k : Nat) : Int := (ns[k]?).getD 0
theorem cell_lt {ns : List Int} {k : Int} (h0 : 0 ≤ k) (h : k < ns.length) : atI (ns.map V.int) k = some (V.int (cell ns k.toNat)) := by
  obtain ⟨j, rfl⟩ : ∃ j : Nat, k = j := ⟨k.toNat, by omega⟩
  have hj : j < ns.length := by omega
  refine atI_nat ?_
  simp [cell, hj]
theorem cell_ge {ns : List Int} {k : Int} (h : ¬ k < ns.length) : cell ns k.toNat = 0 := by
  have hj : ns.length ≤ k.toNat := by omega
  simp [cell, hj]
def num (c : Int) : Nat → Int
  | 0 => c % 2147483647 + 1
  | i + 1 => (num c i * 48271 + 7 * (i : Int) * (i : Int) + 3) % 2147483647
theorem num_lo (c : Int) (i : Nat) : 0 ≤ num c i := by
  cases i with
  | zero => simp only [num]; omega
  | succ i => simp only [num]; omega
theorem num_hi (c : Int) (i : Nat) : num c i ≤ 2147483647 := by
  cases i with
  | zero => simp only [num]; omega
  | succ i => simp only [num]; omega
def stream (c : Int) (n : Nat) : List Int := (List.range n).map fun i => num c (i + 1) / 16
theorem stream_len (c : Int) (n : Nat) : (stream c n).length = n := by simp [stream]
theorem stream_snoc (c : Int) (n : Nat) : stream c (n + 1) = stream c n ++ [num c (n + 1) / 16] := by
  simp [stream, List.range_succ]
def bit (m : Int) : Nat := if m % 2 = 0 then 48 else 49
theorem at01 (m : Int) : atI [48, 49] (m % 2) = some (bit m) := by
  have h : m % 2 = 0 ∨ m % 2 = 1 := by omega
  unfold bit
  rcases h with h | h <;> rw [h] <;> rfl
theorem bit_or (m : Int) : bit m = 48 ∨ bit m = 49 := by
  unfold bit
  split
  · exact .inl rfl
  · exact .inr rfl
def rowSign (l e : Int) : Nat := if e % l > 0 then 45 else bit (e / 64)
def row (c : Int) (w : Nat) (l : Int) : List Nat := (stream c w).map (rowSign l)
def IsLet (r : List Nat) : Prop := ∀ c ∈ r, c = 48 ∨ c = 49
def within (one other : List Nat) : Bool := (one.zip other).all fun p => p.2 == 45 || p.2 == p.1
end Mir


set_option linter.all false
namespace L2
open PySem PySem.Spec PyProof.Rows
theorem z_pos {K : Params → PySem.W.Frag} {as : List Addr} {n t : Nat} {w : World} {s : Shared} (y : PySem.W.X.obsZ as s = PySem.W.X.valZ K n t w) (e : ∀ P, as = (K P).map (·.1)) (ht : 0 < t) : (K w.params).In s.heap ∧ 0 < s.toks := by
  obtain ⟨_, h, _, q⟩ := PySem.W.X.z_facts e y
  exact ⟨h, by rw [q]; exact ht⟩
section
variable {prog : Program} {w : World} {A : Around} {E : Value → Shared → Prop} {s : Shared}
theorem IsList.extBut' {h h' : Heap} {a l : Addr} {items : Array Value} (hl : h.IsList l items) (he : Heap.ExtBut a h h') (hne : l ≠ a) : h'.IsList l items := by
  obtain ⟨o, ho, r⟩ := hl
  exact ⟨o, he l o hne ho, r⟩
end
section
variable {X : Cx} {pos : Pos}
def gSeq (K : PySem.W.Frag) (n : Nat) (t : TGs) : TG := fun v σ H Q => match v with
  | .ref a => ∃ xs, (SqL K H a xs ∨ SqT K H a xs) ∧ xs.length = n ∧ t xs σ H Q
  | _ => False
end
section
variable {t : TG} {u : TGs} {σ : St} {H : Hp} {Q : St → Hp → Prop} {v : V} {r : List V} {K : PySem.W.Frag} {n : Nat} {p : Addr}
theorem a_gCons : gCons t u (v :: r) σ H Q = t v σ H fun σ' H' => u r σ' H' Q := by
  refine propext ⟨?_, fun h => ⟨v, r, rfl, h⟩⟩
  rintro ⟨v', r', e, h⟩
  cases e
  exact h
theorem a_gNil : gNil [] σ H Q = Q σ H := propext ⟨fun h => h.2, fun h => ⟨rfl, h⟩⟩
theorem a_gSeq : gSeq K n u (.ref p) σ H Q = ∃ xs, (SqL K H p xs ∨ SqT K H p xs) ∧ xs.length = n ∧ u xs σ H Q := rfl
end
def rep (c d : Nat) (l : List Nat) : List Nat := l.map fun k => if k = c then d else k
section
variable {X : Cx} {o e : Expr} {to te : TE} {apos cpos p1 p2 : Pos} {j1 j2 : Nat}
def cRepl (c d : Nat) (to : TE) : TE := fun σ H Q => to σ H fun x H1 => match x with
  | .str a => a.cps.toList.length ≤ 10000 ∧ Q (.str (st (rep c d a.cps.toList))) H1
  | _ => False
def cCount (c : Nat) (to : TE) : TE := fun σ H Q => to σ H fun x H1 => match x with
  | .str a => Q (.int (a.cps.toList.count c : Nat)) H1
  | _ => False
def kList (K : PySem.W.Frag) : List V → Hp → VK → Prop := fun xs H Q => match xs with
  | [.str z] => z.cps.toList.length ≤ 100000 ∧ ∀ p, H p = none → Q (.ref p) (upd H p (.lst (z.cps.toList.map fun c => V.str (st [c]))))
  | [.ref a] => ∃ ys, (SqL K H a ys ∨ SqT K H a ys) ∧ ∀ p, H p = none → Q (.ref p) (upd H p (.lst ys))
  | _ => False
theorem a_kListS {K : PySem.W.Frag} {l : List Nat} {H : Hp} {Q : VK} : kList K [.str (st l)] H Q = (l.length ≤ 100000 ∧ ∀ p, H p = none → Q (.ref p) (upd H p (.lst (l.map fun c => V.str (st [c]))))) := rfl
theorem a_kListL {K : PySem.W.Frag} {a : Addr} {H : Hp} {Q : VK} : kList K [.ref a] H Q = ∃ ys, (SqL K H a ys ∨ SqT K H a ys) ∧ ∀ p, H p = none → Q (.ref p) (upd H p (.lst ys)) := rfl
theorem a_cRepl {c d : Nat} {σ : St} {H : Hp} {Q : VK} : cRepl c d to σ H Q = to σ H fun x H1 => match x with
  | .str a => a.cps.toList.length ≤ 10000 ∧ Q (.str (st (rep c d a.cps.toList))) H1
  | _ => False := rfl
theorem a_cCount {c : Nat} {σ : St} {H : Hp} {Q : VK} : cCount c to σ H Q = to σ H fun x H1 => match x with
  | .str a => Q (.int (a.cps.toList.count c : Nat)) H1
  | _ => False := rfl
def kTuple : List V → Hp → VK → Prop := fun xs H Q => match xs with
  | [.str z] => z.cps.toList.length ≤ 100000 ∧ ∀ p, H p = none → Q (.ref p) (upd H p (.tup (z.cps.toList.map fun c => V.str (st [c]))))
  | _ => False
theorem a_kTupleS {l : List Nat} {H : Hp} {Q : VK} : kTuple [.str (st l)] H Q = (l.length ≤ 100000 ∧ ∀ p, H p = none → Q (.ref p) (upd H p (.tup (l.map fun c => V.str (st [c]))))) := rfl
end
end L2


set_option linter.all false
namespace L2
open PySem PySem.Spec PyProof.Rows
def Ite (x : Str) : It := ⟨fun i _ => i < x.cps.size, fun i H v H' => ∃ T c, v = .ref T ∧ H T = none ∧ x.cps[i]? = some c ∧ H' = upd H T (.tup [.int i, .str ⟨#[c]⟩]), fun i _ => i = x.cps.size⟩
section
variable {X : Cx} {a : Expr} {ta : TE} {p pos : Pos}
def cEnum (te : TE) : TI := fun σ H R => te σ H fun x H1 => match x with
  | .str z => R (Ite z) H1
  | _ => False
theorem a_cEnum {σ : St} {H : Hp} {R : It → Hp → Prop} : cEnum ta σ H R = ta σ H fun x H1 => match x with
  | .str z => R (Ite z) H1
  | _ => False := rfl
end
end L2
namespace L2
open PySem PySem.Spec PyProof.Rows
section
variable {X : Cx}
def kSum (K : PySem.W.Frag) : List V → Hp → VK → Prop := fun xs H Q => match xs with
  | [.ref p] => ∃ ns : List Int, SqL K H p (ns.map V.int) ∧ Q (.int ns.sum) H
  | _ => False
theorem a_kSum {K : PySem.W.Frag} {p : Addr} {H : Hp} {Q : VK} : kSum K [.ref p] H Q = ∃ ns : List Int, SqL K H p (ns.map V.int) ∧ Q (.int ns.sum) H := rfl
theorem a_tPar {i j : Nat} {ta tb : TE} {D : Ends} {σ : St} {H : Hp} : tPar i j (tCons ta (tCons tb tNil)) D σ H = ta σ H fun x H1 => tb σ H1 fun y H2 => D.nx ((σ.set i (some x)).set j (some y)) H2 := by
  show (ta σ H fun x H1 => tb σ H1 fun y H2 => ∃ v w, [x, y] = [v, w] ∧ D.nx ((σ.set i (some v)).set j (some w)) H2) = _
  congr 1
  funext x H1
  congr 1
  funext y H2
  refine propext ⟨?_, fun h => ⟨x, y, rfl, h⟩⟩
  rintro ⟨v, w, e, h⟩
  cases e
  exact h
end
end L2


namespace L2
open PySem PySem.Spec PyProof.Rows
theorem tab_laid {mask finger moves : Nat} {led plain : Bool} {hs : Array Int} {r : SetTable × Array Nat} (h : SetTable.laid mask finger moves led plain hs = some r) : r.1.led = led ∧ r.1.plain = plain := by
  unfold SetTable.laid at h
  cases q : SetTable.layClean mask hs with
  | none => rw [q] at h; cases h
  | some ow =>
    rw [q] at h
    cases h
    exact ⟨rfl, rfl⟩
theorem tab_relay (t : SetTable) (es : Array (Int × Value)) (n : Nat) : (relayAll t es n).2.1.led = t.led ∧ (t.plain = false → (relayAll t es n).2.1.plain = false) := by
  unfold relayAll
  split
  · rename_i t' order e
    have q := tab_laid e
    dsimp only
    split
    · exact ⟨q.1, fun z => q.2.trans z⟩
    · exact ⟨rfl, fun _ => rfl⟩
  · exact ⟨rfl, fun _ => rfl⟩

def txtOf : Value → Str
  | .str x _ => x
  | _ => ⟨#[]⟩
def IsTexts (w : World) (h : Heap) (a : Addr) (led : Bool) (ss : List Str) : Prop :=
  ∃ es ep t, h.get? a = some { cls := .type "set", dict := none, data := .set es ep t, slots := #[] } ∧ (∀ e ∈ es.toList, ∃ x u, e = (hashStr w x, Value.str x u)) ∧
    (es.toList.map fun e => txtOf e.2).Perm ss ∧ t.fits es.size = true ∧ t.led = led ∧ (es.size ≠ 0 → t.plain = false)
section
variable {prog : Program} {w : World} {A : Around} {E : Value → Shared → Prop} {s : Shared}
def addT (ss : List Str) (x : Str) : List Str := if x ∈ ss then ss else ss ++ [x]
theorem set_put {a : Addr} {es es' : Array (Int × Value)} {ep : Nat} {t t' : SetTable} (ho : s.heap.get? a = some { cls := .type "set", dict := none, data := .set es ep t, slots := #[] }) :
    (s.heap.update a (Obj.putSet es' t')).get? a = some { cls := .type "set", dict := none, data := .set es' (ep + 1) t', slots := #[] } :=
  Heap.get?_update_self (Obj.putSet es' t') ho rfl
set_option hygiene false
local macro_rules | `(tactic| walk_at "lay_down") => `(tactic| (
  refine wpAny_bind (wpAny_storeSet_of ho rfl ?_ (fits_of_scanBound (by omega)))
  have o1 := set_put (es' := es1) (t' := t2) ho
  have sb1 := Heap.SameBut.update s.heap a (Obj.putSet es1 t2)
  refine wpAny_ite_split (fun _ => ?_) fun _ => ?_
  · have q1 := relayAll_perm t2 es1 (SetTable.grown es1.size)
    have q2 := relayAll_fits t2 es1 (SetTable.grown es1.size)
    have q3 := tab_relay t2 es1 (SetTable.grown es1.size)
    generalize relayAll t2 es1 (SetTable.grown es1.size) = R at q1 q2 q3 ⊢
    obtain ⟨es2, t3, g2⟩ := R
    dsimp only at q1 q2 q3 ⊢
    have z2 : es2.size = es1.size := by have := q1.length_eq; simpa using this
    refine wpAny_bind (gw _ _ _ ?_)
    refine wpAny_bind (wpAny_storeSet_of o1 rfl ?_ (fits_of_scanBound (by omega)))
    have o2 := set_put (s := { s with heap := s.heap.update a (Obj.putSet es1 t2) }) (es' := es2) (t' := t3) o1
    exact wpAny_pure (wpAny_pure (h _ _ (sb1.trans (Heap.SameBut.update _ a _)) ⟨es2, _, t3, o2, fun e he => hel1 e (q1.mem_iff.mp he), (q1.map _).trans hp1, q2, q3.1.trans l2, fun _ => q3.2 n2⟩))
  · exact wpAny_pure (wpAny_pure (h _ _ sb1 ⟨es1, _, t2, o1, hel1, hp1, f2, l2, fun _ => n2⟩))))
set_option hygiene true
end
end L2


namespace L2
open PySem PySem.Spec PyProof.Rows
def dd (l : List Str) : List Str := l.foldl addT []
theorem addT_mem {ss : List Str} {x y : Str} : y ∈ addT ss x ↔ y ∈ ss ∨ y = x := by
  unfold addT
  split
  · rename_i h
    exact ⟨.inl, fun q => q.elim id fun e => e ▸ h⟩
  · simp
theorem foldl_addT_mem (l : List Str) : ∀ (ss : List Str) (y : Str), y ∈ l.foldl addT ss ↔ y ∈ ss ∨ y ∈ l := by
  induction l with
  | nil => intro ss y; simp
  | cons x l ih =>
    intro ss y
    rw [List.foldl_cons, ih, addT_mem, List.mem_cons]
    exact ⟨fun q => q.elim (fun z => z.elim .inl fun e => .inr (.inl e)) fun z => .inr (.inr z), fun q => q.elim (fun z => .inl (.inl z)) fun z => z.elim (fun e => .inl (.inr e)) .inr⟩
theorem dd_mem {l : List Str} {y : Str} : y ∈ dd l ↔ y ∈ l := by
  unfold dd
  rw [foldl_addT_mem]
  simp
theorem addT_nodup {ss : List Str} (h : ss.Nodup) (x : Str) : (addT ss x).Nodup := by
  unfold addT
  split
  · exact h
  · rename_i n
    rw [List.nodup_append]
    exact ⟨h, by simp, fun a ha b hb => by rw [List.mem_singleton.mp hb]; exact fun e => n (e ▸ ha)⟩
theorem foldl_addT_nodup (l : List Str) : ∀ ss : List Str, ss.Nodup → (l.foldl addT ss).Nodup := by
  induction l with
  | nil => intro ss h; exact h
  | cons x l ih => intro ss h; exact ih _ (addT_nodup h x)
theorem dd_nodup (l : List Str) : (dd l).Nodup := foldl_addT_nodup l [] List.nodup_nil

theorem IsTexts.at {w : World} {h h' : Heap} {a : Addr} {led : Bool} {ss : List Str} (x : IsTexts w h a led ss) (k : ∀ o, h.get? a = some o → h'.get? a = some o) : IsTexts w h' a led ss := by
  obtain ⟨es, ep, t, ho, r⟩ := x
  exact ⟨es, ep, t, k _ ho, r⟩

section
variable {prog : Program} {w : World} {A : Around} {R : Result → Shared → Prop} {I : Addr} {fp wr : List Addr} {G : Array GenState → Array GenState → Prop} {n : Nat} {P : Nat → Value → Prop} {St : Nat → Shared → Prop}
end
end L2


namespace L2
open PySem PySem.Spec PyProof.Rows
set_option maxRecDepth 100000
section
variable {prog : Program} {w : World} {A : Around} {E : Value → Shared → Prop} {s : Shared}
end
end L2


namespace L2
open PySem PySem.Spec PyProof.Rows
set_option maxRecDepth 100000
section
variable {M : Model} {A : Around} {E : Value → Shared → Prop}
end
section
variable {prog : Program} {w : World} {A : Around} {E : Value → Shared → Prop} {s : Shared}
end
end L2


namespace L2
open PySem PySem.Spec PyProof.Rows
set_option maxRecDepth 100000
section
variable {prog : Program} {w : World} {A : Around} {E : Value → Shared → Prop} {s : Shared} {it a : Addr} {es : Array (Int × Value)} {n ep i : Nat} {t : SetTable}
set_option hygiene false
local macro_rules | `(tactic| walk_at "turn_begins") => `(tactic| (
  unfold Builtin.«set_iterator.__next__» slotArgs
  simp only [List.isEmpty_nil, Bool.not_true, Bool.false_eq_true, ↓reduceIte, bind_assoc, List.length_nil, bne_self_eq_false]
  refine wpAny_bind (wpAny_pure ?_)
  dsimp only
  refine wpAny_bind (wpAny_fieldsOf hit rfl ?_)
  dsimp only
  refine wpAny_bind (wpAny_setEntries_of ha rfl hf ?_)
  rw [show ((es.size : Int) != (n : Int)) = false by simp [hz]]
  simp only [Bool.false_eq_true, ↓reduceIte]))
set_option hygiene true
end
end L2


namespace L2
open PySem PySem.Spec PyProof.Rows
set_option maxRecDepth 100000
section
variable {prog : Program} {w : World} {A : Around} {E : Value → Shared → Prop} {s : Shared} {it a : Addr} {es : Array (Int × Value)} {n ep i : Nat} {t : SetTable}
end
end L2


namespace L2
open PySem PySem.Spec PyProof.Rows
set_option maxRecDepth 100000
section
variable {prog : Program} {w : World} {A : Around} {E : Value → Shared → Prop} {s : Shared} {it a : Addr} {es : Array (Int × Value)} {n ep i : Nat} {t : SetTable}
end
end L2


namespace L2
open PySem PySem.Spec PyProof.Rows
set_option maxRecDepth 100000
section
variable {prog : Program} {w : World} {A : Around} {E : Value → Shared → Prop} {s : Shared}
structure Walked (prog : Program) (w : World) (A : Around) (h : Heap) (a : Addr) (ss : List Str) (it : Addr) (h' : Heap) : Prop where
  old : ∀ b o, h.get? b = some o → h'.get? b = some o
  new : h.objs.size ≤ it
  walk : ∃ fp St, ∃ xs : List Value, Walks prog w A it fp [it] xs.length (fun i v => xs[i]? = some v) St ∧ St 0 h' ∧ (∀ b ∈ fp, b = a ∨ h.objs.size ≤ b) ∧ (∀ v ∈ xs, ∃ x u, v = Value.str x u) ∧ (xs.map txtOf).Perm ss
end
end L2


namespace L2
open PySem PySem.Spec PyProof.Rows
set_option maxRecDepth 100000
section
variable {prog : Program} {w : World} {A : Around} {E : Value → Shared → Prop} {s : Shared}
end
end L2


namespace L2
open PySem PySem.Spec PyProof.Rows
set_option maxRecDepth 100000
def ins (x : List Nat) : List (List Nat) → List (List Nat)
  | [] => [x]
  | y :: r => if x = y then y :: r else if x < y then x :: y :: r else y :: ins x r
def srt (l : List (List Nat)) : List (List Nat) := l.foldr ins []
theorem lt_ir (a : List Nat) : ¬ a < a := List.lt_irrefl a
theorem lt_tr {a b c : List Nat} (h : a < b) (k : b < c) : a < c := List.lt_trans h k
theorem lt_tri (a b : List Nat) (h : ¬ a = b) (k : ¬ a < b) : b < a := by
  rcases Std.Trichotomous.rel_or_eq_or_rel_swap (r := fun (a b : List Nat) => a < b) (a := a) (b := b) with q | q | q
  · exact absurd q k
  · exact absurd q h
  · exact q
theorem ins_mem (x : List Nat) : ∀ (l : List (List Nat)) (y : List Nat), y ∈ ins x l ↔ y = x ∨ y ∈ l
  | [], y => by simp [ins]
  | z :: r, y => by
    unfold ins
    split
    · rename_i e; subst e; simp
    · split
      · simp
      · rw [List.mem_cons, ins_mem x r y, List.mem_cons]
        constructor
        · rintro (q | q | q)
          · exact .inr (.inl q)
          · exact .inl q
          · exact .inr (.inr q)
        · rintro (q | q | q)
          · exact .inr (.inl q)
          · exact .inl q
          · exact .inr (.inr q)
theorem srt_mem {l : List (List Nat)} {y : List Nat} : y ∈ srt l ↔ y ∈ l := by
  induction l with
  | nil => simp [srt]
  | cons x l ih =>
    show y ∈ ins x (srt l) ↔ _
    rw [ins_mem, ih, List.mem_cons]
theorem ins_sorted (x : List Nat) : ∀ l : List (List Nat), l.Pairwise (· < ·) → (ins x l).Pairwise (· < ·)
  | [], _ => by simp [ins]
  | z :: r, h => by
    obtain ⟨h1, h2⟩ := List.pairwise_cons.mp h
    unfold ins
    split
    · exact h
    · rename_i ne
      split
      · rename_i lt
        refine List.pairwise_cons.mpr ⟨fun y hy => ?_, h⟩
        rcases List.mem_cons.mp hy with rfl | hy
        · exact lt
        · exact lt_tr lt (h1 y hy)
      · rename_i nlt
        refine List.pairwise_cons.mpr ⟨fun y hy => ?_, ins_sorted x r h2⟩
        rcases (ins_mem x r y).mp hy with rfl | hy
        · exact lt_tri _ _ ne nlt
        · exact h1 y hy
theorem srt_sorted (l : List (List Nat)) : (srt l).Pairwise (· < ·) := by
  induction l with
  | nil => exact List.Pairwise.nil
  | cons x l ih => exact ins_sorted x _ ih
theorem sorted_uniq : ∀ (l m : List (List Nat)), l.Pairwise (· < ·) → m.Pairwise (· < ·) → (∀ x, x ∈ l ↔ x ∈ m) → l = m
  | [], [], _, _, _ => rfl
  | [], y :: m, _, _, h => by have := (h y).mpr List.mem_cons_self; cases this
  | x :: l, [], _, _, h => by have := (h x).mp List.mem_cons_self; cases this
  | x :: l, y :: m, hl, hm, h => by
    obtain ⟨l1, l2⟩ := List.pairwise_cons.mp hl
    obtain ⟨m1, m2⟩ := List.pairwise_cons.mp hm
    have e : x = y := by
      rcases List.mem_cons.mp ((h x).mp List.mem_cons_self) with q | q
      · exact q
      · rcases List.mem_cons.mp ((h y).mpr List.mem_cons_self) with q' | q'
        · exact q'.symm
        · exact absurd (lt_tr (m1 x q) (l1 y q')) (lt_ir _)
    subst e
    rw [sorted_uniq l m l2 m2 fun z => ⟨fun q => ?_, fun q => ?_⟩]
    · rcases List.mem_cons.mp ((h z).mp (List.mem_cons_of_mem _ q)) with e | q'
      · exact absurd (e ▸ l1 z q) (lt_ir _)
      · exact q'
    · rcases List.mem_cons.mp ((h z).mpr (List.mem_cons_of_mem _ q)) with e | q'
      · exact absurd (e ▸ m1 z q) (lt_ir _)
      · exact q'
theorem rising_pairwise : ∀ (p : Str) (l : List Str), risingS p l = true → (p :: l).Pairwise fun a b => ¬ b.cps.toList < a.cps.toList
  | p, [], _ => by simp
  | p, x :: r, h => by
    unfold risingS at h
    rw [Bool.and_eq_true, ltCps_eq] at h
    have h1 : ¬ x.cps.toList < p.cps.toList := by simpa using h.1
    have h2 := rising_pairwise x r h.2
    refine List.pairwise_cons.mpr ⟨fun y hy => ?_, h2⟩
    rcases List.mem_cons.mp hy with rfl | hy
    · exact h1
    · intro z
      have h3 := (List.pairwise_cons.mp h2).1 y hy
      by_cases e : y.cps.toList = x.cps.toList
      · exact h1 (e ▸ z)
      · exact h1 (lt_tr (lt_tri _ _ e h3) z)
theorem sortedS_pairwise (l : List Str) (h : sortedS l = true) : l.Pairwise fun a b => ¬ b.cps.toList < a.cps.toList := by
  cases l with
  | nil => exact List.Pairwise.nil
  | cons x r => exact rising_pairwise x r h
theorem sorted_is {ls : List (List Nat)} {ss' : List Str} (hp : ss'.Perm (dd (ls.map st))) (hs : sortedS ss' = true) : ss' = (srt ls).map st := by
  have nd : ss'.Nodup := hp.nodup_iff.mpr (dd_nodup _)
  have back : ss' = (ss'.map fun x => x.cps.toList).map st := by
    rw [List.map_map]
    conv => lhs; rw [← List.map_id ss']
    rfl
  rw [back]
  congr 1
  refine sorted_uniq _ _ ?_ (srt_sorted ls) fun x => ?_
  · rw [List.pairwise_map]
    refine (List.Pairwise.and (sortedS_pairwise ss' hs) nd).imp fun {a b} ⟨h1, h2⟩ => ?_
    refine lt_tri _ _ (fun e => h2 ?_) h1
    obtain ⟨a⟩ := a
    obtain ⟨b⟩ := b
    exact congrArg Str.mk (Array.toList_inj.mp e).symm
  · rw [srt_mem, List.mem_map]
    constructor
    · rintro ⟨y, hy, rfl⟩
      have := dd_mem.mp (hp.mem_iff.mp hy)
      obtain ⟨z, hz, rfl⟩ := List.mem_map.mp this
      exact hz
    · intro hx
      exact ⟨st x, hp.mem_iff.mpr (dd_mem.mpr (List.mem_map.mpr ⟨x, hx, rfl⟩)), rfl⟩
section
variable {prog : Program} {w : World} {A : Around} {E : Value → Shared → Prop} {s : Shared}
end
end L2


namespace L2
open PySem PySem.Spec PyProof.Rows
set_option maxRecDepth 100000
section
variable {X : Cx}
theorem vals_strs : ∀ {out : List Value} {ys : List Str}, StrsAre out ys → Vals (ys.map V.str) out
  | _, _, .nil => .nil
  | _, _, .cons y t r => .cons ⟨t, rfl⟩ (vals_strs r)
def cSortSet (K : PySem.W.Frag) (te : TE) : TE := fun σ H Q => te σ H fun x H1 => match x with
  | .ref p => ∃ ls : List (List Nat), SqL K H1 p (ls.map fun l => V.str (st l)) ∧ ls.length ≤ 4000 ∧ (srt ls).length < 64 ∧ ∀ q, H1 q = none → Q (.ref q) (upd H1 q (.lst ((srt ls).map fun l => V.str (st l))))
  | _ => False
theorem a_cSortSet {K : PySem.W.Frag} {te : TE} {σ : St} {H : Hp} {Q : VK} : cSortSet K te σ H Q = te σ H fun x H1 => match x with
  | .ref p => ∃ ls : List (List Nat), SqL K H1 p (ls.map fun l => V.str (st l)) ∧ ls.length ≤ 4000 ∧ (srt ls).length < 64 ∧ ∀ q, H1 q = none → Q (.ref q) (upd H1 q (.lst ((srt ls).map fun l => V.str (st l))))
  | _ => False := rfl
end
end L2


namespace L2
open PySem PySem.Spec PyProof.Rows
set_option maxRecDepth 100000
inductive D where
  | f (v : V) | l (xs : List D) | t (xs : List D)
mutual
def eqD : D → D → Bool
  | .f x, .f y => eqV x y
  | .l xs, .l ys => eqDs xs ys
  | .t xs, .t ys => eqDs xs ys
  | .f _, .l _ => false
  | .f _, .t _ => false
  | .l _, .f _ => false
  | .l _, .t _ => false
  | .t _, .f _ => false
  | .t _, .l _ => false
def eqDs : List D → List D → Bool
  | [], [] => true
  | x :: xs, y :: ys => eqD x y && eqDs xs ys
  | [], _ :: _ => false
  | _ :: _, [] => false
end
def Deep (K : PySem.W.Frag) (H : Hp) : Nat → V → D → Prop
  | 0, v, d => d = .f v ∧ flatV v = true
  | n + 1, v, d => (d = .f v ∧ flatV v = true) ∨ (∃ a vs ds, v = .ref a ∧ d = .l ds ∧ SqL K H a vs ∧ Paired (Deep K H n) vs ds) ∨ (∃ a vs ds, v = .ref a ∧ d = .t ds ∧ SqT K H a vs ∧ Paired (Deep K H n) vs ds)
theorem eqDs_len : ∀ {xs ys : List D}, xs.length ≠ ys.length → eqDs xs ys = false
  | [], [], h => absurd rfl h
  | [], _ :: _, _ => by rw [eqDs]
  | _ :: _, [], _ => by rw [eqDs]
  | x :: xs, y :: ys, h => by
    rw [eqDs, eqDs_len (xs := xs) (ys := ys) (fun e => h (by simp [e])), Bool.and_false]
theorem eqV_refl {v : V} (h : flatV v = true) : eqV v v = true := by
  cases v <;> simp_all [flatV, eqV]
section
variable {X : Cx} {pins : List (Addr × Obj)} {σ : St} {H : Hp} {s : Shared}
theorem list_flat {A : Around} {l : Addr} {items : Array Value} {y : V} {v : Value} (hl : s.heap.IsList l items) (hu : A.units < cLine) (r : RelV y v) (f : flatV y = true) : SeqAt.EqAt A s (.ref l) v false := by
  cases y with
  | non => cases r; exact .list_none hl hu
  | bl b => cases r; exact .list_bool b hl hu
  | int i => obtain ⟨t, rfl⟩ := r; exact .list_int i t hl hu
  | str x => obtain ⟨t, rfl⟩ := r; exact .list_str x t hl hu
  | _ => exact absurd (show false = true from f) Bool.false_ne_true
theorem flat_list {A : Around} {l : Addr} {items : Array Value} {y : V} {v : Value} (hl : s.heap.IsList l items) (hu : A.units < cLine) (r : RelV y v) (f : flatV y = true) : SeqAt.EqAt A s v (.ref l) false := by
  cases y with
  | non => cases r; exact .none_list hl hu
  | bl b => cases r; exact .bool_list b hl hu
  | int i => obtain ⟨t, rfl⟩ := r; exact .int_list i t hl hu
  | str x => obtain ⟨t, rfl⟩ := r; exact .str_list x t hl hu
  | _ => exact absurd (show false = true from f) Bool.false_ne_true
theorem tuple_flat {A : Around} {l : Addr} {items : Array Value} {y : V} {v : Value} (hl : s.heap.IsTuple l items) (hu : A.units < cLine) (r : RelV y v) (f : flatV y = true) : SeqAt.EqAt A s (.ref l) v false := by
  cases y with
  | non => cases r; exact .tuple_none hl hu
  | bl b => cases r; exact .tuple_bool b hl hu
  | int i => obtain ⟨t, rfl⟩ := r; exact .tuple_int i t hl hu
  | str x => obtain ⟨t, rfl⟩ := r; exact .tuple_str x t hl hu
  | _ => exact absurd (show false = true from f) Bool.false_ne_true
theorem flat_tuple {A : Around} {l : Addr} {items : Array Value} {y : V} {v : Value} (hl : s.heap.IsTuple l items) (hu : A.units < cLine) (r : RelV y v) (f : flatV y = true) : SeqAt.EqAt A s v (.ref l) false := by
  cases y with
  | non => cases r; exact .none_tuple hl hu
  | bl b => cases r; exact .bool_tuple b hl hu
  | int i => obtain ⟨t, rfl⟩ := r; exact .int_tuple i t hl hu
  | str x => obtain ⟨t, rfl⟩ := r; exact .str_tuple x t hl hu
  | _ => exact absurd (show false = true from f) Bool.false_ne_true
theorem apart_lt (I : Inv X pins σ H s) {a : Addr} {vs ws : List V} (h : SqL X.K H a vs) (k : SqT X.K H a ws) : False := by
  obtain ⟨_, _, p1, _⟩ := I.list h
  obtain ⟨_, _, p2, _⟩ := I.tuple k
  exact SeqAt.ne_of_list_tuple p1.isList p2 rfl
theorem deep_same (I : Inv X pins σ H s) : ∀ (n : Nat) (v : V) (d d' : D), Deep X.K H n v d → Deep X.K H n v d' → eqD d d' = true
  | 0, v, d, d', ⟨e, f⟩, ⟨e', _⟩ => by subst e; subst e'; rw [eqD]; exact eqV_refl f
  | n + 1, v, d, d', h, h' => by
    have pr : ∀ (vs : List V) (ds ds' : List D), Paired (Deep X.K H n) vs ds → Paired (Deep X.K H n) vs ds' → eqDs ds ds' = true := by
      intro vs
      induction vs with
      | nil => intro ds ds' p q; cases p; cases q; rw [eqDs]
      | cons v vs ih =>
        intro ds ds' p q
        cases p with
        | cons p1 p2 => cases q with
          | cons q1 q2 => rw [eqDs, deep_same I n v _ _ p1 q1, ih _ _ p2 q2]; rfl
    rcases h with ⟨e, f⟩ | ⟨a, vs, ds, rfl, rfl, ha, p⟩ | ⟨a, vs, ds, rfl, rfl, ha, p⟩
    · rcases h' with ⟨e', _⟩ | ⟨a', vs', ds', rfl, _⟩ | ⟨a', vs', ds', rfl, _⟩
      · subst e; subst e'; rw [eqD]; exact eqV_refl f
      · exact absurd (show false = true from f) Bool.false_ne_true
      · exact absurd (show false = true from f) Bool.false_ne_true
    · rcases h' with ⟨_, f⟩ | ⟨a', vs', ds', e, rfl, ha', p'⟩ | ⟨a', vs', ds', e, rfl, ha', p'⟩
      · exact absurd (show false = true from f) Bool.false_ne_true
      · cases e
        obtain rfl := I.list_inj ha ha'
        rw [eqD]; exact pr vs ds ds' p p'
      · cases e
        exact (apart_lt I ha ha').elim
    · rcases h' with ⟨_, f⟩ | ⟨a', vs', ds', e, rfl, ha', p'⟩ | ⟨a', vs', ds', e, rfl, ha', p'⟩
      · exact absurd (show false = true from f) Bool.false_ne_true
      · cases e
        exact (apart_lt I ha' ha).elim
      · cases e
        obtain rfl := I.tuple_inj ha ha'
        rw [eqD]; exact pr vs ds ds' p p'
def eqNth (ds ds' : List D) (j : Nat) : Bool := match ds[j]?, ds'[j]? with
  | some d, some d' => eqD d d'
  | _, _ => true
theorem all_eqNth : ∀ {ds ds' : List D}, ds.length = ds'.length → (List.range ds.length).all (eqNth ds ds') = eqDs ds ds'
  | [], [], _ => by rw [eqDs]; rfl
  | d :: ds, d' :: ds', h => by
    have ih := all_eqNth (ds := ds) (ds' := ds') (by simpa using h)
    rw [List.length_cons, List.range_succ_eq_map, List.all_cons, List.all_map, eqDs]
    have e : eqNth (d :: ds) (d' :: ds') 0 = eqD d d' := rfl
    have e2 : (eqNth (d :: ds) (d' :: ds') ∘ Nat.succ) = eqNth ds ds' := funext fun j => by simp [eqNth]
    rw [e, e2, ih]
theorem paired_at {α β : Type} {F : α → β → Prop} : ∀ {l : List α} {m : List β}, Paired F l m → ∀ {j : Nat} {x : α}, l[j]? = some x → ∃ y, m[j]? = some y ∧ F x y
  | _, _, .nil, j, x, h => by simp at h
  | _, _, .cons p r, 0, x, h => by simp at h; subst h; exact ⟨_, rfl, p⟩
  | _, _, .cons p r, j + 1, x, h => by simpa using paired_at r (j := j) (by simpa using h)
theorem deep_eqAt (I : Inv X pins σ H s) : ∀ (n : Nat) (A : Around) (x y : V) (dx dy : D) (u v : Value), A.units + n < cLine → Deep X.K H n x dx → Deep X.K H n y dy → RelV x u → RelV y v → SeqAt.EqAt A s u v (eqD dx dy)
  | 0, A, x, y, dx, dy, u, v, _, ⟨e, f⟩, ⟨e', f'⟩, ru, rv => by subst e; subst e'; rw [eqD]; exact eqAt_V ru rv f f'
  | n + 1, A, x, y, dx, dy, u, v, hu, hx, hy, ru, rv => by
    have hu0 : A.units < cLine := by omega
    have items : ∀ (vs ws : List V) (ds ds' : List D) (us us' : List Value), Paired (Deep X.K H n) vs ds → Paired (Deep X.K H n) ws ds' → Vals vs us → Vals ws us' →
        ∀ j (h1 : j < us.toArray.size) (h2 : j < us'.toArray.size), SeqAt.EqAt A.in1 s us.toArray[j] us'.toArray[j] (eqNth ds ds' j) := by
      intro vs ws ds ds' us us' p q r r' j h1 h2
      have l1 := r.length
      have l2 := r'.length
      simp only [List.size_toArray] at h1 h2
      have g1 : vs[j]? = some (vs[j]'(by omega)) := List.getElem?_eq_getElem _
      have g2 : ws[j]? = some (ws[j]'(by omega)) := List.getElem?_eq_getElem _
      obtain ⟨d, hd, fd⟩ := paired_at p g1
      obtain ⟨d', hd', fd'⟩ := paired_at q g2
      obtain ⟨c, hc, rc⟩ := r.get g1
      obtain ⟨c', hc', rc'⟩ := r'.get g2
      have e1 : us.toArray[j] = c := by rw [List.getElem?_eq_getElem h1] at hc; simpa using hc
      have e2 : us'.toArray[j] = c' := by rw [List.getElem?_eq_getElem h2] at hc'; simpa using hc'
      rw [e1, e2]
      unfold eqNth
      rw [hd, hd']
      exact deep_eqAt I n A.in1 _ _ d d' c c' (by rw [Around.in1_units]; omega) fd fd' rc rc'
    rcases hx with ⟨e, f⟩ | ⟨a, vs, ds, rfl, rfl, ha, p⟩ | ⟨a, vs, ds, rfl, rfl, ha, p⟩
    · subst e
      rcases hy with ⟨e', f'⟩ | ⟨b, ws, ds', rfl, rfl, hb, q⟩ | ⟨b, ws, ds', rfl, rfl, hb, q⟩
      · subst e'; rw [eqD]; exact eqAt_V ru rv f f'
      · cases rv
        obtain ⟨_, _, pl, _⟩ := I.list hb
        rw [eqD]; exact flat_list pl.isList hu0 ru f
      · cases rv
        obtain ⟨_, _, pl, _⟩ := I.tuple hb
        rw [eqD]; exact flat_tuple pl hu0 ru f
    · cases ru
      obtain ⟨us, r1, pl, _⟩ := I.list ha
      rcases hy with ⟨e', f'⟩ | ⟨b, ws, ds', rfl, rfl, hb, q⟩ | ⟨b, ws, ds', rfl, rfl, hb, q⟩
      · subst e'; rw [eqD]; exact list_flat pl.isList hu0 rv f'
      · cases rv
        by_cases eab : a = b
        · subst eab
          have := deep_same I (n + 1) (.ref a) (.l ds) (.l ds') (.inr (.inl ⟨a, vs, ds, rfl, rfl, ha, p⟩)) (.inr (.inl ⟨a, ws, ds', rfl, rfl, hb, q⟩))
          rw [this]
          exact SeqAt.EqAt.same _
        · obtain ⟨us', r2, pl2, _⟩ := I.list hb
          have l1 := r1.length
          have l2 := r2.length
          have l3 := p.length
          have l4 := q.length
          rw [eqD]
          by_cases el : ds.length = ds'.length
          · rw [← all_eqNth el, show ds.length = us.toArray.size by simp only [List.size_toArray]; omega]
            exact .of_refs eab (.lists pl.isList pl2.isList (by simp only [List.size_toArray]; omega) hu0 (items vs ws ds ds' us us' p q r1 r2))
          · rw [eqDs_len el]
            exact .of_refs eab (.lists_lengths pl.isList pl2.isList (by simp only [List.size_toArray, bne_iff_ne, ne_eq]; omega) hu0)
      · cases rv
        obtain ⟨_, _, pl2, _⟩ := I.tuple hb
        rw [eqD]; exact .list_tuple pl.isList pl2 hu0
    · cases ru
      obtain ⟨us, r1, pl, _⟩ := I.tuple ha
      rcases hy with ⟨e', f'⟩ | ⟨b, ws, ds', rfl, rfl, hb, q⟩ | ⟨b, ws, ds', rfl, rfl, hb, q⟩
      · subst e'; rw [eqD]; exact tuple_flat pl hu0 rv f'
      · cases rv
        obtain ⟨_, _, pl2, _⟩ := I.list hb
        rw [eqD]; exact .tuple_list pl pl2.isList hu0
      · cases rv
        by_cases eab : a = b
        · subst eab
          have := deep_same I (n + 1) (.ref a) (.t ds) (.t ds') (.inr (.inr ⟨a, vs, ds, rfl, rfl, ha, p⟩)) (.inr (.inr ⟨a, ws, ds', rfl, rfl, hb, q⟩))
          rw [this]
          exact SeqAt.EqAt.same _
        · obtain ⟨us', r2, pl2, _⟩ := I.tuple hb
          have l1 := r1.length
          have l2 := r2.length
          have l3 := p.length
          have l4 := q.length
          rw [eqD]
          have key : eqDs ds ds' = ((List.range (min us.toArray.size us'.toArray.size)).all (eqNth ds ds') && us.toArray.size == us'.toArray.size) := by
            by_cases el : ds.length = ds'.length
            · rw [← all_eqNth el, show min us.toArray.size us'.toArray.size = ds.length by simp only [List.size_toArray]; omega, show (us.toArray.size == us'.toArray.size) = true by simp only [List.size_toArray, beq_iff_eq]; omega, Bool.and_true]
            · rw [eqDs_len el, show (us.toArray.size == us'.toArray.size) = false by simp only [List.size_toArray, beq_eq_false_iff_ne, ne_eq]; omega, Bool.and_false]
          rw [key]
          exact .of_refs eab (.tuples pl pl2 hu0 (items vs ws ds ds' us us' p q r1 r2))
end
end L2


namespace L2
open PySem PySem.Spec PyProof.Rows
set_option maxRecDepth 100000
section
variable {X : Cx} {pins : List (Addr × Obj)} {σ : St} {H : Hp} {s : Shared}
theorem deep_items (I : Inv X pins σ H s) {n : Nat} {A : Around} (hu : A.units + n + 1 < cLine) {vs ws : List V} {ds ds' : List D} {us us' : List Value} (p : Paired (Deep X.K H n) vs ds) (q : Paired (Deep X.K H n) ws ds') (r : Vals vs us) (r' : Vals ws us') :
    ∀ j (h1 : j < us.toArray.size) (h2 : j < us'.toArray.size), SeqAt.EqAt A.in1 s us.toArray[j] us'.toArray[j] (eqNth ds ds' j) := by
  intro j h1 h2
  have l1 := r.length
  have l2 := r'.length
  simp only [List.size_toArray] at h1 h2
  have g1 : vs[j]? = some (vs[j]'(by omega)) := List.getElem?_eq_getElem _
  have g2 : ws[j]? = some (ws[j]'(by omega)) := List.getElem?_eq_getElem _
  obtain ⟨d, hd, fd⟩ := paired_at p g1
  obtain ⟨d', hd', fd'⟩ := paired_at q g2
  obtain ⟨c, hc, rc⟩ := r.get g1
  obtain ⟨c', hc', rc'⟩ := r'.get g2
  have e1 : us.toArray[j] = c := by rw [List.getElem?_eq_getElem h1] at hc; simpa using hc
  have e2 : us'.toArray[j] = c' := by rw [List.getElem?_eq_getElem h2] at hc'; simpa using hc'
  rw [e1, e2]
  unfold eqNth
  rw [hd, hd']
  exact deep_eqAt I n A.in1 _ _ d d' c c' (by rw [Around.in1_units]; omega) fd fd' rc rc'
def kEqD (K : PySem.W.Frag) (neg : Bool) : R2 := fun x y H Q => match x, y with
  | .ref a, .ref b => ∃ n dx dy, n ≤ 100 ∧ Deep K H n (.ref a) dx ∧ Deep K H n (.ref b) dy ∧ Q (.bl (neg ^^ eqD dx dy)) H
  | _, _ => False
theorem tuple_key {us us' : List Value} {ds ds' : List D} (l1 : ds.length = us.length) (l2 : ds'.length = us'.length) : ((List.range (min us.toArray.size us'.toArray.size)).all (eqNth ds ds') && us.toArray.size == us'.toArray.size) = eqDs ds ds' := by
  by_cases el : ds.length = ds'.length
  · rw [← all_eqNth el, show min us.toArray.size us'.toArray.size = ds.length by simp only [List.size_toArray]; omega, show (us.toArray.size == us'.toArray.size) = true by simp only [List.size_toArray, beq_iff_eq]; omega, Bool.and_true]
  · rw [eqDs_len el, show (us.toArray.size == us'.toArray.size) = false by simp only [List.size_toArray, beq_eq_false_iff_ne, ne_eq]; omega, Bool.and_false]
theorem eqDE (K : PySem.W.Frag) (hK : X.K = K) {k : Nat} (hr : Room k X.A) : OpR X (compareOp .Eq) (kEqD K false) := by
  subst hK
  intro pins s σ H x y v u Q I rx ry h
  unfold kEqD at h
  split at h
  · rename_i a b
    obtain ⟨n, dx, dy, hn, hx, hy, q⟩ := h
    cases rx
    cases ry
    simp only [Bool.false_bne] at q
    have hu := hr.un
    cases n with
    | zero => exact absurd (show false = true from hx.2) Bool.false_ne_true
    | succ n =>
      rcases hx with ⟨_, f⟩ | ⟨a', vs, ds, e, rfl, ha, p⟩ | ⟨a', vs, ds, e, rfl, ha, p⟩
      · exact absurd (show false = true from f) Bool.false_ne_true
      · cases e
        obtain ⟨us, r1, pl, _⟩ := I.list ha
        have l1 := r1.length
        have l3 := p.length
        rcases hy with ⟨_, f⟩ | ⟨b', ws, ds', e, rfl, hb, p'⟩ | ⟨b', ws, ds', e, rfl, hb, p'⟩
        · exact absurd (show false = true from f) Bool.false_ne_true
        · cases e
          obtain ⟨us', r2, pl2, _⟩ := I.list hb
          have l2 := r2.length
          have l4 := p'.length
          rw [eqD] at q
          by_cases el : ds.length = ds'.length
          · refine SeqAt.eq_listAt (e := eqNth ds ds') pl.isList pl2.isList (by simp only [List.size_toArray]; omega) (by omega) (deep_items I (by omega) p p' r1 r2) ?_
            rw [show us.toArray.size = ds.length by simp only [List.size_toArray]; omega, all_eqNth el]
            exact ⟨.bl _, H, I, rfl, q⟩
          · refine SeqAt.eq_list_lengthsAt pl.isList pl2.isList (by simp only [List.size_toArray, bne_iff_ne, ne_eq]; omega) (by omega) ?_
            rw [eqDs_len el] at q
            exact ⟨.bl _, H, I, rfl, q⟩
        · cases e
          obtain ⟨us', r2, pl2, _⟩ := I.tuple hb
          rw [eqD] at q
          exact SeqAt.RcAt.list_tuple pl.isList pl2 (by omega) _ _ _ _ ⟨.bl _, H, I, rfl, q⟩
      · cases e
        obtain ⟨us, r1, pl, _⟩ := I.tuple ha
        have l1 := r1.length
        have l3 := p.length
        rcases hy with ⟨_, f⟩ | ⟨b', ws, ds', e, rfl, hb, p'⟩ | ⟨b', ws, ds', e, rfl, hb, p'⟩
        · exact absurd (show false = true from f) Bool.false_ne_true
        · cases e
          obtain ⟨us', r2, pl2, _⟩ := I.list hb
          rw [eqD] at q
          exact SeqAt.RcAt.tuple_list pl pl2.isList (by omega) _ _ _ _ ⟨.bl _, H, I, rfl, q⟩
        · cases e
          obtain ⟨us', r2, pl2, _⟩ := I.tuple hb
          have l2 := r2.length
          have l4 := p'.length
          rw [eqD] at q
          refine SeqAt.eq_tupleAt (e := eqNth ds ds') pl pl2 (by omega) (deep_items I (by omega) p p' r1 r2) ?_
          rw [tuple_key (by omega) (by omega)]
          exact ⟨.bl _, H, I, rfl, q⟩
  · exact h.elim
end
end L2


namespace L2
open PySem PySem.Spec PyProof.Rows
set_option maxRecDepth 100000
section
variable {X : Cx}
def kNeNil (K : PySem.W.Frag) : R2 := fun x y H Q => match x, y with
  | .ref a, .ref b => ∃ xs, SqL K H a xs ∧ SqL K H b [] ∧ Q (.bl (!decide (xs = []))) H
  | _, _ => False
theorem a_kNeNil {K : PySem.W.Frag} {a b : Addr} {H : Hp} {Q : VK} : kNeNil K (.ref a) (.ref b) H Q = ∃ xs, SqL K H a xs ∧ SqL K H b [] ∧ Q (.bl (!decide (xs = []))) H := rfl
theorem a_kEqD {K : PySem.W.Frag} {n : Bool} {a b : Addr} {H : Hp} {Q : VK} : kEqD K n (.ref a) (.ref b) H Q = ∃ k dx dy, k ≤ 100 ∧ Deep K H k (.ref a) dx ∧ Deep K H k (.ref b) dy ∧ Q (.bl (n ^^ eqD dx dy)) H := rfl
def kAny (K : PySem.W.Frag) : List V → Hp → VK → Prop := fun xs H Q => match xs with
  | [.ref p] => ∃ bs : List Bool, SqL K H p (bs.map V.bl) ∧ Q (.bl (bs.any id)) H
  | _ => False
theorem a_kAny {K : PySem.W.Frag} {p : Addr} {H : Hp} {Q : VK} : kAny K [.ref p] H Q = ∃ bs : List Bool, SqL K H p (bs.map V.bl) ∧ Q (.bl (bs.any id)) H := rfl
def insI (x : Int) : List Int → List Int
  | [] => [x]
  | y :: r => if x ≤ y then x :: y :: r else y :: insI x r
def srtI (l : List Int) : List Int := l.foldr insI []
def kSorted (K : PySem.W.Frag) : List V → Hp → VK → Prop := fun xs H Q => match xs with
  | [.ref p] => ∃ ns : List Int, SqL K H p (ns.map V.int) ∧ ns.length < 64 ∧ ∀ q, H q = none → Q (.ref q) (upd H q (.lst ((srtI ns).map V.int)))
  | _ => False
theorem a_kSorted {K : PySem.W.Frag} {p : Addr} {H : Hp} {Q : VK} : kSorted K [.ref p] H Q = ∃ ns : List Int, SqL K H p (ns.map V.int) ∧ ns.length < 64 ∧ ∀ q, H q = none → Q (.ref q) (upd H q (.lst ((srtI ns).map V.int))) := rfl
end
end L2


namespace L2
open PySem PySem.Spec PyProof.Rows
set_option maxRecDepth 100000
section
variable {X : Cx}
def cListRng (te : TE) : TE := fun σ H Q => te σ H fun x H1 => match x with
  | .int j => -(2 ^ 62) ≤ j ∧ j ≤ 10000 ∧ ∀ p, H1 p = none → Q (.ref p) (upd H1 p (.lst ((List.range j.toNat).map fun (i : Nat) => V.int i)))
  | _ => False
theorem a_cListRng {te : TE} {σ : St} {H : Hp} {Q : VK} : cListRng te σ H Q = te σ H fun x H1 => match x with
  | .int j => -(2 ^ 62) ≤ j ∧ j ≤ 10000 ∧ ∀ p, H1 p = none → Q (.ref p) (upd H1 p (.lst ((List.range j.toNat).map fun (i : Nat) => V.int i)))
  | _ => False := rfl
end
theorem deep_flat {K : PySem.W.Frag} {H : Hp} {v : V} (n : Nat) (f : flatV v = true) : Deep K H n v (.f v) := by
  cases n with
  | zero => exact ⟨rfl, f⟩
  | succ n => exact .inl ⟨rfl, f⟩
abbrev tx (l : List Nat) : V := V.str (st l)
end L2


namespace L2
open PySem PySem.Spec PyProof.Rows
section
variable {K : PySem.W.Frag} {g : TG} {tc : TT} {te : TE} {σc : St} {D : Addr} {Q : VK} {H : Hp}
theorem comp_rel {α : Type} (item : α → V) (xs : List α) (keep : α → Bool) (R : α → V → Hp → Prop) {p : Addr} (hfree : H D = none) (hl : SqL K H p (xs.map item)) (hn : xs.length ≤ 100000)
    (mono : ∀ x v H1 H2 acc, H1 D = some (.lst acc) → (∀ b o, b ≠ D → H1 b = some o → H2 b = some o) → R x v H1 → R x v H2)
    (hs : ∀ x H1 (out : VK) (non : Hp → Prop), x ∈ xs → Same H H1 → (∀ v H6, keep x = true → Same H1 H6 → R x v H6 → out v H6) → (∀ H5, keep x = false → Same H1 H5 → non H5) →
      g (item x) σc H1 fun σ4 H4 => tc σ4 H4 fun b H5 => if b = true then te σ4 H5 out else non H5)
    (hq : ∀ H' vs, Same H H' → H' D = some (.lst vs) → Paired (fun x v => R x v H') (xs.filter keep) vs → Q (.ref D) H') : compW (Itl K p) g tc te σc D Q H := by
  refine ⟨fun i m acc H2 => m = xs.length - i ∧ i ≤ xs.length ∧ Paired (fun x v => R x v H2) ((xs.take i).filter keep) acc ∧ Same H H2 ∧ H2 D = some (.lst acc), ⟨xs.length, by simp, Nat.zero_le _, .nil, same_new hfree _, upd_same⟩, ?_⟩
  rintro i m acc H2 ⟨rfl, hi, pr, sm, hD⟩
  have len : acc.length ≤ i := by
    have a := pr.length
    have b := List.length_filter_le keep (xs.take i)
    rw [List.length_take] at b
    omega
  by_cases hlt : i < xs.length
  · refine .inr ⟨⟨_, item xs[i], sm.seq hl, by simp [hlt]⟩, fun x H3 y => ?_⟩
    obtain ⟨rfl, y⟩ := y
    have e := y _ (sm.seq hl)
    rw [List.getElem?_map, List.getElem?_eq_getElem hlt] at e
    have e2 : item xs[i] = x := Option.some.inj e
    subst e2
    have ht : xs.take (i + 1) = xs.take i ++ [xs[i]] := by rw [List.take_add_one, List.getElem?_eq_getElem hlt]; rfl
    refine hs xs[i] _ _ _ (List.getElem_mem hlt) sm (fun v H6 k s6 r => ?_) fun H5 k s5 => ?_
    · refine ⟨s6 _ _ hD, Nat.lt_of_le_of_lt len (sizeBig (by omega)), xs.length - (i + 1), by omega, rfl, hlt, ?_, ?_, upd_same⟩
      · have m1 : ∀ x v, R x v H6 → R x v (upd H6 D (.lst (acc ++ [v]))) := fun x v r => mono x v H6 _ acc (s6 _ _ hD) (fun b o nb q => by rw [upd_ne nb]; exact q) r
        rw [ht, List.filter_append]
        have f1 : [xs[i]].filter keep = [xs[i]] := by simp [k]
        rw [f1]
        have lift : ∀ {l : List α} {vs : List V}, Paired (fun x v => R x v H3) l vs → Paired (fun x v' => R x v' (upd H6 D (.lst (acc ++ [v])))) l vs := by
          intro l vs pp
          induction pp with
          | nil => exact .nil
          | cons r _ ih => exact .cons (mono _ _ H3 _ acc hD (fun b o nb q => by rw [upd_ne nb]; exact s6 _ _ q) r) ih
        have app : ∀ {l : List α} {vs : List V} {x : α} {v' : V} {F : α → V → Prop}, Paired F l vs → F x v' → Paired F (l ++ [x]) (vs ++ [v']) := by
          intro l vs x v' F pp r
          induction pp with
          | nil => exact .cons r .nil
          | cons r' _ ih => exact .cons r' ih
        exact app (lift pr) (m1 _ _ r)
      · exact same_upd (sm.trans s6) hfree
    · refine ⟨xs.length - (i + 1), by omega, rfl, hlt, ?_, sm.trans s5, s5 _ _ hD⟩
      rw [ht, List.filter_append]
      have f1 : [xs[i]].filter keep = [] := by simp [k]
      rw [f1, List.append_nil]
      have lift : ∀ {l : List α} {vs : List V}, Paired (fun x v => R x v H3) l vs → Paired (fun x v' => R x v' H5) l vs := by
        intro l vs pp
        induction pp with
        | nil => exact .nil
        | cons r _ ih => exact .cons (mono _ _ H3 _ acc hD (fun b o _ q => s5 _ _ q) r) ih
      exact lift pr
  · have e : i = xs.length := by omega
    subst e
    rw [List.take_length] at pr
    exact .inl ⟨⟨_, sm.seq hl, by simp⟩, hq H2 acc sm hD pr⟩
end
end L2


namespace L2
open PySem PySem.Spec PyProof.Rows
section
variable {X : Cx}
def kMulL : R2 := fun x y H Q => match x, y with
  | .ref l, .int k => ∃ xs, H l = some (.lst xs) ∧ 0 ≤ k ∧ k ≤ 10000 ∧ xs.length ≤ 100 ∧ ∀ p, H p = none → Q (.ref p) (upd H p (.lst (List.replicate k.toNat xs).flatten))
  | _, _ => False
theorem a_kMulL {l : Addr} {k : Int} {H : Hp} {Q : VK} : kMulL (.ref l) (.int k) H Q = ∃ xs, H l = some (.lst xs) ∧ 0 ≤ k ∧ k ≤ 10000 ∧ xs.length ≤ 100 ∧ ∀ p, H p = none → Q (.ref p) (upd H p (.lst (List.replicate k.toNat xs).flatten)) := rfl
end
theorem a_gSub {to ti : TE} {t : TSet} {v : V} {σ : St} {H : Hp} {Q : St → Hp → Prop} : gSub to ti t v σ H Q = to σ H fun o H1 => ti σ H1 fun i H2 => t o i v H2 fun H3 => Q σ H3 := rfl
theorem a_rSetL {p : Addr} {k : Int} {v : V} {H : Hp} {Q : Hp → Prop} : rSetL (.ref p) (.int k) v H Q = ∃ xs j, H p = some (.lst xs) ∧ ixN xs.length k = some j ∧ Q (upd H p (.lst (xs.set j v))) := by
  refine propext ⟨?_, ?_⟩
  · rintro ⟨p', xs, k', j, e1, e2, h⟩
    cases e1
    cases e2
    exact ⟨xs, j, h⟩
  · rintro ⟨xs, j, h⟩
    exact ⟨p, xs, k, j, rfl, rfl, h⟩
end L2


set_option linter.all false
namespace L2
open PySem PySem.Spec PyProof.Rows
theorem starts_is (x y : Str) : Txt.startswith x y = decide (y.cps.toList <+: x.cps.toList) := by
  have key : Txt.startswith x y = true ↔ y.cps.toList <+: x.cps.toList := by
    unfold Txt.startswith Builtin.Str.subAt
    rw [Bool.and_eq_true, decide_eq_true_eq, beq_iff_eq, List.prefix_iff_eq_take]
    have e : (x.cps.extract 0 (0 + y.length)).toList = x.cps.toList.take y.cps.toList.length := by
      rw [Array.toList_extract]
      simp [Str.length, List.extract]
    constructor
    · rintro ⟨_, h⟩
      rw [← e, h]
    · intro h
      refine ⟨?_, ?_⟩
      · have := congrArg List.length h
        simp only [List.length_take, Array.length_toList] at this
        simp only [Str.length]
        omega
      · apply Array.ext'
        rw [e]
        exact h.symm
  by_cases h : y.cps.toList <+: x.cps.toList
  · rw [key.mpr h, decide_eq_true h]
  · rw [decide_eq_false h]
    cases q : Txt.startswith x y with
    | true => exact absurd (key.mp q) h
    | false => rfl
section
variable {X : Cx} {o e : Expr} {to te : TE} {apos cpos : Pos}
theorem mt_starts : MtR X "str.startswith" (fun x vs H Q => ∃ a b, x = .str a ∧ vs = [.str b] ∧ Q (.bl (decide (b.cps.toList <+: a.cps.toList))) H) := by
  intro pins s σ H x vs v us Q I rx rv h
  obtain ⟨a, b, rfl, rfl, q⟩ := h
  obtain ⟨t, rfl⟩ := rx
  obtain ⟨u, rfl, ru⟩ := rv.one
  obtain ⟨t2, rfl⟩ := ru
  refine SC.startswith ?_
  rw [starts_is]
  exact ⟨.bl _, H, I, rfl, q⟩
def cStarts (to te : TE) : TE := fun σ H Q => to σ H fun x H1 => match x with
  | .str a => te σ H1 fun y H2 => match y with
    | .str b => Q (.bl (decide (b.cps.toList <+: a.cps.toList))) H2
    | _ => False
  | _ => False
theorem qe_starts (ho : PE X o to) (he : PE X e te) (hbase : attributeBase o "startswith" X.env (eval o X.env) = eval o X.env := by rfl)
    (hfew : ((backTo cpos (starEach [e] X.env)).all (fun x => !x.1) && (backToKw cpos (keywordEach [] X.env)).all (fun x => x.1.isSome)
      && decide ([e].length + ([] : List Keyword).length + (if ([] : List Keyword).isEmpty then 0 else 1) < 30)) = true := by rfl)
    (hline : (apos.endLine == cpos.line) = true := by rfl) (hs : starEach [e] X.env = (false, eval e X.env) :: starEach [] X.env := by rfl) (hplain : (backTo cpos (starEach [] X.env)).any (·.1) = false := by rfl) :
    PE X (.Call (.Attribute o "startswith" apos) [e] [] cpos) (cStarts to te) :=
  (pe_bm PySem.F.plainAttrs_str PySem.F.slot_str_startswith PySem.F.type_str_startswith mt_starts ho.mono (pa_cons he.mono pa_nil hs) hbase hfew hline hs hplain).imp fun σ H Q q => ⟨_, q, fun x H1 z => by
    split at z
    · refine ⟨rfl, _, z, fun y H2 z2 => ?_⟩
      split at z2
      · exact ⟨_, _, rfl, rfl, z2⟩
      · exact z2.elim
    · exact z.elim⟩
theorem a_cStarts {σ : St} {H : Hp} {Q : VK} : cStarts to te σ H Q = to σ H fun x H1 => match x with
  | .str a => te σ H1 fun y H2 => match y with
    | .str b => Q (.bl (decide (b.cps.toList <+: a.cps.toList))) H2
    | _ => False
  | _ => False := rfl
end
def Itd (lo : Int) (n : Nat) : It := ⟨fun i _ => i < n, fun i H x H' => H' = H ∧ x = .int (lo - i), fun i _ => n ≤ i⟩
section
variable {X : Cx} {tg a b c : Expr} {ta tb tc : TE} {pos p : Pos}
def cRng3 (ta tb tc : TE) : TI := fun σ H R => ta σ H fun x H1 => tb σ H1 fun y H2 => tc σ H2 fun z H3 => match x, y, z with
  | .int i, .int j, .int k => k = -1 ∧ (-1000000 ≤ i ∧ i ≤ 1000000 ∧ -1000000 ≤ j ∧ j ≤ 1000000) ∧ R (Itd i (i - j).toNat) H3
  | _, _, _ => False
theorem a_cRng3 {σ : St} {H : Hp} {R : It → Hp → Prop} : cRng3 ta tb tc σ H R = ta σ H fun x H1 => tb σ H1 fun y H2 => tc σ H2 fun z H3 => match x, y, z with
  | .int i, .int j, .int k => k = -1 ∧ (-1000000 ≤ i ∧ i ≤ 1000000 ∧ -1000000 ≤ j ∧ j ≤ 1000000) ∧ R (Itd i (i - j).toNat) H3
  | _, _, _ => False := rfl
end
section
variable {g : TG} {tb : TS} {D : Ends} {σ : St} {H : Hp}
end
def Itel (K : PySem.W.Frag) (a : Addr) : It := ⟨fun i H => ∃ xs x, SqL K H a xs ∧ xs[i]? = some x, fun i H v H' => ∃ T x, v = .ref T ∧ H T = none ∧ (∀ xs, SqL K H a xs → xs[i]? = some x) ∧ H' = upd H T (.tup [.int i, x]), fun i H => ∃ xs, SqL K H a xs ∧ i = xs.length⟩
section
variable {X : Cx} {a : Expr} {ta : TE} {p pos : Pos}
def cEnumL (K : PySem.W.Frag) (te : TE) : TI := fun σ H R => te σ H fun x H1 => match x with
  | .ref l => (∃ xs, SqL K H1 l xs) ∧ R (Itel K l) H1
  | _ => False
theorem a_cEnumL {K : PySem.W.Frag} {σ : St} {H : Hp} {R : It → Hp → Prop} : cEnumL K ta σ H R = ta σ H fun x H1 => match x with
  | .ref l => (∃ xs, SqL K H1 l xs) ∧ R (Itel K l) H1
  | _ => False := rfl
end
end L2


set_option linter.all false
set_option maxRecDepth 100000
namespace L2
open PySem PySem.Spec PyProof.Rows
section
variable {prog : Program} {w : World} {A : Around} {E : Value → Shared → Prop} {s : Shared}
end
section
variable {X : Cx}
def cListRev (K : PySem.W.Frag) (te : TE) : TE := fun σ H Q => te σ H fun x H1 => match x with
  | .ref a => ∃ ys, SqL K H1 a ys ∧ ∀ p, H1 p = none → Q (.ref p) (upd H1 p (.lst ys.reverse))
  | _ => False
theorem a_cListRev {K : PySem.W.Frag} {te : TE} {σ : St} {H : Hp} {Q : VK} : cListRev K te σ H Q = te σ H fun x H1 => match x with
  | .ref a => ∃ ys, SqL K H1 a ys ∧ ∀ p, H1 p = none → Q (.ref p) (upd H1 p (.lst ys.reverse))
  | _ => False := rfl
end
end L2


set_option linter.all false
namespace L2
open PySem PySem.Spec PyProof.Rows PySem.Builtin PySem.Builtin.Str
section
variable {X : Cx}
def kSlF : V → Option Int → Option Int → Hp → VK → Prop := fun x lo hi H Q => match x, lo, hi with
  | .str z, none, some j => z.cps.toList.length ≤ 100000 ∧ 0 ≤ j ∧ Q (.str (st (z.cps.toList.take j.toNat))) H
  | _, _, _ => False
theorem a_kSlF {l : List Nat} {j : Int} {H : Hp} {Q : VK} : kSlF (.str (st l)) none (some j) H Q = (l.length ≤ 100000 ∧ 0 ≤ j ∧ Q (.str (st (l.take j.toNat))) H) := rfl
end
end L2


set_option linter.all false
namespace L2
open PySem PySem.Spec PyProof.Rows
section
variable {X : Cx}
end
end L2


set_option linter.all false
set_option maxRecDepth 100000
namespace L2
open PySem PySem.Spec PyProof.Rows

structure Fly (P : Program) (w : World) (outer : List Env) (H H' : Hp) (h h' : Heap) (ea C : Addr) : Prop where
  un : Un (frs outer) [] H H' h h'
  hok : HOk P w H' h'
  new : ∀ b o, h.get? b = some o → b ≠ ea
  fr : H' ea = none
  fl : ∃ B a0, Heap.FlyingW B outer ea (.ref C) a0 h' ∧ ∀ b, ((∃ o, h.get? b = some o) ∧ b ∉ frs outer) ∨ H' b ≠ none → ∃ o, B.get? b = some o

def XR (P : Program) (w : World) : CXT := fun outer H s E e s' =>
  ∃ ea C H', e = .ref ea ∧ 0 < s'.toks ∧ s'.os = s.os ∧ AllBare s'.gens ∧ Fly P w outer H H' s.heap s'.heap ea C ∧ E (.ref C) none H'

theorem Fly.on {P : Program} {w : World} {outer : List Env} {H H' : Hp} {h h' h2 : Heap} {ea C : Addr} (F : Fly P w outer H H' h h' ea C) {B : Heap} {a0 : Value}
    (fl1 : Heap.FlyingW B outer ea (.ref C) a0 h') (inB : ∀ b, ((∃ o, h.get? b = some o) ∧ b ∉ frs outer) ∨ H' b ≠ none → ∃ o, B.get? b = some o)
    (ff : ∀ b ∈ frs outer, H b = none) (fl2 : Heap.FlyingW B outer ea (.ref C) a0 h2) (up : h'.UpToSlots h2) : Fly P w outer H H' h h2 ea C := by
  have same : ∀ b o, ((∃ o, h.get? b = some o) ∧ b ∉ frs outer) ∨ H' b ≠ none → h'.get? b = some o → h2.get? b = some o := fun b o hb e => by
    obtain ⟨o', eB⟩ := inB b hb
    have e1 := fl1.1 b o' eB
    rw [e] at e1; cases e1
    exact fl2.1 b o eB
  have sl : ∀ b o, b ∈ frs outer → h'.get? b = some o → ∃ sl, h2.get? b = some { o with slots := sl } := fun b o hb e => by
    obtain ⟨_, o', ho', hd⟩ := fl1.2.2.1.mem hb
    rw [e] at ho'; cases ho'
    exact up b o e hd
  refine ⟨⟨fun b o e n hf hx => same b o (.inl ⟨⟨o, e⟩, hf⟩) (F.un.keep b o e n hf hx), fun b o e n hf hx => ?_, F.un.free, fun b o e hx => ?_, F.un.tups, F.un.frzs, F.un.tbls⟩, fun a o e => ?_, F.new, F.fr, B, a0, fl2, inB⟩
  · obtain ⟨s1, e1⟩ := F.un.slot b o e n hf hx
    obtain ⟨s2, e2⟩ := sl b _ hf e1
    exact ⟨s2, e2⟩
  · obtain ⟨o1, e1⟩ := F.un.there b o e hx
    by_cases hf : b ∈ frs outer
    · obtain ⟨s2, e2⟩ := sl b _ hf e1
      exact ⟨_, e2⟩
    · exact ⟨o1, same b o1 (.inl ⟨⟨o, e⟩, hf⟩) e1⟩
  · refine (F.hok a o e).stay (fun b u hb q => same b u (.inr ?_) q) (fun _ q => q) fun _ _ q => q
    rcases hb with rfl | hb
    · rw [e]; simp
    · rw [hb]; simp

section
variable {X : Cx} {pins : List (Addr × Obj)} {σ : St} {H : Hp} {s : Shared}
theorem frs_cons {env : Env} {l : List Env} {L : Addr} (hf : env.frame = some L) : frs (env :: l) = L :: frs l := by unfold frs; rw [List.filterMap_cons, hf]
theorem Inv.leave (I : Inv X pins σ H s) (hex : X.ex = []) {B h2 : Heap} {ea C : Addr} {a0 : Value} (hB : B.StaysIn s.heap) (up : s.heap.UpToSlots h2)
    (inB : ∀ b, ((∃ o, X.s₀.heap.get? b = some o) ∧ b ∉ frs X.outer) ∨ H b ≠ none → ∃ o, B.get? b = some o) (fl : Heap.FlyingW B X.outer ea (.ref C) a0 h2)
    (new : ∀ b o, X.s₀.heap.get? b = some o → b ≠ ea) (fr : H ea = none) : Fly X.prog X.w X.outer X.H₀ H X.s₀.heap h2 ea C := by
  have nx : ∀ b : Addr, b ∉ X.ex := fun b z => by rw [hex] at z; cases z
  have same : ∀ b o, ((∃ o, X.s₀.heap.get? b = some o) ∧ b ∉ frs X.outer) ∨ H b ≠ none → s.heap.get? b = some o → h2.get? b = some o := fun b o hb e => by
    obtain ⟨o', eB⟩ := inB b hb
    have e1 := hB b o' eB
    rw [e] at e1; cases e1
    exact fl.1 b o eB
  have sl : ∀ b o, b ∈ frs X.outer → s.heap.get? b = some o → ∃ sl, h2.get? b = some { o with slots := sl } := fun b o hb e => by
    obtain ⟨_, o', ho', hd⟩ := I.funs.mem hb
    rw [e] at ho'; cases ho'
    exact up b o e hd
  refine ⟨⟨fun b o e n hf _ => same b o (.inl ⟨⟨o, e⟩, hf⟩) (I.base.keep b o e n hf (nx b)), fun b o e n hf _ => ?_, fun b o e n _ => I.base.free b o e n (nx b), fun b o e _ => ?_, I.base.tups, I.base.frzs, I.base.tbls⟩, fun a o e => ?_, new, fr, B, a0, fl, inB⟩
  · obtain ⟨s1, e1⟩ := I.base.slot b o e n hf (nx b)
    obtain ⟨s2, e2⟩ := sl b _ hf e1
    exact ⟨s2, e2⟩
  · obtain ⟨o1, e1⟩ := I.base.there b o e (nx b)
    by_cases hf : b ∈ frs X.outer
    · obtain ⟨s2, e2⟩ := sl b _ hf e1
      exact ⟨_, e2⟩
    · exact ⟨o1, same b o1 (.inl ⟨⟨o, e⟩, hf⟩) e1⟩
  · refine (I.hok a o e).stay (fun b u hb q => same b u (.inr ?_) q) (fun _ q => q) fun _ _ q => q
    rcases hb with rfl | hb
    · rw [e]; simp
    · rw [hb]; simp
end

def Raises (X : Cx) (E : XK) : Prop := ∀ (pins : List (Addr × Obj)) (σ : St) (H : Hp) (s : Shared) (h' : Heap) (e C : Addr) (vs : List Value),
  Inv X pins σ H s → Heap.MadeExcOf s.heap h' e (.ref C) vs → E (.ref C) none H → X.xe (.ref e) { s with heap := h' }

section
variable {P : Program} {w : World} {K : PySem.W.Frag} {mg : Str → Option Value} {base : Heap} {N : List Str} {qual : Str} {scope : Scope} {f : Addr} {cd : Value} {A : Around} {outer : List Env} {s₀ : Shared} {H₀ : Hp} {E : XK}
theorem raises_fn : Raises (cxOf (XR P w) P w K mg base N qual scope f cd A outer s₀ H₀ E) E := by
  intro pins σ H s h' e C vs I M q
  let X : Cx := cxOf (XR P w) P w K mg base N qual scope f cd A outer s₀ H₀ E
  have I : Inv X pins σ H s := I
  have hf : X.env.frame = some X.env.locals := rfl
  have hst : X.stack = X.env :: X.outer := rfl
  show wpAny (model P w) X.A (leaving X.env (.ref e)) (fun _ s'' => XR P w outer H₀ s₀ E (.ref e) s'') (fun e' s'' => XR P w outer H₀ s₀ E e' s'') { s with heap := h' }
  have hin : ∀ env ∈ X.stack, ∀ a, env.frame = some a → a ∈ frs X.stack := fun env he a ha => List.mem_filterMap.mpr ⟨env, he, ha⟩
  refine wpAny_leaves_madeW (s := { s with heap := h' }) (base := PySem.W.hideAll s.heap (frs X.stack)) (h := s.heap) (env := X.env) (outer := X.outer) (L := X.env.locals) I.ok.frames hf (fun b o z => PySem.W.of_hideAll _ z) (PySem.W.funFrames_hide I.stack hin) M fun h2 t fl _ _ up => ?_
  have up1 : s.heap.UpToSlots h2 := (Heap.UpToSlots.of_keeps M.keeps).trans up
  have ne : ∀ b o, s.heap.get? b = some o → b ≠ e := fun b o q z => by rw [z, M.new] at q; cases q
  refine ⟨e, C, H, rfl, I.tk, I.os, I.bare, I.leave rfl (fun b o z => PySem.W.of_hideAll _ z) up1 (fun b hb => ?_) fl (fun b o z => ?_) ?_, q⟩
  · rcases hb with ⟨⟨o, eo⟩, nf⟩ | hb
    · obtain ⟨o1, e1⟩ := I.base.there b o eo (by intro z; cases z)
      refine ⟨o1, PySem.W.hideAll_get _ e1 ?_⟩
      rw [hst, frs_cons hf]
      intro z
      rcases List.mem_cons.mp z with z | z
      · exact absurd (Nat.lt_of_lt_of_le (Heap.lt_size eo) I.ok.above) (by rw [z]; exact Nat.lt_irrefl _)
      · exact nf z
    · cases eb : H b with
      | none => exact absurd eb hb
      | some u =>
        have lt := I.hok.lt eb
        cases eo : s.heap.get? b with
        | none =>
          exfalso
          have := (I.hok b u eb)
          cases u with
          | lst xs => obtain ⟨_, _, _, _, e⟩ := this; rw [eo] at e; cases e
          | tup xs => obtain ⟨_, _, _, _, e, _⟩ := this; rw [eo] at e; cases e
          | dK kvs => obtain ⟨_, _, _, _, o, _, _, e, _⟩ := this; rw [eo] at e; cases e
          | dT kvs => obtain ⟨_, _, _, _, o, _, _, e, _⟩ := this; rw [eo] at e; cases e
          | set S n => obtain ⟨o, _, _, _, e, _⟩ := this; rw [eo] at e; cases e
          | ins C dx fs => obtain ⟨_, _, _, e, _⟩ := this; rw [eo] at e; cases e
          | own y => obtain ⟨_, e⟩ := this; rw [eo] at e; cases e
          | xd fs => obtain ⟨_, ⟨_, _, _, e, _⟩, _⟩ := this; rw [eo] at e; cases e
          | rng lo hi => obtain ⟨_, _, _, e⟩ := this; rw [eo] at e; cases e
          | frz ob u => obtain ⟨e, _⟩ := this; rw [eo] at e; cases e
          | tbl ps => have e : s.heap.get? b = some _ := this; rw [eo] at e; cases e
          | met f y => have e : s.heap.get? b = some _ := this; rw [eo] at e; cases e
          | ext φ => obtain ⟨_, ⟨_, e⟩, _⟩ := this; rw [eo] at e; cases e
        | some o =>
          refine ⟨o, PySem.W.hideAll_get _ eo fun z => ?_⟩
          exact hb (I.stkFree b z)
  · obtain ⟨o1, e1⟩ := I.base.there b o z (by intro z; cases z)
    exact ne b o1 e1
  · cases eb : H e with
    | none => rfl
    | some u =>
      exfalso
      have := (I.hok e u eb)
      have eo := M.new
      cases u with
      | lst xs => obtain ⟨_, _, _, _, e⟩ := this; rw [eo] at e; cases e
      | tup xs => obtain ⟨_, _, _, _, e, _⟩ := this; rw [eo] at e; cases e
      | dK kvs => obtain ⟨_, _, _, _, o, _, _, e, _⟩ := this; rw [eo] at e; cases e
      | dT kvs => obtain ⟨_, _, _, _, o, _, _, e, _⟩ := this; rw [eo] at e; cases e
      | set S n => obtain ⟨o, _, _, _, e, _⟩ := this; rw [eo] at e; cases e
      | ins C dx fs => obtain ⟨_, _, _, e, _⟩ := this; rw [eo] at e; cases e
      | own y => obtain ⟨_, e⟩ := this; rw [eo] at e; cases e
      | xd fs => obtain ⟨_, ⟨_, _, _, e, _⟩, _⟩ := this; rw [eo] at e; cases e
      | rng lo hi => obtain ⟨_, _, _, e⟩ := this; rw [eo] at e; cases e
      | frz ob u => obtain ⟨e, _⟩ := this; rw [eo] at e; cases e
      | tbl ps => have e : s.heap.get? _ = some _ := this; rw [eo] at e; cases e
      | met f y => have e : s.heap.get? _ = some _ := this; rw [eo] at e; cases e
      | ext φ => obtain ⟨_, ⟨_, e⟩, _⟩ := this; rw [eo] at e; cases e

end
end L2


set_option linter.all false
set_option maxRecDepth 100000
namespace L2
open PySem PySem.Spec PyProof.Rows

abbrev bmV : List Value := [.type "ValueError", .type "Exception", .type "BaseException", .type "object"]
structure XCl (K : PySem.W.Frag) (C : Addr) : Prop where
  ex : PySem.W.excIn K C bmV "ValueError.__new__" = true
  ty : PySem.W.typeIn K (.ref C) = some (.type "type")
  mb : PySem.W.mroIn K C (.type "BaseException") = some true
  ga : PySem.W.findIn K (.ref C) "__getattribute__" = some (some (.builtin "BaseException.__getattribute__"))
  gh : PySem.W.findIn K (.ref C) "__getattr__" = some none
  ca : PySem.W.findIn K (.ref C) "__class__" = some (some (.builtin "object.__class__"))
  gt : PySem.W.specialIn K (.builtin "object.__class__") "__get__" = some (some (.builtin "getset_descriptor.__get__"))
  tk : PySem.W.takesIn K (.builtin "object.__class__") = some true
  mo : PySem.W.mroIn K C (.type "object") = some true

theorem XCl.own {K : PySem.W.Frag} {h : Heap} {C : Addr} (c : XCl K C) (X : K.In h) : OwnCls "x" C bmV "ValueError.__new__" (fun _ => some (.ref C)) h := by
  have q := c.ex
  refine ⟨rfl, ?_⟩
  revert q
  unfold PySem.W.excIn
  rcases hk : K.lookup C with _ | ⟨oc, odd, oda, osl⟩
  · intro q; cases q
  · intro q
    split at q
    case h_2 => cases q
    case h_1 dd cdt sl eo =>
      cases eo
      split at q
      case h_2 => cases q
      case h_1 C' bm a0 a1 a2 a3 n a5 em es =>
        simp only [Bool.and_eq_true, beq_iff_eq, Bool.not_eq_true'] at q
        obtain ⟨⟨⟨⟨⟨e1, e2⟩, e3⟩, e4⟩, e5⟩, e6⟩ := q
        subst e1 e2
        obtain ⟨f1, f2, f3, f4, f5, f6, f7, f8, f9, f10, f11⟩ := cdt
        dsimp only at em e3 e5 e6
        subst em e3
        have el : osl = #[a0, a1, a2, a3, some (.builtin "ValueError.__new__"), a5] := by
          rcases osl with ⟨l⟩
          simp only at es
          rw [es]
        subst el
        exact ⟨bm, f4, f1, f5, f2, f6, f7, f8, f9, f10, odd, a0, a1, a2, a3, a5, _, X _ _ hk, .of_isNs (PySem.W.isNs_of_in X e5), PySem.W.nsMap_none_of_in X e5 e6, PySem.W.tail_of_in X e4⟩

section
variable {X : Cx} {x : Str} {C : Addr} {np cpos pos : Pos} {e : Expr} {es : List Expr} {t : TA} {E : XK}
def tRaise (C : Addr) (E : XK) (t : TA) : TS := fun _ σ H => t σ H fun vs H1 => vs.length ≤ sizeLine ∧ E (.ref C) none H1
theorem ps_raise (hc : X.calm = true) (hx : Raises X E) (hg : Gl X x) (hm : X.mg x = some (.ref C)) (c : XCl X.K C) (ha : PA X (e :: es) t) (hdb : (x == ("__debug__" : Str)) = false := by decide)
    (he : starEach (e :: es) X.env = (false, eval e X.env) :: starEach es X.env := by rfl) (hpl : (backTo cpos (starEach es X.env)).any (·.1) = false := by rfl) :
    PS X (.Raise (some (.Call (.Name x np) (e :: es) [] cpos)) none pos) (tRaise C E t) := by
  intro pins s σ H D I h
  obtain ⟨tl, N, nm, q, bs, hdct, sn, sub, ab, col, dd, k0, k1, k2, k3, k5, mN, hC, hN, hni, T⟩ := (c.own I.mod.kin).obj
  refine wpAny_Raise_call_subU (k5 := k5) (k3 := k3) (k2 := k2) (k1 := k1) (k0 := k0) (dd := dd) (col := col) (ab := ab) (sub := sub) (sn := sn) (hdct := hdct) (bs := bs) (q := q) (C := C) (nm := nm) (N := N) (bm := tl) (mN := mN) PySem.F.excBase_ValueError (by decide) PySem.F.excBase_ValueError (T.hasType PySem.F.excBase_ValueError.hasBase) (I.ok.hd hc) ?_ hni (ld_glob I hg hm ⟨rfl, ?_⟩ hdb)
  · rw [he]
    show (false || (backTo cpos (starEach es X.env)).any (·.1)) = false
    rw [hpl]; rfl
  · have hp := ha cpos pins s σ H _ I h
    rw [he] at hp ⊢
    refine Calls.evalArgs_plain (wpAny_mono hp (fun us s2 hq => ?_) fun _ _ y => y)
    obtain ⟨vs, H1, I1, r, z, q1⟩ := hq
    exact ⟨rfl, by rw [← r.length]; exact z, I1.bk _ _ hC, hN.keeps I1.bk, T.keeps I1.bk, fun h' ea M => hx pins σ H1 s2 h' ea C us I1 M q1⟩
end

section
variable {K : PySem.W.Frag} {M : Model} {h : Heap} {C D e : Addr}
theorem XCl.isType (d : XCl K D) (X : K.In h) : PySem.W.Looks M h (isType (.ref D)) true := by
  obtain ⟨tl, N, nm, q, bs, hdct, sn, sub, ab, col, dd, k0, k1, k2, k3, k5, mN, hC, hN, hni, T⟩ := (d.own X).obj
  intro A Q E s k z
  unfold PySem.isType loadHead
  exact wpAny_bind (wpAny_loadPart (k D _ hC) (wpAny_pure z))
theorem looks_excMatches (X : K.In h) (d : XCl K D) (m : PySem.W.mroIn K C (.ref D) = some true) (he : ∃ o, h.get? e = some o ∧ o.cls = .ref C) : PySem.W.Looks M h (excMatches (.ref e) (.ref D)) true := by
  obtain ⟨oe, e1, e2⟩ := he
  have T : PySem.W.Looks M h (typeOf (.ref e)) (.ref C) := e2 ▸ (PySem.W.Looks.ld e1).andThen .now
  have TD : PySem.W.Looks M h (typeOf (.ref D)) (.type "type") := PySem.W.looks_typeIn X d.ty
  have S := PySem.W.looks_mroIn (M := M) X m
  have SB := PySem.W.looks_mroIn (M := M) X d.mb
  have NT : PySem.W.Looks M h (isInstance (.ref D) (.type "tuple")) false := TD.andThen (.of_pure tc_notTuple)
  have IE : PySem.W.Looks M h (isExcClass (.ref D)) true := by
    intro A Q E s k z
    unfold isExcClass
    refine wpAny_bind (d.isType X A _ E s k ?_)
    exact SB A Q E s k z
  intro A Q E s k q
  unfold excMatches
  refine wpAny_bind (NT A _ E s k ?_)
  simp only [Bool.false_eq_true, if_false]
  refine wpAny_bind (wpAny_pure ?_)
  simp only [List.forIn_cons, List.forIn_nil]
  refine wpAny_bind (wpAny_bind (wpAny_bind (IE A _ E s k ?_)))
  simp only [Bool.not_true, Bool.false_eq_true, if_false]
  refine wpAny_pure (wpAny_pure (wpAny_bind (T A _ E s k ?_)))
  refine wpAny_bind (wpAny_bind (wpAny_bind (S A _ E s k ?_)))
  simp only [if_true]
  exact wpAny_pure (wpAny_pure (wpAny_pure q))
end

def Cx.tries (X : Cx) (W : St → XK) (p : List (Addr × Obj)) : Cx :=
  { X with pn := X.pn ++ p, xe := fun e s' => ∃ σ H s, Inv X p σ H s ∧ XR X.prog X.w X.stack H s (W σ) e s' }
def Cx.hand (X : Cx) (ea : Addr) : Cx := { X with A := X.A.mark (some (.ref ea)), calm := false, xe := fun _ _ => False }
section
variable {X : Cx} {W : St → XK} {p pins : List (Addr × Obj)} {σ : St} {H : Hp} {s : Shared}
theorem Cx.Ok.tries (k : X.Ok) : (X.tries W p).Ok :=
  ⟨k.mod, k.kind, k.glob, k.blt, k.above, k.inj, k.has, k.cab, k.hd, k.frames, k.stk, k.exf, k.bs, k.bsz, k.noex, k.exfs, k.funs, k.frf⟩
theorem Cx.Ok.untries (k : (X.tries W p).Ok) : X.Ok :=
  ⟨k.mod, k.kind, k.glob, k.blt, k.above, k.inj, k.has, k.cab, k.hd, k.frames, k.stk, k.exf, k.bs, k.bsz, k.noex, k.exfs, k.funs, k.frf⟩
theorem Inv.tries (I : Inv X p σ H s) : Inv (X.tries W p) [] σ H s :=
  ⟨I.ok.tries, I.os, I.bare, I.base, I.loc, I.cell, I.free, I.freeC, fun q hq => I.pin q (by rw [List.append_nil] at hq; exact hq), I.hok, I.len, I.tk⟩
theorem Inv.untries (I : Inv (X.tries W p) pins σ H s) : Inv X p σ H s :=
  ⟨I.ok.untries, I.os, I.bare, I.base, I.loc, I.cell, I.free, I.freeC, fun q hq => I.pin q (List.mem_append_left _ hq), I.hok, I.len, I.tk⟩
theorem Cx.Ok.hand (k : X.Ok) (ea : Addr) : (X.hand ea).Ok :=
  ⟨k.mod, k.kind, k.glob, k.blt, k.above, k.inj, k.has, k.cab, fun z => (nomatch z), k.frames, k.stk, k.exf, k.bs, k.bsz, k.noex, k.exfs, k.funs, k.frf⟩
theorem Inv.hand (I : Inv X p σ H s) (ea : Addr) : Inv (X.hand ea) p σ H s :=
  ⟨I.ok.hand ea, I.os, I.bare, I.base, I.loc, I.cell, I.free, I.freeC, I.pin, I.hok, I.len, I.tk⟩
theorem Inv.unhand {ea : Addr} (k : X.Ok) (I : Inv (X.hand ea) p σ H s) : Inv X p σ H s :=
  ⟨k, I.os, I.bare, I.base, I.loc, I.cell, I.free, I.freeC, I.pin, I.hok, I.len, I.tk⟩
end

def PassesT (CX : CXT) (X : Cx) (W : St → XK) : Prop := ∀ (pins : List (Addr × Obj)) (σ : St) (H : Hp) (s : Shared) (e : Value) (s' : Shared), Inv X pins σ H s → CX X.stack H s (W σ) e s' → X.xe e s'
theorem passesT {X : Cx} {W : St → XK} {p : List (Addr × Obj)} : PassesT (XR X.prog X.w) (X.tries W p) W := fun _ σ H s _ _ I h => ⟨σ, H, s, I.untries, h⟩
section
variable {X : Cx} {CX : CXT} {k : Nat} {f : Addr} {fd : FuncData} {ps : List Str} {sp : Sp} {dvs : List V} {ds : List Value} {W : St → XK} {x : Str} {p pos : Pos} {e : Expr} {es : List Expr} {t : TA}
def tCallT (sp : Sp) (dvs : List V) (W : St → XK) (t : TA) : TE := fun σ H Q => t σ H fun vs H1 => sp (vs ++ dvs) H1 Q (W σ)
theorem run_fnT {pins : List (Addr × Obj)} {σ : St} {H : Hp} {s : Shared} {Q : VK} {us : List Value} {vs : List V} (F : FnOk X.prog X.w X.K X.mg X.base CX k f fd ps sp) (hr : Room k X.A) (hb : Binds X.K fd ps ds) (hd : Vals dvs ds) (hx : PassesT CX X W)
    (I : Inv X pins σ H s) (r : Vals vs us) (h : sp (vs ++ dvs) H Q (W σ)) : wpAny (model X.prog X.w) X.A (call (.ref f) us) (EP X pins σ Q) X.xe s := by
  have r2 : Vals (vs ++ dvs) (us ++ ds) := r.append hd
  have hl : ps.length = (us ++ ds).length := (F.len _ _ _ _ h).symm.trans r2.length
  have R := F.run X.A X.stack s H ⟨us, []⟩ (us ++ ds) (vs ++ dvs) Q (W σ) hr I.env0 (hb s us I.kIn hl.symm) r2 h
  refine wpAny_call (codeAny_mono R fun r s' hq => ?_)
  rcases r with er | fl
  · exact hx pins σ H s er s' I hq
  · cases fl with
    | ret u => exact I.after hq
    | _ => exact hq.elim
end

def XO (C ea : Addr) : HO := .ext fun h => ∃ o, h.get? ea = some o ∧ o.cls = .ref C
theorem XO.ok {P : Program} {w : World} {H : Hp} {h : Heap} {C ea : Addr} (e : ∃ o, h.get? ea = some o ∧ o.cls = .ref C) : ObjOk P w H h ea (XO C ea) :=
  ⟨e, let ⟨o, e1, _⟩ := e; ⟨o, e1⟩, fun _ _ ⟨o, e1, e2⟩ k => ⟨o, k o e1, e2⟩⟩

structure Caught (K : PySem.W.Frag) (C D : Addr) : Prop where
  sub : PySem.W.mroIn K C (.ref D) = some true

def tTryAs (K : PySem.W.Frag) (D : Addr) (i : Nat) (tb : (St → XK) → TS) (th : Addr → TS) : TS := fun R σ H =>
  tb (fun σ' cv _ H' => ∃ C, cv = .ref C ∧ Caught K C D ∧ ∀ ea, H' ea = none →
    th ea { nx := fun σ2 H2 => R.nx (σ2.set i none) H2, rt := R.rt, bk := fun σ2 H2 => R.bk (σ2.set i none) H2, ct := fun σ2 H2 => R.ct (σ2.set i none) H2 } (σ'.set i (some (.ref ea))) (upd H' ea (XO C ea))) R σ H

theorem Inv.unname {M : Model} {A : Around} {E : Value → Shared → Prop} {X : Cx} {pins : List (Addr × Obj)} {σ : St} {H : Hp} {s : Shared} {i : Nat} {n : Str} {pos : Pos} {Q : Unit → Shared → Prop} (I : Inv X pins σ H s) (hN : X.N.Nodup) (hi : X.N[i]? = some n) (hl : X.env.kindOf n = some .local)
    (h : ∀ s', Inv X pins (σ.set i none) H s' → Q () s') : wpAny M A (do bindName X.env n .none; unbindBehindTheSuite X.env n pos) Q E s := by
  obtain ⟨m, hn, hv⟩ := id I.loc
  have hiσ : i < σ.length := by rw [I.len]; exact (List.getElem?_eq_some_iff.mp hi).1
  refine wpAny_nameGoes_keeps hl hn (by rw [I.ok.kind]; rfl) fun h' v hn' hs => h _ ?_
  obtain ⟨oL, _, _, hoL, _⟩ := id hn
  have out : ∀ b, b < X.s₀.heap.objs.size → b ≠ X.env.locals := fun b z q => absurd (Nat.lt_of_lt_of_le z I.ok.above) (by rw [q]; exact Nat.lt_irrefl _)
  refine ⟨I.ok, I.os, I.bare, ⟨fun b o e z hb hx => (hs.2 b (out b (Heap.lt_size e))).trans (I.base.keep b o e z hb hx), fun b o e z hb hx => ?_, I.base.free, fun b o e hx => ?_, I.base.tups, I.base.frzs, I.base.tbls⟩, ⟨_, hn', fun j y v' e1 e2 e3 => ?_⟩, fun y c e => ?_, I.free, I.freeC, fun q hq => ?_, fun b ob e => ?_, by simpa using I.len, Nat.succ_pos _⟩
  · obtain ⟨sl, e1⟩ := I.base.slot b o e z hb hx
    exact ⟨sl, (hs.2 b (out b (Heap.lt_size e))).trans e1⟩
  · obtain ⟨o', e1⟩ := I.base.there b o e hx
    exact ⟨o', (hs.2 b (out b (Heap.lt_size e))).trans e1⟩
  · have hj : j ≠ i := fun z => by subst z; rw [List.getElem?_set_self hiσ] at e2; cases e2
    rw [List.getElem?_set_ne (Ne.symm hj)] at e2
    obtain ⟨u', r', q⟩ := hv j y v' e1 e2 e3
    refine ⟨u', r', ?_⟩
    rcases q with ⟨k, e⟩ | ⟨k, c, e, z⟩
    · refine .inl ⟨k, ?_⟩
      have : y ≠ n := fun e => hj (nodup_ix hN e1 (e ▸ hi))
      simp [this, e]
    · exact .inr ⟨k, c, e, z.sameBut hs (I.cne y c e)⟩
  · obtain ⟨w', z⟩ := I.cell y c e
    exact ⟨w', z.sameBut hs (I.cne y c e)⟩
  · obtain ⟨e, z, ne, nf, d⟩ := I.pin q hq
    exact ⟨(hs.2 q.1 ne).trans e, z, ne, nf, d⟩
  · refine (I.hok b ob e).stay (fun c w' hc q => (hs.2 c ?_).trans q) (fun _ q => q) fun _ _ q => q
    rintro rfl
    rcases hc with rfl | hc
    · rw [I.free] at e; cases e
    · rw [I.free] at hc; cases hc

theorem ps_tryAs {X : Cx} {body suite : List Stmt} {b₀ : Stmt} {x n : Str} {np hpos pos : Pos} {D : Addr} {i : Nat} {tb : (St → XK) → TS} {th : Addr → TS} (hb : ∀ W p, PSs (X.tries W p) body (tb W)) (hh : ∀ ea, PSs (X.hand ea) (b₀ :: suite) (th ea))
    (hst : X.stack = X.env :: X.outer) (hfr : X.env.frame = some X.env.locals) (hg : Gl X x) (hm : X.mg x = some (.ref D)) (d : XCl X.K D) (hN : X.N.Nodup) (hi : X.N[i]? = some n) (hl : X.env.kindOf n = some .local) (hdb : (x == ("__debug__" : Str)) = false := by decide) :
    PS X (.Try body [.ExceptHandler (some (.Name x np)) (some n) (b₀ :: suite) hpos] [] [] pos) (tTryAs X.K D i tb th) := by
  intro pins s σ H R I h
  refine wpAny_Try_except (wpAny_mono (hb _ pins [] s σ H R I.tries h) (fun f s1 q => ?_) fun e s1 q => ?_)
  · have q : SP X pins R f s1 := by
      cases f with
      | next => obtain ⟨σ', H', I', z⟩ := q; exact ⟨σ', H', I'.untries, z⟩
      | brk => obtain ⟨σ', H', I', z⟩ := q; exact ⟨σ', H', I'.untries, z⟩
      | cont => obtain ⟨σ', H', I', z⟩ := q; exact ⟨σ', H', I'.untries, z⟩
      | ret u => obtain ⟨v, σ', H', I', r, z⟩ := q; exact ⟨v, σ', H', I'.untries, r, z⟩
    cases f with
    | next => exact wpAny_execs_nil q
    | _ => exact q
  · obtain ⟨σ1, H1, s0, I1, ea, C, H', rfl, tk, os, bare, F, C', eC, cau, k⟩ := q
    cases eC
    obtain ⟨B, a0, fl, inB⟩ := F.fl
    have ff : ∀ b ∈ frs X.stack, H1 b = none := I1.stkFree
    have hfs : X.A.frames = some (X.env :: X.outer) := by rw [← hst]; exact I1.ok.frames
    refine wpAny_looks_onW (env := X.env) (outer := X.outer) (L := X.env.locals) hfs hfr (by rw [← hst]; exact fl) fun h4 held4 up4 => ?_
    refine wpAny_landsW held4 fun h5 fl5 up5 => ?_
    have F5 : Fly X.prog X.w X.stack H1 H' s0.heap h5 ea C := F.on fl inB ff (by rw [hst]; exact fl5) (up4.trans up5)
    have I5 : Inv X pins σ1 H' { s1 with heap := h5 } := I1.call' (s' := { s1 with heap := h5 }) os F5.un F5.hok bare (fun b z => nomatch z) tk
    refine wpAny_handleBy_cons (codeAny_handlers_test ?_) (by intro q; cases q)
    refine ld_glob (I5.hand ea) hg hm ?_ hdb
    refine looks_excMatches I5.kIn d cau.sub fl5.there _ _ _ _ (fun _ _ z => z) ?_
    refine codeAny_handlers_suite_as ?_
    refine lands_againW fl5 fun h6 fl6 up6 => ?_
    have F6 : Fly X.prog X.w X.stack H1 H' s0.heap h6 ea C := F5.on (by rw [hst]; exact fl5) inB ff (by rw [hst]; exact fl6) up6
    have ne6 : ∀ b, H' b ≠ none → b ≠ ea := fun b z q => by rw [q, F6.fr] at z; exact z rfl
    have U6 : Un (frs X.stack) [] H1 (upd H' ea (XO C ea)) s0.heap h6 := by
      refine ⟨F6.un.keep, F6.un.slot, fun b o e z hx => ?_, F6.un.there, fun b xs e => ?_, fun b o u e => ?_, fun b ps e => ?_⟩
      · rw [upd_ne (F6.new b o e)]; exact F6.un.free b o e z hx
      · have q := F6.un.tups b xs e
        rw [upd_ne (ne6 b (by rw [q]; simp))]; exact q
      · have q := F6.un.frzs b o u e
        rw [upd_ne (ne6 b (by rw [q]; simp))]; exact q
      · obtain ⟨more, q⟩ := F6.un.tbls b ps e
        exact ⟨more, by rw [upd_ne (ne6 b (by rw [q]; simp))]; exact q⟩
    have O6 : HOk X.prog X.w (upd H' ea (XO C ea)) h6 := fun b o e => by
      by_cases hbe : b = ea
      · subst hbe
        rw [upd_same] at e; cases e
        exact XO.ok fl6.there
      · rw [upd_ne hbe] at e
        refine (F6.hok b o e).stay (fun _ _ _ q => q) (fun c q => ?_) fun c xs q => ?_
        · rw [upd_ne (ne6 c (by rw [q]; simp))]; exact q
        · rw [upd_ne (ne6 c (by rw [q]; simp))]; exact q
    have I6 : Inv X pins σ1 (upd H' ea (XO C ea)) { s1 with heap := h6 } := I1.call' (s' := { s1 with heap := h6 }) os U6 O6 bare (fun b z => nomatch z) tk
    refine store_ok (X := X.hand ea) (v := .ref ea) (I6.hand ea) hN hi (.inl hl) rfl (fun s7 I7 => ?_) (.inr hl)
    refine wpAny_mono (hh ea pins s7 _ _ _ I7 (k ea F6.fr)) (fun f s8 q => ?_) fun _ _ z => z.elim
    cases f with
    | next => obtain ⟨σ', H', I', z⟩ := q; exact (I'.unhand I.ok).unname hN hi hl fun s9 I9 => ⟨_, _, I9, z⟩
    | brk => obtain ⟨σ', H', I', z⟩ := q; exact (I'.unhand I.ok).unname hN hi hl fun s9 I9 => ⟨_, _, I9, z⟩
    | cont => obtain ⟨σ', H', I', z⟩ := q; exact (I'.unhand I.ok).unname hN hi hl fun s9 I9 => ⟨_, _, I9, z⟩
    | ret u => obtain ⟨v, σ', H', I', r, z⟩ := q; exact (I'.unhand I.ok).unname hN hi hl fun s9 I9 => ⟨v, _, _, I9, r, z⟩
end L2


set_option linter.all false
set_option maxRecDepth 100000
namespace L2
open PySem PySem.Spec PySem.Calls PyProof.Rows PySem.W Builtin Builtin.ObjectAttr Builtin.Getset_descriptor
section
variable {prog : Program} {w : World} {A : Around} {E : Value → Shared → Prop} {K : PySem.W.Frag} {x C : Addr} {o : Obj} {h : Heap} {g : Array GenState} {d : Drawn} {t : Nat} {os : OsState}
theorem xget_class {R : Result → Shared → Prop} (X : K.In h) (c : XCl K C) (hx : h.get? x = some o) (hc : o.cls = .ref C) (hq : R (.ok (.ret (.ref C))) ⟨h, g, d, t, os⟩) :
    codeAny (model prog w) A (.call (.builtin "getset_descriptor.__get__") ⟨[.builtin "object.__class__", .ref x, .ref C], []⟩) R ⟨h, g, d, t, os⟩ := by
  have L0 : Looks (model prog w) h (typeOf (.ref x)) (.ref C) := hc ▸ (Looks.ld hx).andThen .now
  have L1 := looks_mroIn (M := model prog w) X c.mo
  refine codeAny_call_builtin KF.slot_gs.plain KF.entry_gs (KF.slot_gs.check _ _ _ _ _ _ _ _ KF.type_class (KF.args_gs _ _ _) ?_)
  unfold Builtin.«getset_descriptor.__get__»
  unfold descrGet
  rw [dga_obj]
  apply wpAny_bind
  apply wpAny_pure
  unfold descrGetter descrCheckInstance
  unfold descrNameAndClass
  unfold isInstance
  simp only [KF.owner_class]
  repeat lk
  refine ⟨Code.quiet_builtin _ (by decide +kernel), ?_⟩
  apply codeAny_builtin KF.entry_class
  unfold Builtin.«object.__class__»
  unfold shownTypeOf
  repeat lk
  exact hq
theorem xfind_class (X : K.In h) (c : XCl K C) : Looks (model prog w) h (find (.ref x) (.ref C) "__class__") (Found.bind (.builtin "getset_descriptor.__get__") (.builtin "object.__class__")) := by
  have L1 := looks_findIn (M := model prog w) X c.ca
  have L2 : Looks (model prog w) h (getOf (some (.builtin "object.__class__"))) (some (.builtin "getset_descriptor.__get__")) := looks_specialIn X c.gt
  have L3 : Looks (model prog w) h (dataDescriptor? (some (.builtin "object.__class__")) (some (.builtin "getset_descriptor.__get__"))) (some (.builtin "getset_descriptor.__get__", .builtin "object.__class__")) := (looks_takesIn (M := model prog w) X c.tk).andThen .now
  exact L1.andThen (L2.andThen (L3.andThen (Looks.tag .now)))
theorem xentry_class {tk : Tok} {Q : Fin → Shared → Prop} (X : K.In h) (c : XCl K C) (hx : h.get? x = some o) (hc : o.cls = .ref C) (hq : Q (.done (.ret (.ref C))) ⟨h, g, d, t, os⟩) :
    wpAny (model prog w) A (Builtin.«object.__getattribute__» ⟨[.ref x, .str "__class__" tk], []⟩) Q E ⟨h, g, d, t, os⟩ := by
  have L0 : Looks (model prog w) h (typeOf (.ref x)) (.ref C) := hc ▸ (Looks.ld hx).andThen .now
  have L1 := xfind_class (prog := prog) (w := w) (x := x) X c
  unfold Builtin.«object.__getattribute__»
  apply wpAny_bind
  apply wpAny_pure
  dsimp only
  apply wpAny_bind
  apply wpAny_pure
  refine wpAny_bind (L0.at (wpAny_bind (L1.at ?_)))
  dsimp only
  show wpAny _ _ (holding [Value.builtin "object.__class__"] (call (Value.builtin "getset_descriptor.__get__") [Value.builtin "object.__class__", .ref x, .ref C]) >>= ret) _ _ _
  exact wpAny_bind (wpAny_holding (wpAny_call (xget_class X c hx hc (wpAny_pure hq))))
theorem xcheck_ga {M : Model} {nv : Value} {Q : Unit → Shared → Prop} (X : K.In h) (c : XCl K C) (hx : h.get? x = some o) (hc : o.cls = .ref C) (hq : Q () ⟨h, g, d, t, os⟩) :
    wpAny M A (checkBuiltinCall "BaseException.__getattribute__" ⟨[.ref x, nv], []⟩) Q E ⟨h, g, d, t, os⟩ := by
  have LI : Looks M h (isInstance (.ref x) (.type "BaseException")) true := (hc ▸ (Looks.ld hx).andThen .now : Looks M h (typeOf (.ref x)) (.ref C)).andThen (looks_mroIn (M := M) X c.mb)
  have kd : builtinKind "BaseException.__getattribute__" = some .slot := by decide +kernel
  have sp : splitId "BaseException.__getattribute__" = some ("BaseException", "__getattribute__") := by decide +kernel
  have ag := PySem.F.args_bexc_ga (.ref x) nv
  simp only [checkBuiltinCall, kd, sp]
  refine wpAny_bind (LI.at ?_)
  simp only [Bool.not_true, Bool.false_eq_true, if_false]
  repeat (any_goals (first | assumption | wp_step))
theorem xclass_by {tk : Tok} {Q : Value → Shared → Prop} (X : K.In h) (c : XCl K C) (hx : h.get? x = some o) (hc : o.cls = .ref C) (hq : Q (.ref C) ⟨h, g, d, t, os⟩) :
    wpAny (model prog w) A (getAttrBy (.ref x) (.str "__class__" tk) false) Q E ⟨h, g, d, t, os⟩ := by
  have L0 : Looks (model prog w) h (typeOf (.ref x)) (.ref C) := hc ▸ (Looks.ld hx).andThen .now
  have L1 := looks_findIn (M := model prog w) X c.ga
  have L2 := looks_findIn (M := model prog w) X c.gh
  have L3 := looks_mroIn (M := model prog w) X c.mb
  have LI : Looks (model prog w) h (isInstance (.ref x) (.type "BaseException")) true := L0.andThen L3
  unfold getAttrBy
  refine wpAny_holding (wpAny_bind (L0.at (wpAny_bind (L1.at ?_))))
  dsimp only
  have nga : (Value.builtin "BaseException.__getattribute__" == Value.builtin "object.__getattribute__") = false := by decide +kernel
  rw [if_neg (by rw [nga, Bool.and_false]; decide)]
  unfold getAttrByItsOwn hookBefore
  refine wpAny_bind (L2.at ?_)
  refine wpAny_bind (wpAny_attempt (wpAny_holding ?_))
  unfold callGetattribute
  rw [if_neg (by decide)]
  unfold boundAndCalled
  rw [PySem.F.attrBase_ValueError.ga.bind]
  refine wpAny_bind (wpAny_pure ?_)
  refine wpAny_call (codeAny_call_builtin PySem.F.attrBase_ValueError.ga.plain PySem.F.entry_bexc_ga ?_)
  refine xcheck_ga X c hx hc ?_
  have ok : wpAny (model prog w) A.in1 (Builtin.«object.__getattribute__» ⟨[.ref x, .str "__class__" tk], []⟩) (fun fin s' => fin = .done (.ret (.ref C)) ∧ s' = ⟨h, g, d, t, os⟩) (fun _ _ => False) ⟨h, g, d, t, os⟩ := xentry_class X c hx hc ⟨rfl, rfl⟩
  refine wpAny_mono ok (fun fin s' z => ?_) fun _ _ z => z.elim
  obtain ⟨rfl, rfl⟩ := z
  dsimp only
  exact handed_on rfl hq
theorem xclass_attr {Q : Option Value → Shared → Prop} (X : K.In h) (c : XCl K C) (hx : h.get? x = some o) (hc : o.cls = .ref C) (hq : Q (some (.ref C)) ⟨h, g, d, t + 1, os⟩) :
    wpAny (model prog w) A (getAttr? (.ref x) "__class__") Q E ⟨h, g, d, t, os⟩ := by
  unfold getAttr? getAttrBy?
  refine wpAny_bind (wpAny_mkText ?_)
  refine wpAny_bind (wpAny_attempt (xclass_by X c hx hc ?_))
  exact wpAny_pure hq
theorem kitx_exc (c : XCl K C) : KitX K (.ref x) (.ref C) (fun h => ∃ o, h.get? x = some o ∧ o.cls = .ref C) where
  ty := fun _ _ _ ⟨_, e1, e2⟩ => e2 ▸ (Looks.ld e1).andThen .now
  it := fun _ _ X _ => c.isType X
  ne := fun h tp dd its n sl X htp => by
    obtain ⟨tl, N, nm, q, bs, hdct, sn, sub, ab, col, dd', k0, k1, k2, k3, k5, mN, hC, _⟩ := (c.own X).obj
    refine Bool.eq_false_iff.mpr fun q => ?_
    have e : C = tp := Value.ref.inj (beq_iff_eq.mp q)
    rw [e] at hC
    have z := congrArg Obj.data (Option.some.inj (hC.symm.trans htp))
    cases z
  ca := fun {_ _ _ _ _ s} X ⟨_, e1, e2⟩ k => by
    obtain ⟨h, g, d, t, os⟩ := s
    exact xclass_attr X c e1 e2 k
end

theorem kit_exc {K : PySem.W.Frag} {C D : Addr} {b : Bool} (c : XCl K D) (m : mroIn K C (.ref D) = some b) (hb : b = false → C ≠ D) : kitOne K (.ref C) (.ref D) = some b := by
  unfold kitOne
  by_cases q : ((Value.ref C == Value.ref D) = true)
  · rw [if_pos q]
    have e : C = D := Value.ref.inj (beq_iff_eq.mp q)
    cases b with
    | true => rfl
    | false => exact absurd e (hb rfl)
  · rw [if_neg q]
    unfold kitCls
    dsimp only
    have hc : (clsIn K D).isSome = true := by
      have := c.mb
      unfold mroIn at this
      cases e : clsIn K D with
      | none => rw [e] at this; cases this
      | some cd => rfl
    rw [if_pos (by rw [hc, c.ty]; simp)]
    exact m
theorem kit_excV {K : PySem.W.Frag} {C : Addr} {b : Bool} (m : mroIn K C (.type "ValueError") = some b) : kitOne K (.ref C) (.type "ValueError") = some b := by
  unfold kitOne
  rw [if_neg (by intro q; cases beq_iff_eq.mp q)]
  unfold kitCls
  dsimp only
  rw [if_pos (by decide +kernel)]
  exact m
section
variable {X : Cx} {pins : List (Addr × Obj)} {σ : St} {H : Hp} {s : Shared}
theorem Inv.exc (I : Inv X pins σ H s) {ea C : Addr} (e : H ea = some (XO C ea)) : ∃ o, s.heap.get? ea = some o ∧ o.cls = .ref C := (I.hok ea _ e).1
def V.cv : V → Option Value
  | .ref a => some (.ref a)
  | .ty n => some (.type n)
  | _ => none
theorem V.cv_of {v : V} {u c : Value} (r : RelV v u) (e : v.cv = some c) : u = c := by
  cases v with
  | ref a => cases e; exact r
  | ty n => cases e; exact r
  | _ => cases e
theorem call_isiX : CallR X (.builtin "isinstance") (fun xs H Q => ∃ ea C v d b, xs = [.ref ea, v] ∧ v.cv = some d ∧ H ea = some (XO C ea) ∧ XCl X.K C ∧ kitOne X.K (.ref C) d = some b ∧ Q (.bl b) H) := by
  intro pins s σ H xs us Q I r h
  obtain ⟨ea, C, v, d, b, rfl, ev, e, c, m, q⟩ := h
  obtain ⟨u, u', rfl, r1, r2⟩ := vals2 r
  cases r1
  cases V.cv_of r2 ev
  exact tokQ I.tk (kia_one (kitx_exc c) I.kIn (I.exc e) m (fun z => nomatch z) fun tk (htk : 0 < tk) => ⟨.bl b, H, I.tok _, rfl, q⟩)
theorem vals_cv : ∀ {xs : List V} {us ds : List Value}, Vals xs us → xs.map V.cv = ds.map some → us = ds
  | [], _, [], .nil, _ => rfl
  | [], _, _ :: _, .nil, e => by cases e
  | _ :: _, _, [], .cons _ _, e => by cases e
  | x :: xs, _, d :: ds, .cons r t, e => by
    simp only [List.map_cons, List.cons.injEq] at e
    rw [V.cv_of r e.1, vals_cv t e.2]
theorem call_isiXT : CallR X (.builtin "isinstance") (fun xs H Q => ∃ ea C t vs ds b, xs = [.ref ea, .ref t] ∧ H t = some (.tup vs) ∧ vs.map V.cv = ds.map some ∧ H ea = some (XO C ea) ∧ XCl X.K C ∧ kitAny X.K (.ref C) ds = some b ∧ Q (.bl b) H) := by
  intro pins s σ H xs us Q I r h
  obtain ⟨ea, C, t, vs, ds, b, rfl, et, ev, e, c, m, q⟩ := h
  obtain ⟨u, u', rfl, r1, r2⟩ := vals2 r
  cases r1
  cases r2
  obtain ⟨_, its, rv, o, ho, hoc, n, hod⟩ := I.hok t _ et
  cases vals_cv rv ev
  obtain ⟨oc, od, oda, osl⟩ := o
  cases hoc
  cases hod
  exact tokQ I.tk (kia_tup (kitx_exc c) I.kIn (I.exc e) ho m (fun z => nomatch z) fun tk (htk : 0 < tk) => ⟨.bl b, H, I.tok _, rfl, q⟩)
end
end L2


set_option linter.all false
set_option maxRecDepth 100000
namespace L2
open PySem PySem.Spec PyProof.Rows
def CalleeX (P : Program) (w : World) (K : PySem.W.Frag) (mg : Str → Option Value) (base : Heap) (k : Nat) (x : Str) (ps : List Str) (sp : Sp) : Prop :=
  ∃ f fd, FnOk P w K mg base (XR P w) k f fd ps sp ∧ Binds K fd ps [] ∧ PySem.W.keepIn K (.ref f) = true ∧ mg x = some (.ref f)
theorem Fn.calX {P : Program} {w : World} {K : PySem.W.Frag} {mg : Str → Option Value} {base : Heap} {x : Str} {st : Stmt} {N ps : List Str} {k : Nat} {sp : Sp} (F : Fn K mg x st) (S : FnScope N ps (defScope st)) (len : ∀ vs H Q E, sp vs H Q E → vs.length = ps.length)
    (hb : ∀ (kV doc pm : Value) (an : Option Addr) (cdv ct : Value) (us : List Value), us.length = ps.length → bindArgs (PySem.W.fnOf x x (defArgs st) (defBody st) (defScope st) .none kV doc pm an cdv ct) ⟨us, []⟩ = pure (ps.zip us))
    (hbody : ∀ (f : Addr) (cdv : Value) (A : Around) (outer : List Env) (s : Shared) (H : Hp) (vs : List V) (Q : VK) (E : XK), Room k (A.deeper (envOfC x (defScope st) s.heap.objs.size f cdv)) → sp vs H Q E →
      ∃ t, PSs (cxOf (XR P w) P w K mg base N x (defScope st) f cdv A outer s H E) (defBody st) t ∧ t { nx := fun _ H' => Q .non H', rt := Q } (start N vs) H) : CalleeX P w K mg base (k + 1) x ps sp := by
  obtain ⟨f, fd, F, m⟩ := F
  have hB := F.binds hb
  have hK := F.kp
  obtain ⟨oc, od, kV, doc, pm, an, cdv, ct, osl, rfl, lk, hcd⟩ := F.ex
  exact ⟨f, _, fn_of lk hcd S len (hbody f cdv), hB, hK, m⟩
section
variable {X : Cx} {k : Nat} {x : Str} {ps : List Str} {sp : Sp} {p pos : Pos} {e : Expr} {es : List Expr} {t : TA} {E : XK} {W : St → XK}
theorem CalleeX.calm {P : Program} {w : World} {K : PySem.W.Frag} {mg : Str → Option Value} {base : Heap} {k : Nat} {x : Str} {ps : List Str} {sp : Sp} (C : CalleeX P w K mg base k x ps sp) :
    Callee P w K mg base k x ps (fun vs H Q _ => sp vs H Q E0) := by
  obtain ⟨f, fd, F, b, kp, m⟩ := C
  refine ⟨f, fd, ⟨fun vs H Q _ h => F.len vs H Q E0 h, fun A outer s H args us vs Q E hr e0 hb hv h => ?_⟩, b, kp, m⟩
  refine codeAny_mono (F.run A outer s H args us vs Q E0 hr e0 hb hv h) fun r s' q => ?_
  rcases r with er | fl
  · obtain ⟨_, _, _, _, _, _, _, _, z⟩ := q
    exact z.elim
  · cases fl with
    | ret u => exact q
    | _ => exact q.elim
end
theorem PS.nox {X : Cx} {st : Stmt} {t : TS} (h : PS X.nox st t) : PS X st t := fun pins s σ H D I hw =>
  wpAny_mono (h pins s σ H D (I.wish _) hw) (fun _ _ q => q.unwish) fun _ _ z => z.elim
theorem PS.calm {X : Cx} {st : Stmt} {t : TS} (h : PS X.nox st t) : PS X st t := PS.nox h

section
variable {X : Cx} {a c : Expr} {es : List Expr} {ta : TE} {pos p tpos : Pos} {x1 : Nat}
def cIsX (K : PySem.W.Frag) (d : Value) (ta : TE) : TE := fun σ H Q => ta σ H fun x H1 => match x with
  | .ref ea => ∃ C b, H1 ea = some (XO C ea) ∧ XCl K C ∧ PySem.W.kitOne K (.ref C) d = some b ∧ Q (.bl b) H1
  | _ => False
theorem qe_isiX {v : V} {d : Value} (K : PySem.W.Frag) (hK : X.K = K) (ev : v.cv = some d) (hg : Gl X "isinstance") (hm : X.mg "isinstance" = none) (ha : PE X a ta) (hc : PE X c (tC v))
    (hs : starEach [a, c] X.env = (false, eval a X.env) :: starEach [c] X.env := by rfl) (hs2 : starEach [c] X.env = (false, eval c X.env) :: starEach [] X.env := by rfl) (hpl : (backTo pos (starEach [c] X.env)).any (·.1) = false := by rfl) : PE X (.Call (.Name "isinstance" p) [a, c] [] pos) (cIsX K d ta) := by
  subst hK
  refine (pe_callB call_isiX hg hm bb_isinstance (pa_cons ha.mono (pa_cons hc pa_nil hs2) hs) (he := hs) (hpl := hpl)).imp fun σ H Q q => ⟨_, q, fun x H1 z => ?_⟩
  split at z
  · obtain ⟨C, b, h1, h2, h3, z⟩ := z
    exact ⟨_, C, v, d, b, rfl, ev, h1, h2, h3, z⟩
  · exact z.elim
def tCs (vs : List V) : TA := fun _ H Q => Q vs H
theorem pac_nil : PA X [] (tCs []) := pa_nil
theorem pac_cons {v : V} {vs : List V} (ha : PE X a (tC v)) (hr : PA X es (tCs vs)) (hs : starEach (a :: es) X.env = (false, eval a X.env) :: starEach es X.env := by rfl) : PA X (a :: es) (tCs (v :: vs)) := pa_cons ha hr hs
def cIsXT (K : PySem.W.Frag) (vs : List V) (ds : List Value) (ta : TE) : TE := fun σ H Q => ta σ H fun x H1 => match x with
  | .ref ea => ∃ C b, H1 ea = some (XO C ea) ∧ XCl K C ∧ PySem.W.kitAny K (.ref C) ds = some b ∧ ∀ p, H1 p = none → Q (.bl b) (upd H1 p (.tup vs))
  | _ => False
theorem qe_isiXT {vs : List V} {ds : List Value} (K : PySem.W.Frag) (hK : X.K = K) (ev : vs.map V.cv = ds.map some) (hz : vs.length ≤ sizeLine) (hg : Gl X "isinstance") (hm : X.mg "isinstance" = none) (ha : PE X a ta) (hc : PA X es (tCs vs))
    (hs : starEach [a, .Tuple es x1 tpos] X.env = (false, eval a X.env) :: starEach [.Tuple es x1 tpos] X.env := by rfl) (hs2 : starEach [.Tuple es x1 tpos] X.env = (false, eval (.Tuple es x1 tpos) X.env) :: starEach [] X.env := by rfl) (hpl : (backTo pos (starEach [.Tuple es x1 tpos] X.env)).any (·.1) = false := by rfl) :
    PE X (.Call (.Name "isinstance" p) [a, .Tuple es x1 tpos] [] pos) (cIsXT K vs ds ta) := by
  subst hK
  refine (pe_callB call_isiXT hg hm bb_isinstance (pa_cons ha.mono (pa_cons (pe_tup hc) pa_nil hs2) hs) (he := hs) (hpl := hpl)).imp fun σ H Q q => ⟨_, q, fun x H1 z => ⟨hz, fun q0 hq0 => ?_⟩⟩
  split at z
  · obtain ⟨C, b, h1, h2, h3, z⟩ := z
    exact ⟨_, C, q0, vs, ds, b, rfl, upd_same, ev, by rw [upd_ne (ne_of_none h1 hq0)]; exact h1, h2, h3, z q0 hq0⟩
  · exact z.elim
end
theorem kitAny_nil {K : PySem.W.Frag} {t : Value} : PySem.W.kitAny K t [] = some false := rfl
theorem kitAny_no {K : PySem.W.Frag} {t c : Value} {r : List Value} (h : PySem.W.kitOne K t c = some false) : PySem.W.kitAny K t (c :: r) = PySem.W.kitAny K t r := by
  rw [PySem.W.kitAny, h]

abbrev TJ := Nat → St → Hp → (Hp → Prop) → Prop
def PJ (X : Cx) (es : List Expr) (t : TJ) : Prop := ∀ (acc : Str) (pins : List (Addr × Obj)) (s : Shared) (σ : St) (H : Hp) (Q : Hp → Prop), acc.length ≤ sizeLine → Inv X pins σ H s → t acc.length σ H Q →
  Joins (model X.prog X.w) X.A X.xe (evalEach es X.env) acc (fun out s1 => out.length ≤ sizeLine ∧ ∃ H1, Inv X pins σ H1 s1 ∧ Q H1) s
def jNil : TJ := fun _ _ H Q => Q H
def jCons (te : TE) (tj : TJ) : TJ := fun n σ H Q => te σ H fun x H1 => match x with
  | .str y => n + y.length ≤ sizeLine ∧ tj (n + y.length) σ H1 Q
  | _ => False
section
variable {X : Cx} {e v1 v2 : Expr} {es rest : List Expr} {te : TE} {tj : TJ} {pos : Pos}
theorem pj_nil : PJ X [] jNil := fun acc pins s σ H Q hz I q => ⟨hz, H, I, q⟩
theorem pj_cons (he : PE X e te) (hr : PJ X es tj) (hs : evalEach (e :: es) X.env = eval e X.env :: evalEach es X.env := by rfl) : PJ X (e :: es) (jCons te tj) := by
  intro acc pins s σ H Q hz I q
  rw [hs]
  refine thn (he pins s σ H _ I q) fun u s1 ⟨x, H1, I1, r, z⟩ => ?_
  dsimp only at z
  split at z
  · rename_i y
    obtain ⟨t, rfl⟩ := r
    have hl : (acc ++ y).length = acc.length + y.length := strLen_append _ _
    exact ⟨y, t, rfl, by rw [hl]; exact z.1, hr (acc ++ y) pins s1 σ H1 Q (by rw [hl]; exact z.1) I1 (by rw [hl]; exact z.2)⟩
  · exact z.elim
def cFS (tj : TJ) : TE := fun σ H Q => tj 0 σ H fun H1 => ∀ z, Q (.str z) H1
theorem pe_fs (h : PJ X (v1 :: v2 :: rest) tj) : PE X (.JoinedStr (v1 :: v2 :: rest) pos) (cFS tj) := by
  intro pins s σ H Q I q
  have J := h Str.empty pins s σ H _ (by decide) I q
  refine wpAny_JoinedStr ?_
  have mono : ∀ {P R : Str → Shared → Prop} (l : List (Sem Value)) (acc : Str) (s : Shared), (∀ o s, P o s → R o s) → Joins (model X.prog X.w) X.A X.xe l acc P s → Joins (model X.prog X.w) X.A X.xe l acc R s := by
    intro P R l
    induction l with
    | nil => intro acc s k z; exact k _ _ z
    | cons x r ih =>
      intro acc s k z
      exact thn z fun v s1 ⟨y, t, e, hz, z⟩ => ⟨y, t, e, hz, ih _ _ k z⟩
  exact mono _ _ _ (fun out s1 ⟨hz, H1, I1, z⟩ => ⟨hz, ⟨.str out, H1, I1.tok _, ⟨_, rfl⟩, z out⟩⟩) J
def cFmtR (tv : TE) : TE := fun σ H Q => tv σ H fun x H1 => match x with
  | .str y => (∀ c ∈ y.cps.toList, c < 16 ^ 8) ∧ y.length ≤ 100000 ∧ ∀ z : Str, z.length ≤ 10 * y.length + 2 → Q (.str z) H1
  | _ => False
end
end L2


set_option linter.all false
set_option maxRecDepth 100000
namespace L2
open PySem PySem.Spec PyProof.Rows
def xA (K : PySem.W.Frag) (x : Str) : Addr := match PySem.W.nsIn K mainGlobals x with
  | some (some (.ref a)) => a
  | _ => 0
theorem xA_eq {K : PySem.W.Frag} {x : Str} {C : Addr} (e : PySem.W.nsIn K mainGlobals x = some (some (.ref C))) : xA K x = C := by unfold xA; rw [e]
def Xn (K : PySem.W.Frag) (mg : Str → Option Value) (x : Str) : Prop := mg x = some (.ref (xA K x)) ∧ XCl K (xA K x)
def Xm (K : PySem.W.Frag) (x y : Str) (b : Bool) : Prop := PySem.W.mroIn K (xA K x) (.ref (xA K y)) = some b ∧ (b = false → xA K x ≠ xA K y)
def Xv (K : PySem.W.Frag) (x : Str) : Prop := PySem.W.mroIn K (xA K x) (.type "ValueError") = some true
theorem Xn.kit {K : PySem.W.Frag} {mg : Str → Option Value} {x y : Str} {b : Bool} (m : Xm K x y b) (n : Xn K mg y) : PySem.W.kitOne K (.ref (xA K x)) (.ref (xA K y)) = some b := kit_exc n.2 m.1 m.2
theorem Xv.kit {K : PySem.W.Frag} {x : Str} (m : Xv K x) : PySem.W.kitOne K (.ref (xA K x)) (.type "ValueError") = some true := kit_excV m
theorem Xm.caught {K : PySem.W.Frag} {x y : Str} (m : Xm K x y true) : Caught K (xA K x) (xA K y) := ⟨m.1⟩
theorem bb_ValueError : bootBuiltins "ValueError" = some (.type "ValueError") := by decide +kernel
section
variable {K : PySem.W.Frag} {h : Heap} {mg : Str → Option Value} {x y : Str} {C D : Addr}
theorem xn_mk (X : K.In h) (G : h.Ns mainGlobals mg) (n : PySem.W.nsIn K mainGlobals x = some (some (.ref C))) (ex : PySem.W.excIn K C bmV "ValueError.__new__" = true) (ty : PySem.W.typeIn K (.ref C) = some (.type "type")) (mb : PySem.W.mroIn K C (.type "BaseException") = some true)
    (ga : PySem.W.findIn K (.ref C) "__getattribute__" = some (some (.builtin "BaseException.__getattribute__"))) (gh : PySem.W.findIn K (.ref C) "__getattr__" = some none) (ca : PySem.W.findIn K (.ref C) "__class__" = some (some (.builtin "object.__class__"))) (mo : PySem.W.mroIn K C (.type "object") = some true)
    (gt : PySem.W.specialIn K (.builtin "object.__class__") "__get__" = some (some (.builtin "getset_descriptor.__get__"))) (tk : PySem.W.takesIn K (.builtin "object.__class__") = some true) : Xn K mg x := by
  unfold Xn
  rw [xA_eq n]
  exact ⟨PySem.W.mg_of X G n, ⟨ex, ty, mb, ga, gh, ca, gt, tk, mo⟩⟩
theorem xm_mk {b : Bool} (n : PySem.W.nsIn K mainGlobals x = some (some (.ref C))) (n' : PySem.W.nsIn K mainGlobals y = some (some (.ref D))) (m : PySem.W.mroIn K C (.ref D) = some b) (d : b = false → C ≠ D) : Xm K x y b := by
  unfold Xm
  rw [xA_eq n, xA_eq n']
  exact ⟨m, d⟩
theorem xv_mk (n : PySem.W.nsIn K mainGlobals x = some (some (.ref C))) (m : PySem.W.mroIn K C (.type "ValueError") = some true) : Xv K x := by
  unfold Xv
  rw [xA_eq n]
  exact m
end
theorem qe_cls {X : Cx} {K : PySem.W.Frag} {x : Str} {pos : Pos} (n : Xn K X.mg x) (hg : Gl X x) (hd : (x == ("__debug__" : Str)) = false := by decide) : PE X (.Name x pos) (tC (.ref (xA K x))) := pe_glob (v := .ref (xA K x)) hg n.1 rfl hd
theorem a_tCallT {sp : Sp} {W : St → XK} {t : TA} {σ : St} {H : Hp} {Q : VK} : tCallT sp [] W t σ H Q = t σ H fun vs H1 => sp vs H1 Q (W σ) := by
  unfold tCallT
  simp only [List.append_nil]
theorem a_tRaise {C : Addr} {E : XK} {t : TA} {D : Ends} {σ : St} {H : Hp} : tRaise C E t D σ H = t σ H fun vs H1 => vs.length ≤ sizeLine ∧ E (.ref C) none H1 := rfl
theorem a_cFS {tj : TJ} {σ : St} {H : Hp} {Q : VK} : cFS tj σ H Q = tj 0 σ H fun H1 => ∀ z, Q (.str z) H1 := rfl
theorem a_jNil {n : Nat} {σ : St} {H : Hp} {Q : Hp → Prop} : jNil n σ H Q = Q H := rfl
theorem a_jCons {te : TE} {tj : TJ} {n : Nat} {σ : St} {H : Hp} {Q : Hp → Prop} : jCons te tj n σ H Q = te σ H fun x H1 => match x with
  | .str y => n + y.length ≤ sizeLine ∧ tj (n + y.length) σ H1 Q
  | _ => False := rfl
theorem a_cFmtR {tv : TE} {σ : St} {H : Hp} {Q : VK} : cFmtR tv σ H Q = tv σ H fun x H1 => match x with
  | .str y => (∀ c ∈ y.cps.toList, c < 16 ^ 8) ∧ y.length ≤ 100000 ∧ ∀ z : Str, z.length ≤ 10 * y.length + 2 → Q (.str z) H1
  | _ => False := rfl
theorem a_cIsX {K : PySem.W.Frag} {d : Value} {ta : TE} {σ : St} {H : Hp} {Q : VK} : cIsX K d ta σ H Q = ta σ H fun x H1 => match x with
  | .ref ea => ∃ C b, H1 ea = some (XO C ea) ∧ XCl K C ∧ PySem.W.kitOne K (.ref C) d = some b ∧ Q (.bl b) H1
  | _ => False := rfl
theorem a_cIsXT {K : PySem.W.Frag} {vs : List V} {ds : List Value} {ta : TE} {σ : St} {H : Hp} {Q : VK} : cIsXT K vs ds ta σ H Q = ta σ H fun x H1 => match x with
  | .ref ea => ∃ C b, H1 ea = some (XO C ea) ∧ XCl K C ∧ PySem.W.kitAny K (.ref C) ds = some b ∧ ∀ p, H1 p = none → Q (.bl b) (upd H1 p (.tup vs))
  | _ => False := rfl
theorem a_tTryAs {K : PySem.W.Frag} {D : Addr} {i : Nat} {tb : (St → XK) → TS} {th : Addr → TS} {R : Ends} {σ : St} {H : Hp} : tTryAs K D i tb th R σ H =
  tb (fun σ' cv _ H' => ∃ C, cv = .ref C ∧ Caught K C D ∧ ∀ ea, H' ea = none →
    th ea { nx := fun σ2 H2 => R.nx (σ2.set i none) H2, rt := R.rt, bk := fun σ2 H2 => R.bk (σ2.set i none) H2, ct := fun σ2 H2 => R.ct (σ2.set i none) H2 } (σ'.set i (some (.ref ea))) (upd H' ea (XO C ea))) R σ H := rfl
end L2


set_option linter.all false
namespace L2
open PySem PySem.Spec PyProof.Rows PySem.Builtin PySem.Builtin.Str
section
variable {X : Cx}
def kSlB : V → Option Int → Option Int → Hp → VK → Prop := fun x lo hi H Q => match x, lo, hi with
  | .str z, some i, some j => z.cps.toList.length ≤ 100000 ∧ 0 ≤ i ∧ i ≤ j ∧ j ≤ z.cps.toList.length ∧ Q (.str (st ((z.cps.toList.drop i.toNat).take (j.toNat - i.toNat)))) H
  | _, _, _ => False
theorem a_kSlB {l : List Nat} {i j : Int} {H : Hp} {Q : VK} : kSlB (.str (st l)) (some i) (some j) H Q = (l.length ≤ 100000 ∧ 0 ≤ i ∧ i ≤ j ∧ j ≤ l.length ∧ Q (.str (st ((l.drop i.toNat).take (j.toNat - i.toNat)))) H) := rfl
end
end L2


set_option linter.all false
namespace L2
open PySem PySem.Spec PyProof.Rows
section
variable {K : PySem.W.Frag} {g : TG} {tc : TT} {te : TE} {σc : St} {D : Addr} {Q : VK} {H : Hp}
end
end L2


set_option linter.all false
set_option maxRecDepth 100000
namespace L2
open PySem PySem.Spec PyProof.Rows
structure RoomH (k : Nat) (A : Around) : Prop where
  dp : A.depth + 3 * k + 5 < recursionLimit
  un : A.units + 16 * k + 200 < cLine
theorem Room.h {k : Nat} {A : Around} (r : Room k A) : RoomH k A := ⟨r.dp, r.un⟩
theorem RoomH.mark {k : Nat} {A : Around} (r : RoomH k A) (v : Option Value) : RoomH k (A.mark v) := ⟨r.dp, r.un⟩
theorem RoomH.mono {j k : Nat} {A : Around} (r : RoomH k A) (h : j ≤ k) : RoomH j A := ⟨by have := r.dp; omega, by have := r.un; omega⟩
def Cx.loud (X : Cx) : Cx := { X with calm := false, xe := fun _ _ => False }
theorem Inv.loud {X : Cx} {p : List (Addr × Obj)} {σ : St} {H : Hp} {s : Shared} (I : Inv X p σ H s) : Inv X.loud p σ H s :=
  ⟨⟨I.ok.mod, I.ok.kind, I.ok.glob, I.ok.blt, I.ok.above, I.ok.inj, I.ok.has, I.ok.cab, fun z => (nomatch z), I.ok.frames, I.ok.stk, I.ok.exf, I.ok.bs, I.ok.bsz, I.ok.noex, I.ok.exfs, I.ok.funs, I.ok.frf⟩, I.os, I.bare, I.base, I.loc, I.cell, I.free, I.freeC, I.pin, I.hok, I.len, I.tk⟩
structure FnOkH (P : Program) (w : World) (K : PySem.W.Frag) (mg : Str → Option Value) (base : Heap) (k : Nat) (f : Addr) (fd : FuncData) (ps : List Str) (sp : Sp) : Prop where
  len : ∀ vs H Q E, sp vs H Q E → vs.length = ps.length
  run : ∀ (A : Around) (outer : List Env) (s : Shared) (H : Hp) (args : Args) (us : List Value) (vs : List V) (Q : VK) (E : XK), RoomH k A → Env0 P w K mg base A outer s H → BindsTo s fd args (ps.zip us) → Vals vs us → sp vs H Q E →
    codeAny (model P w) A (.call (.ref f) args) (CR CX0 outer P w H s Q E) s
theorem fn_ofH {P : Program} {w : World} {K : PySem.W.Frag} {mg : Str → Option Value} {base : Heap} {k : Nat} {f : Addr} {name qual : Str} {params : Arguments} {body : List Stmt} {scope : Scope} {dV kV doc pm cdv ct oc : Value} {an od : Option Addr}
    {osl : Array (Option Value)} {N ps : List Str} {sp : Sp} (lk : K.lookup f = some ⟨oc, od, .func (PySem.W.fnOf name qual params body scope dV kV doc pm an cdv ct), osl⟩) (hcd : PySem.W.codeIn K cdv qual = true) (S : FnScope N ps scope)
    (len : ∀ vs H Q E, sp vs H Q E → vs.length = ps.length)
    (hbody : ∀ (A : Around) (outer : List Env) (s : Shared) (H : Hp) (vs : List V) (Q : VK) (E : XK), RoomH k (A.deeper (envOfC qual scope s.heap.objs.size f cdv)) → sp vs H Q E →
      ∃ t, PSs (cxOf CX0 P w K mg base N qual scope f cdv A outer s H E).loud body t ∧ t { nx := fun _ H' => Q .non H', rt := Q } (start N vs) H) :
    FnOkH P w K mg base (k + 1) f (PySem.W.fnOf name qual params body scope dV kV doc pm an cdv ct) ps sp where
  len := len
  run := fun A outer s H args us vs Q E hr e0 hb r hsp => by
    have hl := len _ _ _ _ hsp
    have keep : ∀ b o, base.get? b = some o → s.heap.get? b = some o := fun b o e => (e0.bs b o e).1
    have KX : K.In s.heap := e0.mod.kin.keeps keep
    have lim : s.heap.NoLimit := e0.mod.nolimit.keeps keep
    have loc : ∀ y ∈ ps.zip us, scope.names.lookup y.1 = some .local ∨ (scope.names.lookup y.1 = some .cell ∧ ((cellsFrom (s.heap.objs.size + 1) scope.names []).lookup y.1).isSome = true) := by
      rintro ⟨n, v⟩ hy
      exact (S.par n (List.of_mem_zip hy).1).imp id fun q => ⟨q, PySem.W.cellsFrom_some _ _ _ (.inl q)⟩
    have hd : A.depth < recursionLimit := by have := hr.dp; omega
    refine codeAny_call_function hd (KX _ _ lk) rfl S.co S.gen rfl (PySem.W.codeRec_of KX hcd) (hb _ _ _ _ (tokQ e0.tk (wpAny_newFunctionEnv_cells S.kind loc fun env he s1 x htk => ?_)))
    subst he
    refine ⟨lim.keeps x.toInCall.keep, codeAny_func ?_⟩
    have hr2 : RoomH k (A.deeper (envOfC qual scope s.heap.objs.size f cdv)) := ⟨by have := hr.dp; show A.depth + 1 + 3 * k + 5 < _; omega, by have := hr.un; show A.units + 3 + 16 * k + 200 < _; omega⟩
    obtain ⟨t, ht, hq⟩ := hbody A outer s H vs Q E hr2 hsp
    have e1 : Env0 P w K mg base { A with handled := none } outer s H := ⟨e0.frames, e0.mod, e0.bs, e0.bsz, e0.funs, e0.frf, e0.hok, e0.bare, e0.tk⟩
    have I0 : Inv (cxOf CX0 P w K mg base N qual scope f cdv { A with handled := none } outer s H E) [] (start N vs) H s1 := inv_start S rfl e1 hl r x htk
    have I1 := I0.loud
    have I : Inv (cxOf CX0 P w K mg base N qual scope f cdv A outer s H E).loud [] (start N vs) H s1 :=
      ⟨⟨I1.ok.mod, I1.ok.kind, I1.ok.glob, I1.ok.blt, I1.ok.above, I1.ok.inj, I1.ok.has, I1.ok.cab, fun z => (nomatch z), Around.frames_deeper e0.frames, I1.ok.stk, I1.ok.exf, I1.ok.bs, I1.ok.bsz, I1.ok.noex, I1.ok.exfs, I1.ok.funs, I1.ok.frf⟩, I1.os, I1.bare, I1.base, I1.loc, I1.cell, I1.free, I1.freeC, I1.pin, I1.hok, I1.len, I1.tk⟩
    refine wpAny_mono (ht [] s1 (start N vs) H _ I hq) (fun fl s' hs => ?_) fun e s' hs => hs.elim
    have fin : ∀ {σ' : St} {H' : Hp} {v : V} {u : Value}, Inv (cxOf CX0 P w K mg base N qual scope f cdv A outer s H E).loud [] σ' H' s' → RelV v u → Q v H' → CE outer P w H s Q u s' :=
      fun {σ' H' v u} J rv q => ⟨v, H', J.tk, J.os, J.bare, J.base, J.hok, rv, q⟩
    cases fl with
    | ret u => obtain ⟨v, σ', H', J, rv, q⟩ := hs; exact fin J rv q
    | next => obtain ⟨σ', H', J, q⟩ := hs; exact fin (v := V.non) (u := Value.none) J rfl q
    | brk => obtain ⟨_, _, _, q⟩ := hs; exact q.elim
    | cont => obtain ⟨_, _, _, q⟩ := hs; exact q.elim
def CalleeH (P : Program) (w : World) (K : PySem.W.Frag) (mg : Str → Option Value) (base : Heap) (k : Nat) (x : Str) (ps : List Str) (sp : Sp) : Prop :=
  ∃ f fd, FnOkH P w K mg base k f fd ps sp ∧ Binds K fd ps [] ∧ PySem.W.keepIn K (.ref f) = true ∧ mg x = some (.ref f)
theorem Fn.calH {P : Program} {w : World} {K : PySem.W.Frag} {mg : Str → Option Value} {base : Heap} {x : Str} {st : Stmt} {N ps : List Str} {k : Nat} {sp : Sp} (F : Fn K mg x st) (S : FnScope N ps (defScope st)) (len : ∀ vs H Q E, sp vs H Q E → vs.length = ps.length)
    (hb : ∀ (kV doc pm : Value) (an : Option Addr) (cdv ct : Value) (us : List Value), us.length = ps.length → bindArgs (PySem.W.fnOf x x (defArgs st) (defBody st) (defScope st) .none kV doc pm an cdv ct) ⟨us, []⟩ = pure (ps.zip us))
    (hbody : ∀ (f : Addr) (cdv : Value) (A : Around) (outer : List Env) (s : Shared) (H : Hp) (vs : List V) (Q : VK) (E : XK), RoomH k (A.deeper (envOfC x (defScope st) s.heap.objs.size f cdv)) → sp vs H Q E →
      ∃ t, PSs (cxOf CX0 P w K mg base N x (defScope st) f cdv A outer s H E).loud (defBody st) t ∧ t { nx := fun _ H' => Q .non H', rt := Q } (start N vs) H) : CalleeH P w K mg base (k + 1) x ps sp := by
  obtain ⟨f, fd, F, m⟩ := F
  have hB := F.binds hb
  have hK := F.kp
  obtain ⟨oc, od, kV, doc, pm, an, cdv, ct, osl, rfl, lk, hcd⟩ := F.ex
  exact ⟨f, _, fn_ofH lk hcd S len (hbody f cdv), hB, hK, m⟩
section
variable {X : Cx} {k : Nat} {x : Str} {ps : List Str} {sp : Sp} {p pos : Pos} {e : Expr} {es : List Expr} {t : TA}
theorem pe_fnH (C : CalleeH X.prog X.w X.K X.mg X.base k x ps sp) (hr : RoomH k X.A) (hg : Gl X x) (ha : PA X (e :: es) t)
    (he : starEach (e :: es) X.env = (false, eval e X.env) :: starEach es X.env := by rfl) (hpl : (backTo pos (starEach es X.env)).any (·.1) = false := by rfl) (hd : (x == ("__debug__" : Str)) = false := by decide) : PE X (.Call (.Name x p) (e :: es) [] pos) (tCall sp [] E0 t) := by
  obtain ⟨f, fd, F, b, kp, m⟩ := C
  intro pins s σ H Q I h
  refine wpAny_Call_Name_kw (ld_glob I hg m (PySem.W.callWith_K (h₀ := X.base) I.ok.mod.kin kp (thn (ha pos pins s σ H _ I h) fun us s1 ⟨vs, H1, I1, r, q⟩ => ⟨I1.kIn, ?_⟩) he hpl) hd)
  have q : sp vs H1 Q E0 := by dsimp only at q; rw [List.append_nil] at q; exact q
  have hl : (us ++ []).length = ps.length := by rw [List.append_nil, ← r.length]; exact F.len _ _ _ _ q
  have bd := b s1 us I1.kIn hl
  rw [List.append_nil] at bd
  refine wpAny_call (codeAny_mono (F.run X.A X.stack s1 H1 ⟨us, []⟩ us vs Q E0 hr I1.env0 bd r q) fun r s' hq => ?_)
  rcases r with er | fl
  · exact hq.elim
  · cases fl with
    | ret u => exact I1.after hq
    | _ => exact hq.elim
end
end L2


set_option linter.all false
set_option maxRecDepth 100000
namespace L2
open PySem PySem.Spec PyProof.Rows

section
variable {κ : Type} [DecidableEq κ]
def valV (kvs : List (κ × V)) (k : κ) : Option V := (kvs.find? fun kv => decide (kv.1 = k)).map (·.2)
def putK (kvs : List (κ × V)) (k : κ) (v : V) : List (κ × V) :=
  if (kvs.any fun kv => decide (kv.1 = k)) = true then kvs.map (fun kv => if kv.1 = k then (kv.1, v) else kv) else kvs ++ [(k, v)]
def dropK (kvs : List (κ × V)) (k : κ) : List (κ × V) := kvs.filter fun kv => decide (kv.1 ≠ k)

theorem valV_pos {p : κ × V} {r : List (κ × V)} {k : κ} (e : p.1 = k) : valV (p :: r) k = some p.2 := by simp [valV, List.find?_cons, e]
theorem valV_neg {p : κ × V} {r : List (κ × V)} {k : κ} (e : ¬ p.1 = k) : valV (p :: r) k = valV r k := by simp [valV, List.find?_cons, e]
theorem valV_any (k : κ) : ∀ kvs : List (κ × V), (kvs.any fun kv => decide (kv.1 = k)) = (valV kvs k).isSome
  | [] => rfl
  | p :: r => by
    rw [List.any_cons]
    by_cases e : p.1 = k
    · simp only [valV_pos e, decide_eq_true e, Bool.true_or, Option.isSome_some]
    · rw [valV_neg e, decide_eq_false e, Bool.false_or]; exact valV_any k r
theorem length_putK (kvs : List (κ × V)) (k : κ) (v : V) : (putK kvs k v).length ≤ kvs.length + 1 := by
  unfold putK
  split
  · rw [List.length_map]; omega
  · rw [List.length_append, List.length_cons, List.length_nil]; omega
theorem putK_new {kvs : List (κ × V)} {k : κ} (v : V) (h : valV kvs k = none) : putK kvs k v = kvs ++ [(k, v)] := by
  unfold putK
  rw [valV_any, h]
  exact if_neg (by decide)

theorem RelO.isSome_eq {o : Option V} {u : Option Value} (r : RelO o u) : o.isSome = u.isSome := by
  cases o with
  | none => cases u with
    | none => rfl
    | some _ => exact (show False from r).elim
  | some _ => cases u with
    | none => exact (show False from r).elim
    | some _ => rfl
theorem RelO.getD {o : Option V} {u : Option Value} {d : V} {d' : Value} (r : RelO o u) (rd : RelV d d') : RelV (o.getD d) (u.getD d') := by
  cases o with
  | none => cases u with
    | none => exact rd
    | some _ => exact (show False from r).elim
  | some _ => cases u with
    | none => exact (show False from r).elim
    | some _ => exact r

theorem KV.val {kvs : List (κ × V)} {vs : List (κ × Value)} (r : KV kvs vs) (k : κ) : RelO (valV kvs k) (valueAt vs k) := by
  unfold KV at r
  induction r with
  | nil => exact True.intro
  | @cons p q ps qs h t ih =>
    obtain ⟨h1, h2⟩ := h
    by_cases e : p.1 = k
    · have e' : q.1 = k := h1.symm.trans e
      have b : valueAt (q :: qs) k = some q.2 := by simp [valueAt, List.find?_cons, e']
      rw [valV_pos e, b]; exact h2
    · have e' : ¬ q.1 = k := fun z => e (h1.trans z)
      have b : valueAt (q :: qs) k = valueAt qs k := by simp [valueAt, List.find?_cons, e']
      rw [valV_neg e, b]; exact ih
theorem KV.any {kvs : List (κ × V)} {vs : List (κ × Value)} (r : KV kvs vs) (k : κ) : (kvs.any fun kv => decide (kv.1 = k)) = vs.any fun kv => decide (kv.1 = k) := by
  unfold KV at r
  induction r with
  | nil => rfl
  | cons h t ih => rw [List.any_cons, List.any_cons, ih, h.1]
theorem KV.repl {kvs : List (κ × V)} {vs : List (κ × Value)} (r : KV kvs vs) (k : κ) {y : V} {u : Value} (ry : RelV y u) :
    KV (kvs.map fun kv => if kv.1 = k then (kv.1, y) else kv) (vs.map fun kv => if kv.1 = k then (kv.1, u) else kv) := by
  unfold KV at r ⊢
  induction r with
  | nil => exact .nil
  | @cons p q ps qs h t ih =>
    rw [List.map_cons, List.map_cons]
    refine .cons ?_ ih
    obtain ⟨h1, h2⟩ := h
    by_cases e : p.1 = k
    · rw [if_pos e, if_pos (h1.symm.trans e)]; exact ⟨h1, ry⟩
    · rw [if_neg e, if_neg (fun z => e (h1.trans z))]; exact ⟨h1, h2⟩
theorem KV.put {kvs : List (κ × V)} {vs : List (κ × Value)} (r : KV kvs vs) (k : κ) {y : V} {u : Value} (ry : RelV y u) : KV (putK kvs k y) (stored vs k u) := by
  unfold putK stored
  rw [r.any k]
  by_cases e : (vs.any fun kv => decide (kv.1 = k)) = true
  · rw [if_pos e, if_pos e]; exact r.repl k ry
  · rw [if_neg e, if_neg e]; exact Paired.snoc r ⟨rfl, ry⟩
theorem KV.drop {kvs : List (κ × V)} {vs : List (κ × Value)} (r : KV kvs vs) (k : κ) : KV (dropK kvs k) (without vs k) := by
  unfold KV at r ⊢
  unfold dropK without
  induction r with
  | nil => exact .nil
  | @cons p q ps qs h t ih =>
    obtain ⟨h1, h2⟩ := h
    rw [List.filter_cons, List.filter_cons]
    by_cases e : p.1 = k
    · have a : ¬ decide (p.1 ≠ k) = true := by simp [e]
      have b : ¬ decide (q.1 ≠ k) = true := by simp [h1.symm.trans e]
      rw [if_neg a, if_neg b]; exact ih
    · have e' : ¬ q.1 = k := fun z => e (h1.trans z)
      have a : decide (p.1 ≠ k) = true := by simp [e]
      have b : decide (q.1 ≠ k) = true := by simp [e']
      rw [if_pos a, if_pos b]; exact .cons ⟨h1, h2⟩ ih
theorem KV.keys {kvs : List (κ × V)} {vs : List (κ × Value)} (r : KV kvs vs) : kvs.map (·.1) = vs.map (·.1) := by
  unfold KV at r
  induction r with
  | nil => rfl
  | cons h t ih => rw [List.map_cons, List.map_cons, ih, h.1]
theorem KV.length {kvs : List (κ × V)} {vs : List (κ × Value)} (r : KV kvs vs) : kvs.length = vs.length := Paired.length r
theorem dropK_le (kvs : List (κ × V)) (k : κ) : (dropK kvs k).length ≤ kvs.length := List.length_filter_le _ _
end


theorem kV_is {P : Program} {w : World} {k : Key} {u : Value} (r : RelV (kV k) u) : (mixKind P w).is k u = true := by
  cases k with
  | inl i => obtain ⟨t, e⟩ := (show ∃ t, u = Value.int i t from r); subst e; exact mixKind_int P w i t
  | inr x => obtain ⟨t, e⟩ := (show ∃ t, u = Value.str x t from r); subst e; exact mixKind_str P w x t
theorem items_are {P : Program} {w : World} : ∀ {ks : List Key} {us : List Value}, Vals (ks.map kV) us → ItemsAre (mixKind P w) ks us
  | [], _, r => by rw [List.map_nil] at r; cases r; exact .nil
  | k :: ks, _, r => by
    rw [List.map_cons] at r
    cases r with
    | cons h t => exact .cons (kV_is h) (items_are t)

abbrev KT (H : Hp) : List (List Key × V) → List (List Key × Addr × Value) → Prop := Paired fun p q => p.1 = q.1 ∧ H q.2.1 = some (.tup (p.1.map kV)) ∧ RelV p.2 q.2.2
theorem KT.val {H : Hp} {kvs : List (List Key × V)} {xs : List (List Key × Addr × Value)} (r : KT H kvs xs) (k : List Key) : RelO (valV kvs k) ((atKey xs k).map (·.2)) := by
  induction r with
  | nil => exact True.intro
  | @cons p q ps qs h t ih =>
    obtain ⟨h1, _, h2⟩ := h
    by_cases e : p.1 = k
    · have e' : q.1 = k := h1.symm.trans e
      have b : atKey (q :: qs) k = some q.2 := by simp [atKey, List.find?_cons, e']
      rw [valV_pos e, b]; exact h2
    · have e' : ¬ q.1 = k := fun z => e (h1.trans z)
      have b : atKey (q :: qs) k = atKey qs k := by simp [atKey, List.find?_cons, e']
      rw [valV_neg e, b]; exact ih
theorem KT.repl {H : Hp} {kvs : List (List Key × V)} {xs : List (List Key × Addr × Value)} (r : KT H kvs xs) (k : List Key) {y : V} {u : Value} (ry : RelV y u) :
    KT H (kvs.map fun kv => if kv.1 = k then (kv.1, y) else kv) (xs.map (putAt k u)) := by
  induction r with
  | nil => exact .nil
  | @cons p q ps qs h t ih =>
    rw [List.map_cons, List.map_cons]
    refine .cons ?_ ih
    obtain ⟨h1, h2, h3⟩ := h
    unfold putAt
    by_cases e : p.1 = k
    · rw [if_pos e, if_pos (h1.symm.trans e)]; exact ⟨h1, h2, ry⟩
    · rw [if_neg e, if_neg (fun z => e (h1.trans z))]; exact ⟨h1, h2, h3⟩
theorem KT.put {H : Hp} {kvs : List (List Key × V)} {xs : List (List Key × Addr × Value)} (r : KT H kvs xs) (k : List Key) {b : Addr} {y : V} {u : Value} (hb : H b = some (.tup (k.map kV))) (ry : RelV y u) :
    KT H (putK kvs k y) (storedH xs k b u) := by
  have e : (kvs.any fun kv => decide (kv.1 = k)) = (atKey xs k).isSome := by
    rw [valV_any, (r.val k).isSome_eq, Option.isSome_map]
  unfold putK storedH
  rw [e]
  by_cases q : (atKey xs k).isSome = true
  · rw [if_pos q, if_pos q]; exact r.repl k ry
  · rw [if_neg q, if_neg q]; exact Paired.snoc r ⟨rfl, hb, ry⟩
theorem KT.keeps {H H' : Hp} {kvs : List (List Key × V)} {xs : List (List Key × Addr × Value)} (r : KT H kvs xs) (ht : ∀ b ys, H b = some (.tup ys) → H' b = some (.tup ys)) : KT H' kvs xs :=
  Paired.mapP r fun _ _ z => ⟨z.1, ht _ _ z.2.1, z.2.2⟩

section
variable {P : Program} {w : World} {H : Hp} {h : Heap} {a : Addr}
theorem rd_of {u : HO} (ok : HOk P w H h) (e : Rd H a u) : ObjOk P w H h a u := e.ok ok
theorem dk_rd {kvs : List (Key × V)} (ok : HOk P w H h) (e : Rd H a (.dK kvs)) : kvs.length ≤ sizeLine ∧ (a == sysModules) = false ∧ ∃ vs, KV kvs vs ∧ h.DictOf (mixKind P w) a vs :=
  show ObjOk P w H h a (.dK kvs) from rd_of ok e
theorem dk_of {kvs : List (Key × V)} (ok : HOk P w H h) (e : H a = some (.dK kvs)) : kvs.length ≤ sizeLine ∧ (a == sysModules) = false ∧ ∃ vs, KV kvs vs ∧ h.DictOf (mixKind P w) a vs := dk_rd ok (.inl e)
theorem key_of {ks : List Key} (ok : HOk P w H h) (e : H a = some (.tup (ks.map kV))) : (tupleKind (mixKind P w)).is h ks a := by
  obtain ⟨_, its, r, o, h1, h2, n, h3⟩ := (show ObjOk P w H h a (.tup (ks.map kV)) from ok a _ e)
  exact ⟨o, its.toArray, n, h1, h2, h3, by simpa using items_are r⟩
theorem dt_rd {kvs : List (List Key × V)} (ok : HOk P w H h) (e : Rd H a (.dT kvs)) : kvs.length ≤ sizeLine ∧ (a == sysModules) = false ∧
    ∃ xs, KT H kvs xs ∧ h.DictOfH (tupleKind (mixKind P w)) a xs := by
  obtain ⟨z, y, xs, r, o, es, ep, h1, h2, h3, h4, h5⟩ := (show ObjOk P w H h a (.dT kvs) from rd_of ok e)
  refine ⟨z, y, xs, r, o, es, ep, h1, h2, h3, h4, fun x hx => ?_, h5⟩
  have all : ∀ {l : List (List Key × V)} {m : List (List Key × Addr × Value)}, KT H l m → ∀ x ∈ m, (tupleKind (mixKind P w)).is h x.1 x.2.1 := by
    intro l m q
    induction q with
    | nil => intro x hx; exact nomatch hx
    | @cons p q ps qs hq t ih =>
      intro x hx
      rcases List.mem_cons.mp hx with e | hx
      · subst e
        exact key_of ok (by rw [← hq.1]; exact hq.2.1)
      · exact ih x hx
  exact all r x hx
theorem dt_of {kvs : List (List Key × V)} (ok : HOk P w H h) (e : H a = some (.dT kvs)) : kvs.length ≤ sizeLine ∧ (a == sysModules) = false ∧
    ∃ xs, KT H kvs xs ∧ h.DictOfH (tupleKind (mixKind P w)) a xs := dt_rd ok (.inl e)
end

def DGet (H : Hp) (a : Addr) (y : V) (r : Option V) : Prop :=
  (∃ kvs k, Rd H a (.dK kvs) ∧ y = kV k ∧ r = valV kvs k) ∨ ∃ kvs k b, Rd H a (.dT kvs) ∧ y = .ref b ∧ H b = some (.tup (k.map kV)) ∧ r = valV kvs k
def DPut (H : Hp) (a : Addr) (y v : V) (H' : Hp) : Prop :=
  (∃ kvs k, H a = some (.dK kvs) ∧ y = kV k ∧ kvs.length < sizeLine ∧ H' = upd H a (.dK (putK kvs k v))) ∨
  ∃ kvs k b, H a = some (.dT kvs) ∧ y = .ref b ∧ H b = some (.tup (k.map kV)) ∧ kvs.length < sizeLine ∧ H' = upd H a (.dT (putK kvs k v))
theorem DGet.k {H : Hp} {a : Addr} {kvs : List (Key × V)} {k : Key} (e : H a = some (.dK kvs)) : DGet H a (kV k) (valV kvs k) := .inl ⟨kvs, k, .inl e, rfl, rfl⟩
theorem DGet.t {H : Hp} {a b : Addr} {kvs : List (List Key × V)} {k : List Key} (e : H a = some (.dT kvs)) (eb : H b = some (.tup (k.map kV))) : DGet H a (.ref b) (valV kvs k) := .inr ⟨kvs, k, b, .inl e, rfl, eb, rfl⟩
theorem DPut.k {H : Hp} {a : Addr} {kvs : List (Key × V)} {k : Key} {v : V} (e : H a = some (.dK kvs)) (hl : kvs.length < sizeLine) : DPut H a (kV k) v (upd H a (.dK (putK kvs k v))) := .inl ⟨kvs, k, e, rfl, hl, rfl⟩
theorem DPut.t {H : Hp} {a b : Addr} {kvs : List (List Key × V)} {k : List Key} {v : V} (e : H a = some (.dT kvs)) (eb : H b = some (.tup (k.map kV))) (hl : kvs.length < sizeLine) :
    DPut H a (.ref b) v (upd H a (.dT (putK kvs k v))) := .inr ⟨kvs, k, b, e, rfl, eb, hl, rfl⟩


section
variable {X : Cx} {pins : List (Addr × Obj)} {σ : St} {H : Hp} {s : Shared} {a : Addr} {y v : V} {u r : Value} {o : Option V} {A : Around} {E : Value → Shared → Prop}

theorem Inv.big (I : Inv X pins σ H s) : sysModules < s.heap.objs.size := by
  have h : mainGlobals < s.heap.objs.size := (I.mod.glob.keeps I.bk).lt
  exact Nat.lt_trans (by decide) h

theorem d_getItem {Q : Value → Shared → Prop} (hu : A.units + 1 < cLine) (I : Inv X pins σ H s) (g : DGet H a y (some v)) (ry : RelV y u) (h : ∀ w' s', Inv X pins σ H s' → RelV v w' → Q w' s') :
    wpAny (model X.prog X.w) A (getItem (.ref a) u) Q E s := by
  rcases g with ⟨kvs, k, e, ey, l⟩ | ⟨kvs, k, b, e, ey, eb, l⟩
  · subst ey
    obtain ⟨z, hd, vs, rel, dd⟩ := dk_rd I.hok e
    obtain ⟨w', hw, rw'⟩ := RelO.some_of (v := v) (o := valueAt vs k) (by rw [l]; exact rel.val k)
    exact wpAny_getItem_of (kV_is ry) dd.mapOf hw (h w' _ (I.tok _) rw')
  · subst ey
    cases (show u = Value.ref b from ry)
    obtain ⟨z, hd, xs, rel, dd⟩ := dt_rd I.hok e
    obtain ⟨w', hw, rw'⟩ := RelO.some_of (v := v) (o := (atKey xs k).map (·.2)) (by rw [l]; exact rel.val k)
    obtain ⟨p, hp, hp2⟩ := Option.map_eq_some_iff.mp hw
    refine wpAny_getItem_heap (tupleKind_room_in1 hu) (key_of I.hok eb) dd hp ?_
    rw [hp2]
    exact h w' _ (I.tok _) rw'
theorem d_in {Q : Value → Shared → Prop} (hu : A.units + 1 < cLine) (I : Inv X pins σ H s) (g : DGet H a y o) (ry : RelV y u) (h : ∀ s', Inv X pins σ H s' → Q (.bool o.isSome) s') :
    wpAny (model X.prog X.w) A (compareOp .In u (.ref a)) Q E s := by
  rcases g with ⟨kvs, k, e, ey, l⟩ | ⟨kvs, k, b, e, ey, eb, l⟩
  · subst ey
    obtain ⟨z, hd, vs, rel, dd⟩ := dk_rd I.hok e
    refine wpAny_in_of (kV_is ry) hd dd.mapOf ?_
    rw [← (rel.val k).isSome_eq, ← l]
    exact h _ (I.tok _)
  · subst ey
    cases (show u = Value.ref b from ry)
    obtain ⟨z, hd, xs, rel, dd⟩ := dt_rd I.hok e
    refine wpAny_in_heap (tupleKind_room_in1 hu) (key_of I.hok eb) hd dd ?_
    have q := (rel.val k).isSome_eq
    rw [Option.isSome_map] at q
    rw [← q, ← l]
    exact h _ (I.tok _)
theorem d_notIn {Q : Value → Shared → Prop} (hu : A.units + 1 < cLine) (I : Inv X pins σ H s) (g : DGet H a y o) (ry : RelV y u) (h : ∀ s', Inv X pins σ H s' → Q (.bool (!o.isSome)) s') :
    wpAny (model X.prog X.w) A (compareOp .NotIn u (.ref a)) Q E s := by
  rcases g with ⟨kvs, k, e, ey, l⟩ | ⟨kvs, k, b, e, ey, eb, l⟩
  · subst ey
    obtain ⟨z, hd, vs, rel, dd⟩ := dk_rd I.hok e
    refine wpAny_notIn_of (kV_is ry) hd dd.mapOf ?_
    rw [← (rel.val k).isSome_eq, ← l]
    exact h _ (I.tok _)
  · subst ey
    cases (show u = Value.ref b from ry)
    obtain ⟨z, hd, xs, rel, dd⟩ := dt_rd I.hok e
    refine wpAny_notIn_heap (tupleKind_room_in1 hu) (key_of I.hok eb) hd dd ?_
    have q := (rel.val k).isSome_eq
    rw [Option.isSome_map] at q
    rw [← q, ← l]
    exact h _ (I.tok _)
theorem d_write {h' : Heap} {t' : Nat} {ob : HO} (I : Inv X pins σ H s) (mu : Mut (H a)) (hs : Heap.SameBut a s.heap h') (he : ∃ q, h'.get? a = some q) (new : ObjOk X.prog X.w (upd H a ob) h' a ob) (ht : 0 < t' := by first | assumption | exact Nat.succ_pos _ | (apply Inv.tk; assumption) | omega) :
    Inv X pins σ (upd H a ob) { s with heap := h', toks := t' } :=
  I.write (x := a) (e := a) mu (.inl rfl) (fun b q hb z => (hs.2 b hb).trans z) he new
theorem dk_new {P : Program} {w : World} {H' : Hp} {h' : Heap} {kvs : List (Key × V)} {vs : List (Key × Value)} (z : kvs.length ≤ sizeLine) (hd : (a == sysModules) = false) (rel : KV kvs vs) (dd : h'.DictOf (mixKind P w) a vs) :
    ObjOk P w H' h' a (.dK kvs) := ⟨z, hd, vs, rel, dd⟩
theorem d_setItem {H' : Hp} {Q : Unit → Shared → Prop} (hu : A.units + 1 < cLine) (I : Inv X pins σ H s) (g : DPut H a y v H') (ry : RelV y u) (rv : RelV v r) (h : ∀ s', Inv X pins σ H' s' → Q () s') :
    wpAny (model X.prog X.w) A (setItem (.ref a) u r) Q E s := by
  rcases g with ⟨kvs, k, e, ey, l, eH⟩ | ⟨kvs, k, b, e, ey, eb, l, eH⟩
  · subst ey eH
    obtain ⟨z, hd, vs, rel, dd⟩ := dk_of I.hok e
    have hz : vs.length ≤ sizeLine := by rw [← rel.length]; exact z
    have hl : (putK kvs k v).length ≤ sizeLine := by have := length_putK kvs k v; omega
    refine wpAny_setItem_pairs (hsz := hz) (kV_is ry) dd fun h' dd' hs => h _ ?_
    have he : ∃ q, h'.get? a = some q := let ⟨q, _, _, hq, _⟩ := dd'; ⟨q, hq⟩
    exact d_write I (by rw [e]; exact True.intro) hs he (dk_new hl hd (rel.put k rv) dd')
  · subst ey eH
    cases (show u = Value.ref b from ry)
    obtain ⟨z, hd, xs, rel, dd⟩ := dt_of I.hok e
    have hz : xs.length ≤ sizeLine := by rw [← Paired.length rel]; exact z
    have hl : (putK kvs k v).length ≤ sizeLine := by have := length_putK kvs k v; omega
    refine wpAny_setItem_heap (hsz := hz) (tupleKind_room_in1 hu) (key_of I.hok eb) dd fun h' dd' hs => h _ ?_
    obtain ⟨q, es, ep, hq, h2, h3, h4, _, h5⟩ := dd'
    refine d_write I (by rw [e]; exact True.intro) hs ⟨q, hq⟩ ⟨hl, hd, _, (rel.put k eb rv).keeps fun c ys ec => ?_, q, es, ep, hq, h2, h3, h4, h5⟩
    rw [upd_ne (ne_of ec e (fun z => nomatch z))]
    exact ec
end

section
variable {X : Cx} {pins : List (Addr × Obj)} {σ : St} {H : Hp} {s : Shared} {a : Addr} {kvs : List (Key × V)} {k : Key} {u : Value} {A : Around} {E : Value → Shared → Prop}
theorem d_pop {v : V} {more : List Value} {Q : Value → Shared → Prop} (I : Inv X pins σ H s) (e : H a = some (.dK kvs)) (ry : RelV (kV k) u) (l : valV kvs k = some v) (hm : more = [] ∨ ∃ x, more = [x])
    (h : ∀ w' s', Inv X pins σ (upd H a (.dK (dropK kvs k))) s' → RelV v w' → Q w' s') : wpAny (model X.prog X.w) A (call (.builtin "dict.pop") (.ref a :: u :: more)) Q E s := by
  obtain ⟨z, hd, vs, rel, dd⟩ := dk_of I.hok e
  obtain ⟨w', hw, rw'⟩ := RelO.some_of (v := v) (o := valueAt vs k) (by rw [← l]; exact rel.val k)
  have hp : (keyPart u).isSome = true := by
    cases k with
    | inl i => obtain ⟨t, q⟩ := (show ∃ t, u = Value.int i t from ry); subst q; rfl
    | inr x => obtain ⟨t, q⟩ := (show ∃ t, u = Value.str x t from ry); subst q; rfl
  have ha : argsOk "dict.pop" ⟨.ref a :: u :: more, []⟩ := by
    rcases hm with q | ⟨x, q⟩
    · subst q; exact PySem.F.args_dict_pop_2 _ _
    · subst q; exact PySem.F.args_dict_pop_3 _ _ _
  refine call_meetsIn PySem.F.slot_dict_pop dd.typeIs PySem.F.entry_dict_pop ha (meets_dict_pop_there (mixKind X.prog X.w) a (kV_is ry) more hm hp)
    ⟨vs, w', dd, by rw [← rel.length]; exact z, hw, fun h' dd' hs => h w' _ ?_ rw'⟩
  have he : ∃ q, h'.get? a = some q := let ⟨q, _, _, hq, _⟩ := dd'; ⟨q, hq⟩
  exact d_write I (by rw [e]; exact True.intro) hs he (dk_new (Nat.le_trans (dropK_le kvs k) z) hd (rel.drop k) dd')
end


def NoSl (i : Expr) : Prop := ∀ ov iv, subscripted i false ov iv = operate [ov, iv] (getItem ov iv)
theorem subD_of {prog : Program} {w : World} {A : Around} {E : Value → Shared → Prop} {s : Shared} {env : Env} {value slice : Expr} {pos : Pos} {T id : String} {Q : Value → Shared → Prop}
    (hl : typeLookup (.type T) "__getitem__" = pure (some (.builtin id))) (hs : NoSl slice)
    (h : wpAny (model prog w) A (eval value env) (fun o s₁ => wpAny (model prog w) A (eval slice env) (fun i s₂ => s₂.TypeIs o T ∧ wpAny (model prog w) A (getItem o i) Q E s₂) E s₁) E s) :
    wpAny (model prog w) A (eval (.Subscript value slice pos) env) Q E s := by
  refine Subscript_ (wpAny_mono h (fun o s₁ h₁ => wpAny_mono h₁ (fun i s₂ h₂ => ?_) fun _ _ x => x) fun _ _ x => x)
  obtain ⟨hT, h₂⟩ := h₂
  unfold subscriptTail
  refine wpAny_bind ?_
  rw [getitemInPython_of_ne hT.not_modules]
  refine wpAny_bind (wpAny_specialOf hT hl ?_)
  have fin : wpAny (model prog w) A (subscripted slice false o i) (fun r s₃ => wpAny (model prog w) A (letTemporaryGo value o r >>= fun _ => pure r) Q E s₃) E s₂ := by
    rw [hs o i]
    exact wpAny_operating (wpAny_mono h₂ (fun r s₃ h₃ => wpAny_bind (wpAny_letTemporaryGo (wpAny_pure h₃))) fun _ _ x => x)
  first
    | exact wpAny_pure (wpAny_bind fin)
    | exact wpAny_bind (wpAny_pure (wpAny_bind fin))
    | exact wpAny_bind fin

theorem dict_typeIs {X : Cx} {pins : List (Addr × Obj)} {σ : St} {H : Hp} {s : Shared} {a : Addr} {y : V} {o : Option V} (I : Inv X pins σ H s) (g : DGet H a y o) : s.TypeIs (.ref a) "dict" := by
  rcases g with ⟨kvs, k, e, _, _⟩ | ⟨kvs, k, b, e, _, _, _⟩
  · obtain ⟨_, _, vs, _, dd⟩ := dk_rd I.hok e
    exact dd.typeIs
  · obtain ⟨_, _, xs, _, dd⟩ := dt_rd I.hok e
    exact dd.typeIs
def tDGet (td ty : TE) : TE := fun σ H Q => td σ H fun x H1 => ty σ H1 fun y H2 => ∃ a v, x = .ref a ∧ DGet H2 a y (some v) ∧ Q v H2
def tDIn (ty td : TE) : TE := fun σ H Q => ty σ H fun y H1 => td σ H1 fun x H2 => ∃ a o, x = .ref a ∧ DGet H2 a y o ∧ Q (.bl o.isSome) H2
def tDNotIn (ty td : TE) : TE := fun σ H Q => ty σ H fun y H1 => td σ H1 fun x H2 => ∃ a o, x = .ref a ∧ DGet H2 a y o ∧ Q (.bl (!o.isSome)) H2
def sDPut (td ty tv : TE) : TS := fun D σ H => tv σ H fun v H1 => td σ H1 fun x H2 => ty σ H2 fun y H3 => ∃ a H4, x = .ref a ∧ DPut H3 a y v H4 ∧ D.nx σ H4
section
variable {X : Cx} {o i e value : Expr} {pos pos' tpos : Pos} {td ty tv : TE}
theorem pe_dget (hu : X.A.units + 1 < cLine) (ho : PE X o td) (hi : PE X i ty) (hs : NoSl i) : PE X (.Subscript o i pos) (tDGet td ty) := by
  intro pins s σ H Q I h
  refine subD_of PySem.F.slot_dict_getitem.lookup hs (thn (ho pins s σ H _ I h) fun u s1 ⟨x, H1, I1, rx, q1⟩ => thn (hi pins s1 σ H1 _ I1 q1) fun iv s2 ⟨y, H2, I2, ry, a, v, ex, g, q2⟩ => ?_)
  subst ex
  obtain rfl : u = Value.ref a := rx
  exact ⟨dict_typeIs I2 g, d_getItem hu I2 g ry fun w' s3 I3 rw' => ⟨v, H2, I3, rw', q2⟩⟩
theorem pc_din (hu : X.A.units + 1 < cLine) (hi : PE X i ty) (ho : PE X o td) : PC X .In i o (tDIn ty td) := by
  intro pins s σ H Q I h
  refine thn (hi pins s σ H _ I h) fun iv s1 ⟨y, H1, I1, ry, q1⟩ => thn (ho pins s1 σ H1 _ I1 q1) fun u s2 ⟨x, H2, I2, rx, a, ov, ex, g, q2⟩ => ?_
  subst ex
  obtain rfl : u = Value.ref a := rx
  exact d_in hu I2 g ry fun s3 I3 => ⟨.bl ov.isSome, H2, I3, rfl, q2⟩
theorem pc_dnotin (hu : X.A.units + 1 < cLine) (hi : PE X i ty) (ho : PE X o td) : PC X .NotIn i o (tDNotIn ty td) := by
  intro pins s σ H Q I h
  refine thn (hi pins s σ H _ I h) fun iv s1 ⟨y, H1, I1, ry, q1⟩ => thn (ho pins s1 σ H1 _ I1 q1) fun u s2 ⟨x, H2, I2, rx, a, ov, ex, g, q2⟩ => ?_
  subst ex
  obtain rfl : u = Value.ref a := rx
  exact d_notIn hu I2 g ry fun s3 I3 => ⟨.bl (!ov.isSome), H2, I3, rfl, q2⟩
theorem ps_dput (hu : X.A.units + 1 < cLine) (ho : PE X o td) (hi : PE X i ty) (hv : PE X value tv) (hs : swapsWith value (some (.Subscript o i pos')) pos.line X.env = pure false) :
    PS X (.Assign [.Subscript o i pos'] value pos) (sDPut td ty tv) := by
  intro pins s σ H D I h
  refine wpAny_Assign_Subscript (thn (hv pins s σ H _ I h) fun r s1 ⟨v, H1, I1, rv, q1⟩ => thn (ho pins s1 σ H1 _ I1 q1) fun u s2 ⟨x, H2, I2, rx, q2⟩ => thn (hi pins s2 σ H2 _ I2 q2) fun iv s3 ⟨y, H3, I3, ry, a, H4, ex, g, q3⟩ => ?_) hs
  subst ex
  obtain rfl : u = Value.ref a := rx
  exact d_setItem hu I3 g ry rv fun s4 I4 => ⟨σ, H4, I4, q3⟩
end


theorem dk_empty {P : Program} {w : World} {H : Hp} (h : Heap) (hb : sysModules < h.objs.size) : ObjOk P w H (h.push { cls := .type "dict", data := .dict #[] }) h.objs.size (.dK []) :=
  ⟨Nat.zero_le _, beq_eq_false_iff_ne.mpr (Ne.symm (Nat.ne_of_lt hb)), [], .nil, Heap.DictOf.new h⟩
def tDNewK : TE := fun _ H Q => ∀ p, H p = none → Q (.ref p) (upd H p (.dK []))
def tDNewT : TE := fun _ H Q => ∀ p, H p = none → Q (.ref p) (upd H p (.dT []))
section
variable {X : Cx} {pos : Pos}
theorem pe_dnewK : PE X (.Dict [] [] pos) tDNewK := fun pins s σ H Q I h =>
  wpAny_Dict_empty ⟨.ref s.heap.objs.size, _, I.laid (a := s.heap.objs.size) (o := .dK []) (t' := s.toks) (fun _ _ q => Heap.get?_push_of_some _ q) (Nat.le_refl _) (dk_empty s.heap I.big), rfl, h _ (I.hok.fresh (Nat.le_refl _))⟩
end

structure M1 (X : Cx) (o : Expr) (m : Str) (apos : Pos) (e : Expr) (cpos : Pos) : Prop where
  base : attributeBase o m X.env (eval o X.env) = eval o X.env
  few : ((backTo cpos (starEach [e] X.env)).all (fun x => !x.1) && (backToKw cpos (keywordEach [] X.env)).all (fun x => x.1.isSome)
    && decide (([e] : List Expr).length + ([] : List Keyword).length + (if ([] : List Keyword).isEmpty then 0 else 1) < 30)) = true
  line : (apos.endLine == cpos.line) = true
  trees : backTo cpos (starEach [e] X.env) = [(false, eval e X.env)]
structure M2 (X : Cx) (o : Expr) (m : Str) (apos : Pos) (e f : Expr) (cpos : Pos) : Prop where
  base : attributeBase o m X.env (eval o X.env) = eval o X.env
  few : ((backTo cpos (starEach [e, f] X.env)).all (fun x => !x.1) && (backToKw cpos (keywordEach [] X.env)).all (fun x => x.1.isSome)
    && decide (([e, f] : List Expr).length + ([] : List Keyword).length + (if ([] : List Keyword).isEmpty then 0 else 1) < 30)) = true
  line : (apos.endLine == cpos.line) = true
  trees : backTo cpos (starEach [e, f] X.env) = [(false, eval e X.env), (false, eval f X.env)]

def IsD (H : Hp) (a : Addr) : Prop := (∃ kvs, Rd H a (.dK kvs)) ∨ ∃ kvs, Rd H a (.dT kvs)
theorem isD_at {X : Cx} {pins : List (Addr × Obj)} {σ : St} {H : Hp} {s : Shared} {a : Addr} (I : Inv X pins σ H s) (d : IsD H a) :
    s.TypeIs (.ref a) "dict" ∧ (∀ b, Value.ref a = .ref b → ∃ ob, s.heap.get? b = some ob ∧ ob.dict = none) ∧ (a == sysModules) = false := by
  rcases d with ⟨kvs, e⟩ | ⟨kvs, e⟩
  · obtain ⟨_, hd, vs, _, dd⟩ := dk_rd I.hok e
    refine ⟨dd.typeIs, fun b q => ?_, hd⟩
    cases q
    obtain ⟨ob, _, _, h1, h2, _⟩ := dd
    exact ⟨ob, h1, h2.2.1⟩
  · obtain ⟨_, hd, xs, _, dd⟩ := dt_rd I.hok e
    refine ⟨dd.typeIs, fun b q => ?_, hd⟩
    cases q
    obtain ⟨ob, _, _, h1, h2, _⟩ := dd
    exact ⟨ob, h1, h2.2.1⟩

section
variable {X : Cx} {pins : List (Addr × Obj)} {σ : St} {H : Hp} {s : Shared} {a : Addr} {y d : V} {u r : Value} {o : Option V} {A : Around} {E : Value → Shared → Prop}
end

def tDPop1 (td ty : TE) : TE := fun σ H Q => td σ H fun x H1 => ∃ a, x = .ref a ∧ IsD H1 a ∧ ty σ H1 fun y H2 => ∃ kvs k v, H2 a = some (.dK kvs) ∧ y = kV k ∧ valV kvs k = some v ∧ Q v (upd H2 a (.dK (dropK kvs k)))
section
variable {X : Cx} {o e f : Expr} {apos cpos : Pos} {td ty tx : TE}
theorem pe_dpop1 (ho : PE X o td) (he : PE X e ty) (m : M1 X o "pop" apos e cpos) : PE X (.Call (.Attribute o "pop" apos) [e] [] cpos) (tDPop1 td ty) := by
  intro pins s σ H Q I h
  refine wpAny_Call_method m.base m.few m.line PySem.F.plainAttrs_dict PySem.F.slot_dict_pop PySem.F.type_dict_pop (thn (ho pins s σ H _ I h) fun u s1 ⟨x, H1, I1, rx, a, ex, d, q1⟩ => ?_)
  subst ex
  obtain rfl : u = Value.ref a := rx
  obtain ⟨t1, t2, _⟩ := isD_at I1 d
  refine ⟨t1, t2, ?_⟩
  rw [m.trees]
  refine Calls.callWith_builtin rfl (Calls.evalArgs_plain (Calls.spliced_cons (thn (he pins s1 σ H1 _ I1 q1) fun iv s2 ⟨y, H2, I2, ry, kvs, k, v, ea, ey, l, q2⟩ => Calls.spliced_nil ?_)))
  subst ey
  exact d_pop I2 ea ry l (.inl rfl) fun w' s3 I3 rw' => ⟨v, _, I3, rw', q2⟩
end

section
variable {X : Cx} {pins : List (Addr × Obj)} {σ : St} {H : Hp} {s : Shared} {a : Addr} {kvs : List (Key × V)} {A : Around} {E : Value → Shared → Prop}
end


section
variable {X : Cx} {pins : List (Addr × Obj)} {σ : St} {H : Hp} {s : Shared} {a : Addr} {y : V} {u : Value} {A : Around} {E : Value → Shared → Prop}
end
end L2

namespace L2
open PySem PySem.Spec PyProof.Rows
section
variable {X : Cx}
end
end L2
namespace L2
open PySem PySem.Spec PyProof.Rows
section
variable {κ : Type} [DecidableEq κ]
end
end L2


set_option linter.all false
namespace L2
open PySem PySem.Spec PyProof.Rows
section
variable {X : Cx} {o i e value : Expr} {pos pos' apos cpos : Pos} {td ty tv ta : TE}
def cDGet (td ty : TE) : TE := fun σ H Q => td σ H fun x H1 => ty σ H1 fun y H2 => match x with
  | .ref a => ∃ v, DGet H2 a y (some v) ∧ Q v H2
  | _ => False
theorem qe_dget (hu : X.A.units + 1 < cLine) (ho : PE X o td) (hi : PE X i ty) (hs : NoSl i) : PE X (.Subscript o i pos) (cDGet td ty) :=
  (pe_dget hu ho.mono hi.mono hs).imp fun σ H Q q => ⟨_, q, fun x H1 z => ⟨_, z, fun y H2 z => by
    split at z
    · obtain ⟨v, g, q⟩ := z
      exact ⟨_, v, rfl, g, q⟩
    · exact z.elim⟩⟩
def cDIn (neg : Bool) (ty td : TE) : TE := fun σ H Q => ty σ H fun y H1 => td σ H1 fun x H2 => match x with
  | .ref a => ∃ v, DGet H2 a y v ∧ Q (.bl (neg ^^ v.isSome)) H2
  | _ => False
theorem qt_din (hu : X.A.units + 1 < cLine) (hi : PE X i ty) (ho : PE X o td) (h1 : behindInMarks .In o = false := by rfl) : PT X (.Compare i [.In] [o] pos) (cTest (cDIn false ty td)) :=
  (pt_cmp (pc_din hu hi.mono ho.mono) h1).imp fun σ H Q q => ⟨_, q, fun y H1 z => ⟨_, z, fun x H2 z => by
    split at z
    · obtain ⟨v, g, q⟩ := z
      exact ⟨_, v, rfl, g, blK_ex (by simpa using q)⟩
    · exact z.elim⟩⟩
theorem qt_dnotin (hu : X.A.units + 1 < cLine) (hi : PE X i ty) (ho : PE X o td) (h1 : behindInMarks .NotIn o = false := by rfl) : PT X (.Compare i [.NotIn] [o] pos) (cTest (cDIn true ty td)) :=
  (pt_cmp (pc_dnotin hu hi.mono ho.mono) h1).imp fun σ H Q q => ⟨_, q, fun y H1 z => ⟨_, z, fun x H2 z => by
    split at z
    · obtain ⟨v, g, q⟩ := z
      exact ⟨_, v, rfl, g, blK_ex (by simpa using q)⟩
    · exact z.elim⟩⟩
def cDPut (td ty tv : TE) : TS := fun D σ H => tv σ H fun v H1 => td σ H1 fun x H2 => ty σ H2 fun y H3 => match x with
  | .ref a => ∃ H4, DPut H3 a y v H4 ∧ D.nx σ H4
  | _ => False
theorem qs_dput (hu : X.A.units + 1 < cLine) (ho : PE X o td) (hi : PE X i ty) (hv : PE X value tv) (hs : swapsWith value (some (.Subscript o i pos')) pos.line X.env = pure false := by rfl) :
    PS X (.Assign [.Subscript o i pos'] value pos) (cDPut td ty tv) := fun pins s σ H D I h =>
  ps_dput hu ho.mono hi.mono hv.mono hs pins s σ H D I ⟨_, h, fun v H1 z => ⟨_, z, fun x H2 z => ⟨_, z, fun y H3 z => by
    split at z
    · obtain ⟨H4, g, q⟩ := z
      exact ⟨_, H4, rfl, g, q⟩
    · exact z.elim⟩⟩⟩
theorem a_cDGet {σ : St} {H : Hp} {Q : VK} : cDGet td ty σ H Q = td σ H fun x H1 => ty σ H1 fun y H2 => match x with
  | .ref a => ∃ v, DGet H2 a y (some v) ∧ Q v H2
  | _ => False := rfl
theorem a_cDIn {neg : Bool} {σ : St} {H : Hp} {Q : VK} : cDIn neg ty td σ H Q = ty σ H fun y H1 => td σ H1 fun x H2 => match x with
  | .ref a => ∃ v, DGet H2 a y v ∧ Q (.bl (neg ^^ v.isSome)) H2
  | _ => False := rfl
theorem a_cDPut {D : Ends} {σ : St} {H : Hp} : cDPut td ty tv D σ H = tv σ H fun v H1 => td σ H1 fun x H2 => ty σ H2 fun y H3 => match x with
  | .ref a => ∃ H4, DPut H3 a y v H4 ∧ D.nx σ H4
  | _ => False := rfl
theorem a_dNewK {σ : St} {H : Hp} {Q : VK} : tDNewK σ H Q = ∀ p, H p = none → Q (.ref p) (upd H p (.dK [])) := rfl
theorem a_dNewT {σ : St} {H : Hp} {Q : VK} : tDNewT σ H Q = ∀ p, H p = none → Q (.ref p) (upd H p (.dT [])) := rfl
end
end L2


set_option linter.all false
set_option maxRecDepth 100000
namespace L2
open PySem PySem.Spec PyProof.Rows
theorem piled_le {ts : List Str} {b : Nat} (h : ∀ t ∈ ts, t.length ≤ b) : piled ts ≤ (b + 2) * ts.length := by
  induction ts with
  | nil => simp [piled]
  | cons t r ih =>
    rw [piled_cons, List.length_cons, Nat.mul_succ]
    have := ih fun x hx => h x (List.mem_cons_of_mem _ hx)
    have := h t List.mem_cons_self
    omega
theorem textFrom_le : ∀ (ts : List Str) (k : Nat) (acc : Str), (textFrom k acc ts).length ≤ acc.length + piled ts
  | [], k, acc => by simp [textFrom, piled]
  | t :: ts, k, acc => by
    rw [textFrom, piled_cons]
    have := textFrom_le ts (k + 1) (acc ++ (if k > 0 then ", " else "" : String) ++ t)
    have e : (acc ++ (if k > 0 then ", " else "" : String) ++ t).length ≤ acc.length + 2 + t.length := by
      rw [strLen_append, strLen_append]
      split
      · exact Nat.le_refl _
      · show acc.length + 0 + t.length ≤ _; omega
    omega
theorem listText_le {ts : List Str} {b : Nat} (h : ∀ t ∈ ts, t.length ≤ b) : (listText ts).length ≤ (b + 2) * ts.length + 2 := by
  unfold listText
  rw [strLen_append]
  have h1 := textFrom_le ts 0 "["
  have h2 := piled_le h
  have e1 : ("[" : Str).length = 1 := rfl
  have e2 : ("]" : Str).length = 1 := rfl
  omega
theorem tupleText_le {ts : List Str} {b : Nat} (h : ∀ t ∈ ts, t.length ≤ b) : (tupleText ts).length ≤ (b + 2) * ts.length + 3 := by
  unfold tupleText
  rw [strLen_append, strLen_append]
  have h2 := piled_le h
  have e1 : ("(" : Str).length = 1 := rfl
  have e3 : ((if ts.length == 1 then ",)" else ")" : String) : Str).length ≤ 2 := by split <;> decide
  by_cases hn : ts = []
  · subst hn
    have : (Str.join ", " ([] : List Str)).length = 0 := rfl
    omega
  · have := join_length_add ts hn
    omega
section
variable {X : Cx} {e : Expr} {te : TE} {pos : Pos}
def Few (ls : List (List Nat)) : Prop := ls.length ≤ 100 ∧ ∀ l ∈ ls, l.length ≤ 100 ∧ ∀ c ∈ l, c < 16 ^ 8
def cFmtA (tv : TE) : TE := fun σ H Q => tv σ H fun x H1 => match x with
  | .non => ∀ z : Str, z.length ≤ 200000 → Q (.str z) H1
  | .bl _ => ∀ z : Str, z.length ≤ 200000 → Q (.str z) H1
  | .int i => (i = 0 ∨ i = 10) ∧ ∀ z : Str, z.length ≤ 200000 → Q (.str z) H1
  | .str y => (∀ c ∈ y.cps.toList, c < 16 ^ 8) ∧ y.length ≤ 10000 ∧ ∀ z : Str, z.length ≤ 200000 → Q (.str z) H1
  | .ref p => ∃ ls, Few ls ∧ (H1 p = some (.lst (ls.map fun l => V.str (st l))) ∨ H1 p = some (.tup (ls.map fun l => V.str (st l)))) ∧ ∀ z : Str, z.length ≤ 200000 → Q (.str z) H1
  | _ => False
theorem few_repr {ls : List (List Nat)} (h : Few ls) : ∀ t ∈ ls.map fun l => reprText (st l), t.length ≤ 1002 := fun t ht => by
  obtain ⟨l, hl, rfl⟩ := List.mem_map.mp ht
  obtain ⟨h1, h2⟩ := h.2 l hl
  have := PySem.StrLaws.reprText_len (st l) (by rw [st_cps]; exact h2)
  have e : (st l).length = l.length := by simp [Str.length]
  omega
theorem vals_txt : ∀ {ls : List (List Nat)} {us : List Value}, Vals (ls.map fun l => V.str (st l)) us → ∃ _ : List Nat, us.length = ls.length ∧ ∀ (i : Nat) u, us[i]? = some u → ∃ l t, ls[i]? = some l ∧ u = Value.str (st l) t
  | [], _, .nil => ⟨[], rfl, fun i u h => by simp at h⟩
  | l :: ls, _, .cons r t => by
    obtain ⟨ts, h1, h2⟩ := vals_txt t
    obtain ⟨tk, rfl⟩ := r
    refine ⟨[], by rw [List.length_cons, List.length_cons, h1], fun i u h => ?_⟩
    cases i with
    | zero => simp only [List.getElem?_cons_zero, Option.some.injEq] at h; exact ⟨l, tk, rfl, h.symm⟩
    | succ i => rw [List.getElem?_cons_succ] at h; exact h2 i u h
end
end L2


set_option linter.all false
set_option maxRecDepth 100000
namespace L2
open PySem PySem.Spec PyProof.Rows
section
variable {X : Cx}
variable {o e f : Expr} {to te tf : TE} {apos cpos : Pos}
def cIndex (to te : TE) : TE := fun σ H Q => to σ H fun x H1 => match x with
  | .ref l => (∃ xs, H1 l = some (.lst xs)) ∧ te σ H1 fun y H2 => match y with
    | .str z => ∃ (ls : List (List Nat)) (j : Nat), H2 l = some (.lst (ls.map fun l => V.str (st l))) ∧ ls.length ≤ 100000 ∧ ls[j]? = some z.cps.toList ∧ (∀ m, m < j → ls[m]? ≠ some z.cps.toList) ∧ Q (.int j) H2
    | _ => False
  | _ => False
def cDGet2 (td ty tx : TE) : TE := fun σ H Q => td σ H fun x H1 => match x with
  | .ref a => IsD H1 a ∧ ty σ H1 fun y H2 => tx σ H2 fun z H3 => ∃ o, DGet H3 a y o ∧ Q (o.getD z) H3
  | _ => False
theorem a_cIndex {σ : St} {H : Hp} {Q : VK} : cIndex to te σ H Q = to σ H fun x H1 => match x with
  | .ref l => (∃ xs, H1 l = some (.lst xs)) ∧ te σ H1 fun y H2 => match y with
    | .str z => ∃ (ls : List (List Nat)) (j : Nat), H2 l = some (.lst (ls.map fun l => V.str (st l))) ∧ ls.length ≤ 100000 ∧ ls[j]? = some z.cps.toList ∧ (∀ m, m < j → ls[m]? ≠ some z.cps.toList) ∧ Q (.int j) H2
    | _ => False
  | _ => False := rfl
theorem a_cDGet2 {td ty tx : TE} {σ : St} {H : Hp} {Q : VK} : cDGet2 td ty tx σ H Q = td σ H fun x H1 => match x with
  | .ref a => IsD H1 a ∧ ty σ H1 fun y H2 => tx σ H2 fun z H3 => ∃ o, DGet H3 a y o ∧ Q (o.getD z) H3
  | _ => False := rfl
theorem a_cFmtA {tv : TE} {σ : St} {H : Hp} {Q : VK} : cFmtA tv σ H Q = tv σ H fun x H1 => match x with
  | .non => ∀ z : Str, z.length ≤ 200000 → Q (.str z) H1
  | .bl _ => ∀ z : Str, z.length ≤ 200000 → Q (.str z) H1
  | .int i => (i = 0 ∨ i = 10) ∧ ∀ z : Str, z.length ≤ 200000 → Q (.str z) H1
  | .str y => (∀ c ∈ y.cps.toList, c < 16 ^ 8) ∧ y.length ≤ 10000 ∧ ∀ z : Str, z.length ≤ 200000 → Q (.str z) H1
  | .ref p => ∃ ls, Few ls ∧ (H1 p = some (.lst (ls.map fun l => V.str (st l))) ∨ H1 p = some (.tup (ls.map fun l => V.str (st l)))) ∧ ∀ z : Str, z.length ≤ 200000 → Q (.str z) H1
  | _ => False := rfl
end
end L2


set_option linter.all false
set_option maxRecDepth 100000
namespace L2
open PySem PySem.Spec PyProof.Rows
section
variable {X : Cx} {e : Expr} {te : TE} {apos cpos : Pos}
theorem join_few (ls : List (List Nat)) (h : ls.length ≤ 1) : Txt.join ⟨#[]⟩ (ls.map st) = st ls.flatten := by
  match ls, h with
  | [], _ => rfl
  | [x], _ =>
    simp [Txt.join, Builtin.Str.glued, Str.join]
def cJoinW (K : PySem.W.Frag) (te : TE) : TE := fun σ H Q => te σ H fun x H1 => match x with
  | .ref l => ∃ ls : List (List Nat), SqL K H1 l (ls.map fun l => V.str (st l)) ∧ ls.length ≤ 1 ∧ (∀ x ∈ ls, x.length ≤ 10000) ∧ Q (.str (st ls.flatten)) H1
  | _ => False
theorem qe_joinW {j : Nat} {p1 : Pos} (K : PySem.W.Frag) (hK : X.K = K) (he : PE X e te) (hfew : ((backTo cpos (starEach [e] X.env)).all (fun x => !x.1) && (backToKw cpos (keywordEach [] X.env)).all (fun x => x.1.isSome) && decide ([e].length + ([] : List Keyword).length + (if ([] : List Keyword).isEmpty then 0 else 1) < 30)) = true := by rfl)
    (hline : (apos.endLine == cpos.line) = true := by rfl) (hs : starEach [e] X.env = (false, eval e X.env) :: starEach [] X.env := by rfl) (hplain : (backTo cpos (starEach [] X.env)).any (·.1) = false := by rfl)
    (hbase : attributeBase (.Constant (.str (Str.ofString "")) j p1) "join" X.env (eval (.Constant (.str (Str.ofString "")) j p1) X.env) = eval (.Constant (.str (Str.ofString "")) j p1) X.env := by rfl) :
    PE X (.Call (.Attribute (.Constant (.str (Str.ofString "")) j p1) "join" apos) [e] [] cpos) (cJoinW K te) := by
  subst hK
  refine (pe_bm PySem.F.plainAttrs_str PySem.F.slot_str_join PySem.F.type_str_join mt_join pe_str (pa_cons he.mono pa_nil hs) hbase hfew hline hs hplain).imp fun σ H Q q => ⟨rfl, _, q, fun x H1 z => ?_⟩
  split at z
  · rename_i l
    obtain ⟨ls, h, h1, h2, z⟩ := z
    refine ⟨_, l, ls.map st, rfl, rfl, by rw [List.map_map]; exact h, ?_, ?_⟩
    · have hz : (Str.ofString "").length = 0 := by rw [ofString_nil]; rfl
      rw [hz, Nat.mul_zero, Nat.add_zero]
      rcases ls with _ | ⟨x, _ | ⟨y, r⟩⟩
      · exact Nat.zero_le _
      · have h3 := h2 x List.mem_cons_self
        have e : (st x).length = x.length := st_len x
        rw [List.map_cons, List.map_nil, List.map_cons, List.map_nil, List.sum_cons, List.sum_nil, e]
        omega
      · simp at h1
    · rw [ofString_nil, join_few ls h1]
      exact z
  · exact z.elim
theorem a_cJoinW {K : PySem.W.Frag} {σ : St} {H : Hp} {Q : VK} : cJoinW K te σ H Q = te σ H fun x H1 => match x with
  | .ref l => ∃ ls : List (List Nat), SqL K H1 l (ls.map fun l => V.str (st l)) ∧ ls.length ≤ 1 ∧ (∀ x ∈ ls, x.length ≤ 10000) ∧ Q (.str (st ls.flatten)) H1
  | _ => False := rfl
end
end L2


set_option linter.all false
set_option maxRecDepth 100000
namespace L2
open PySem PySem.Spec PyProof.Rows
section
variable {X : Cx}
def kSlM : V → Option Int → Option Int → Hp → VK → Prop := fun x lo hi H Q => match x, lo, hi with
  | .str z, none, some j => z.cps.toList.length ≤ 100000 ∧ 1 ≤ z.cps.toList.length ∧ j = -1 ∧ Q (.str (st (z.cps.toList.take (z.cps.toList.length - 1)))) H
  | _, _, _ => False
theorem a_kSlM {l : List Nat} {j : Int} {H : Hp} {Q : VK} : kSlM (.str (st l)) none (some j) H Q = (l.length ≤ 100000 ∧ 1 ≤ l.length ∧ j = -1 ∧ Q (.str (st (l.take (l.length - 1)))) H) := rfl
end
end L2



set_option linter.all false
set_option maxRecDepth 100000
namespace L2
open PySem PySem.Spec PyProof.Rows
section
variable {X : Cx} {pins : List (Addr × Obj)} {σ : St} {H : Hp} {s : Shared} {a : Addr} {y v : V} {u r : Value} {A : Around} {E : Value → Shared → Prop}
end
def cSetDef (td ty tx : TE) : TE := fun σ H Q => td σ H fun x H1 => match x with
  | .ref a => IsD H1 a ∧ ty σ H1 fun y H2 => tx σ H2 fun z H3 => ∃ kvs k, H3 a = some (.dK kvs) ∧ y = kV k ∧ kvs.length < sizeLine ∧ (∀ v, valV kvs k = some v → Q v H3) ∧ (valV kvs k = none → Q z (upd H3 a (.dK (putK kvs k z))))
  | _ => False
section
variable {X : Cx} {o e f : Expr} {apos cpos : Pos} {td ty tx : TE}
theorem a_cSetDef {σ : St} {H : Hp} {Q : VK} : cSetDef td ty tx σ H Q = td σ H fun x H1 => match x with
  | .ref a => IsD H1 a ∧ ty σ H1 fun y H2 => tx σ H2 fun z H3 => ∃ kvs k, H3 a = some (.dK kvs) ∧ y = kV k ∧ kvs.length < sizeLine ∧ (∀ v, valV kvs k = some v → Q v H3) ∧ (valV kvs k = none → Q z (upd H3 a (.dK (putK kvs k z))))
  | _ => False := rfl
def tRetD (te : TE) : TS := fun D σ H => te σ H fun x H1 => match x with
  | .ref a => ∃ kvs, H1 a = some (.dK kvs) ∧ ∀ ob, D.rt (.ref a) (upd H1 a (.frz ob (.dK kvs)))
  | _ => False
theorem Inv.frozen {pins : List (Addr × Obj)} {σ : St} {H : Hp} {s : Shared} {a : Addr} {kvs : List (Key × V)} (I : Inv X pins σ H s) (e : H a = some (.dK kvs)) : ∃ ob, Inv X pins σ (upd H a (.frz ob (.dK kvs))) s := by
  obtain ⟨z, hd, vs, rel, dd⟩ := dk_of I.hok e
  obtain ⟨ob, es, ep, hq, r⟩ := id dd
  refine ⟨ob, ?_⟩
  exact d_write (h' := s.heap) (t' := s.toks) I (by rw [e]; exact True.intro) ⟨rfl, fun _ _ => rfl⟩ ⟨ob, hq⟩ ⟨hq, dk_new z hd rel dd⟩
theorem a_tRetD {D : Ends} {σ : St} {H : Hp} : tRetD ty D σ H = ty σ H fun x H1 => match x with
  | .ref a => ∃ kvs, H1 a = some (.dK kvs) ∧ ∀ ob, D.rt (.ref a) (upd H1 a (.frz ob (.dK kvs)))
  | _ => False := rfl
end
end L2


set_option linter.all false
set_option maxRecDepth 100000
namespace L2
open PySem PySem.Spec PyProof.Rows
def epOf (o : Obj) : Nat := match o.data with | .dict _ ep => ep | _ => 0
def Itm (a : Addr) (o : Obj) (kvs : List (Key × V)) : It := ⟨fun i H => H a = some (.frz o (.dK kvs)) ∧ i < kvs.length, fun i H v H' => ∃ T k x, v = .ref T ∧ H T = none ∧ kvs[i]? = some (k, x) ∧ H' = upd H T (.tup [kV k, x]), fun i H => H a = some (.frz o (.dK kvs)) ∧ i = kvs.length⟩
theorem key_rel {P : Program} {w : World} {k : Key} {v : Value} (h : (mixKind P w).is k v = true) : RelV (kV k) v := by
  rcases keyIs_shape h with ⟨i, t, rfl, rfl⟩ | ⟨x, t, rfl, rfl⟩
  · exact ⟨t, rfl⟩
  · exact ⟨t, rfl⟩
theorem dict_at {X : Cx} {pins : List (Addr × Obj)} {σ : St} {H : Hp} {s : Shared} {a : Addr} {o : Obj} {kvs : List (Key × V)} (I : Inv X pins σ H s) (e : H a = some (.frz o (.dK kvs))) :
    ∃ vs, KV kvs vs ∧ s.heap.DictAt (mixKind X.prog X.w) a vs (epOf o) ∧ (a == sysModules) = false := by
  obtain ⟨h1, _, hd, vs, rel, ob, es, ep, hq, he, hdt, r⟩ := (show ObjOk X.prog X.w H s.heap a (.frz o (.dK kvs)) from I.hok a _ e)
  rw [h1] at hq
  cases hq
  refine ⟨vs, rel, ⟨o, es, h1, he, ?_, r⟩, hd⟩
  unfold epOf
  rw [hdt]
theorem turn_items {P : Program} {w : World} {K : PySem.W.Frag} {elts : List Expr} {kk : Nat} {pos : Pos} (a it : Addr) (hne : a ≠ it) (o : Obj) (kvs : List (Key × V)) :
    Turn P w K (.Tuple elts kk pos) (Itm a o kvs) [it] it (fun i h => ∃ ok ov, IsItemIter h it a i kvs.length (epOf o) ok ov) where
  mem := by simp
  obj := fun i h st b hb => by
    obtain ⟨ok, ov, he⟩ := st
    have e : b = it := by simpa using hb
    subst e
    exact ⟨_, he, fun v z => by
      have z' : Data.fields _ = Data.cell v := z
      cases z'⟩
  keep := fun i h h' st k => by
    obtain ⟨ok, ov, he⟩ := st
    exact ⟨ok, ov, k it (by simp) _ he⟩
  item := by
    intro X hP hw hK hc i pins s σ H E I hf st hg
    subst hP hw hK
    obtain ⟨ok, ov, he⟩ := st
    obtain ⟨hq, hi⟩ := hg
    obtain ⟨vs, rel, hm, hd⟩ := dict_at I hq
    have hl := rel.length
    obtain ⟨⟨k, x⟩, hx⟩ : ∃ p, kvs[i]? = some p := ⟨kvs[i], by simp [hi]⟩
    obtain ⟨⟨k', u⟩, hu, hkk, ru⟩ := paired_at rel hx
    obtain rfl : k = k' := hkk
    rw [hl] at he
    refine wpAny_pyNext_items_item he hm hu fun key h' hkey ho hT hsz hk => ⟨_, rfl, ?_⟩
    refine wpAny_letOwnedTupleGo_items ho fun h'' he'' hs => ?_
    have ti : s.heap.objs.size ≠ it := Nat.ne_of_gt (Heap.lt_size he)
    have hT2 : h''.IsTuple s.heap.objs.size #[key, u] := ⟨_, hs.extBut _ _ ti hT, rfl, _, rfl⟩
    have I1 : Inv X pins σ (upd H s.heap.objs.size (.tup [kV k, x])) { s with heap := h'', toks := s.toks } := by
      refine I.turnedLaid (its := [it]) (fun b ob hb q => hs.extBut b ob (by simpa using hb) (hk b ob (by simpa using hb) q)) hf (Nat.le_refl _) ?_ I.tk
      exact ⟨by show 2 ≤ sizeLine; decide, [key, u], .cons (key_rel hkey) (.cons ru .nil), hT2⟩
    refine ⟨.ref s.heap.objs.size, _, I1, rfl, ⟨_, k, x, rfl, I.hok.fresh (Nat.le_refl _), hx, rfl⟩, ⟨key, u, by rw [hl]; exact he''⟩, fun b hb => ?_⟩
    have e : b = it := by simpa using hb
    subst e
    rw [upd_ne (Ne.symm ti)]
    exact (hf b hb).1
  done := by
    intro X hP hw hK hc i pins s σ H E I hf st hg
    subst hP hw hK
    obtain ⟨ok, ov, he⟩ := st
    obtain ⟨hq, rfl⟩ := hg
    obtain ⟨vs, rel, hm, hd⟩ := dict_at I hq
    have hl := rel.length
    rw [hl] at he
    refine wpAny_pyNext_items_end (I.ok.hd hc) he hm (by simp) fun h' hx => ⟨rfl, I.turnedL (its := [it]) (fun b o hb q => hx b o (by simpa using hb) q) hf I.tk⟩
  self := fun A i s Q E st h => by
    obtain ⟨ok, ov, he⟩ := st
    exact PySem.W.kcp_self he h
section
variable {X : Cx} {o : Expr} {to : TE} {apos cpos : Pos}
def cItems (to : TE) : TI := fun σ H R => to σ H fun x H1 => match x with
  | .ref a => ∃ ob kvs, H1 a = some (.frz ob (.dK kvs)) ∧ R (Itm a ob kvs) H1
  | _ => False
theorem qi_items {elts : List Expr} {kk : Nat} {tpos : Pos} (ho : PE X o to) (hbase : attributeBase o "items" X.env (eval o X.env) = eval o X.env := by rfl) (hline : (apos.endLine == cpos.line) = true := by rfl) :
    PI X (.Tuple elts kk tpos) (.Call (.Attribute o "items" apos) [] [] cpos) (cItems to) := by
  intro pins s σ H R I h
  refine wpAny_Call_method hbase rfl hline PySem.F.plainAttrs_dict PySem.F.slot_dict_items PySem.F.type_dict_items (thn (ho pins s σ H _ I h) fun u s1 ⟨x, H1, I1, rx, q1⟩ => ?_)
  dsimp only at q1
  split at q1
  · rename_i a
    obtain ⟨ob, kvs, e1, q1⟩ := q1
    obtain rfl : u = Value.ref a := rx
    obtain ⟨t1, t2, hd⟩ := isD_at I1 (.inl ⟨kvs, .inr ⟨ob, e1⟩⟩)
    refine ⟨t1, t2, callWith_method0 ?_⟩
    obtain ⟨vs, rel, hm, _⟩ := dict_at I1 e1
    refine call_meetsIn PySem.F.slot_dict_items t1 PySem.F.entry_dict_items (PySem.F.args_dict_items_1 _) (meets_dict_items (mixKind X.prog X.w) a hd) ⟨⟨vs, hm.dictOf⟩, ?_⟩
    have I2 : Inv X pins σ H1 { s1 with heap := s1.heap.push { cls := .type "dict_items", data := .fields #[.ref a] }, toks := s1.toks } := I1.kept fun b o e => Heap.get?_push_of_some _ e
    have hm2 : (s1.heap.push { cls := .type "dict_items", data := .fields #[.ref a] }).DictAt (mixKind X.prog X.w) a vs (epOf ob) := hm.push _
    refine wpAny_pyIter_items (d := a) (kvs := vs) (ep := epOf ob) ⟨_, Heap.get?_push_size _ rfl, rfl, rfl⟩ hm2 ?_
    have hlt : a < (s1.heap.push { cls := .type "dict_items", data := .fields #[.ref a] }).objs.size := hm2.lt_size
    refine ⟨_, [_], _, Itm a ob kvs, H1, rfl, I2.kept (t' := s1.toks) fun b o e => Heap.get?_push_of_some _ e, turn_items a _ (Nat.ne_of_lt hlt) ob kvs, ⟨.none, .none, ?_⟩, fun b hb => ?_, q1⟩
    · rw [rel.length]
      exact Heap.get?_push_size _ rfl
    · have e := List.mem_singleton.mp hb
      subst e
      exact I2.fpOk (Nat.le_refl _) (I2.hok.fresh (Nat.le_refl _))
  · exact q1.elim
theorem a_cItems {σ : St} {H : Hp} {R : It → Hp → Prop} : cItems to σ H R = to σ H fun x H1 => match x with
  | .ref a => ∃ ob kvs, H1 a = some (.frz ob (.dK kvs)) ∧ R (Itm a ob kvs) H1
  | _ => False := rfl
end
def KVal (p : Key × V) : Prop := ∃ i, p.2 = V.int i
def dEq (ka kb : List (Key × V)) : Bool := ka.length == kb.length && ka.all fun p => match p.2, valV kb p.1 with | .int i, some (.int j) => i == j | _, _ => false
section
variable {X : Cx}
def kEqDict : R2 := fun x y H Q => match x, y with
  | .ref a, .ref b => ∃ ka kb, Rd H a (.dK ka) ∧ Rd H b (.dK kb) ∧ (∀ p ∈ ka, KVal p) ∧ (∀ p ∈ kb, KVal p) ∧ Q (.bl (dEq ka kb)) H
  | _, _ => False
end
end L2


set_option linter.all false
set_option maxRecDepth 100000
namespace L2
open PySem PySem.Spec PyProof.Rows
section
variable {K : PySem.W.Frag} {g : TG} {tc : TT} {te : TE} {σc : St} {D : Addr} {Q : VK} {H : Hp} {td ty : TE}
theorem a_tBreak {Dn : Ends} {σ : St} : tBreak Dn σ H = Dn.bk σ H := rfl
theorem a_kEqDict {a b : Addr} : kEqDict (.ref a) (.ref b) H Q = ∃ ka kb, Rd H a (.dK ka) ∧ Rd H b (.dK kb) ∧ (∀ p ∈ ka, KVal p) ∧ (∀ p ∈ kb, KVal p) ∧ Q (.bl (dEq ka kb)) H := rfl
theorem comp_itemsR {α : Type} (f : α → Key × V) (xs : List α) (keep : α → Bool) (R : α → V → Hp → Prop) {a : Addr} {ob : Obj} (hfree : H D = none) (hl : H a = some (.frz ob (.dK (xs.map f)))) (hn : xs.length ≤ 100000)
    (mono : ∀ x v H1 H2 acc, H1 D = some (.lst acc) → (∀ b o, b ≠ D → H1 b = some o → H2 b = some o) → R x v H1 → R x v H2)
    (hs : ∀ x T H1 (out : VK) (non : Hp → Prop), x ∈ xs → Same H H1 → H1 T = some (.tup [kV (f x).1, (f x).2]) → (∀ v H6, keep x = true → Same H1 H6 → R x v H6 → out v H6) → (∀ H5, keep x = false → Same H1 H5 → non H5) →
      g (.ref T) σc H1 fun σ4 H4 => tc σ4 H4 fun b H5 => if b = true then te σ4 H5 out else non H5)
    (hq : ∀ H' vs, Same H H' → H' D = some (.lst vs) → Paired (fun x v => R x v H') (xs.filter keep) vs → Q (.ref D) H') : compW (Itm a ob (xs.map f)) g tc te σc D Q H := by
  refine ⟨fun i m acc H2 => m = xs.length - i ∧ i ≤ xs.length ∧ Paired (fun x v => R x v H2) ((xs.take i).filter keep) acc ∧ Same H H2 ∧ H2 D = some (.lst acc), ⟨xs.length, by simp, Nat.zero_le _, .nil, same_new hfree _, upd_same⟩, ?_⟩
  rintro i m acc H2 ⟨rfl, hi, pr, sm, hD⟩
  have len : acc.length ≤ i := by
    have a := pr.length
    have b := List.length_filter_le keep (xs.take i)
    rw [List.length_take] at b
    omega
  by_cases hlt : i < xs.length
  · refine .inr ⟨⟨sm _ _ hl, by simpa using hlt⟩, fun x H3 y => ?_⟩
    obtain ⟨T, k, u, rfl, hT, hk, rfl⟩ := y
    rw [List.getElem?_map, List.getElem?_eq_getElem hlt] at hk
    have e2 : f xs[i] = (k, u) := Option.some.inj hk
    have ht : xs.take (i + 1) = xs.take i ++ [xs[i]] := by rw [List.take_add_one, List.getElem?_eq_getElem hlt]; rfl
    have s3 := same_new hT (.tup [kV k, u])
    have hD3 := s3 _ _ hD
    refine hs xs[i] T _ _ _ (List.getElem_mem hlt) (sm.trans s3) (by rw [e2]; exact upd_same) (fun v H6 k s6 r => ?_) fun H5 k s5 => ?_
    · refine ⟨s6 _ _ hD3, Nat.lt_of_le_of_lt len (sizeBig (by omega)), xs.length - (i + 1), by omega, rfl, hlt, ?_, ?_, upd_same⟩
      · have m1 : ∀ x v, R x v H6 → R x v (upd H6 D (.lst (acc ++ [v]))) := fun x v r => mono x v H6 _ acc (s6 _ _ hD3) (fun b o nb q => by rw [upd_ne nb]; exact q) r
        rw [ht, List.filter_append]
        have f1 : [xs[i]].filter keep = [xs[i]] := by simp [k]
        rw [f1]
        have lift : ∀ {l : List α} {vs : List V}, Paired (fun x v => R x v H2) l vs → Paired (fun x v' => R x v' (upd H6 D (.lst (acc ++ [v])))) l vs := by
          intro l vs pp
          induction pp with
          | nil => exact .nil
          | cons r _ ih => exact .cons (mono _ _ H2 _ acc hD (fun b o nb q => by rw [upd_ne nb]; exact s6 _ _ (s3 _ _ q)) r) ih
        have app : ∀ {l : List α} {vs : List V} {x : α} {v' : V} {F : α → V → Prop}, Paired F l vs → F x v' → Paired F (l ++ [x]) (vs ++ [v']) := by
          intro l vs x v' F pp r
          induction pp with
          | nil => exact .cons r .nil
          | cons r' _ ih => exact .cons r' ih
        exact app (lift pr) (m1 _ _ r)
      · exact same_upd (sm.trans (s3.trans s6)) hfree
    · refine ⟨xs.length - (i + 1), by omega, rfl, hlt, ?_, sm.trans (s3.trans s5), s5 _ _ hD3⟩
      rw [ht, List.filter_append]
      have f1 : [xs[i]].filter keep = [] := by simp [k]
      rw [f1, List.append_nil]
      have lift : ∀ {l : List α} {vs : List V}, Paired (fun x v => R x v H2) l vs → Paired (fun x v' => R x v' H5) l vs := by
        intro l vs pp
        induction pp with
        | nil => exact .nil
        | cons r _ ih => exact .cons (mono _ _ H2 _ acc hD (fun b o _ q => s5 _ _ (s3 _ _ q)) r) ih
      exact lift pr
  · have e : i = xs.length := by omega
    subst e
    rw [List.take_length] at pr
    exact .inl ⟨⟨sm _ _ hl, by simp⟩, hq H2 acc sm hD pr⟩
end
end L2


set_option linter.all false
set_option maxRecDepth 100000
namespace L2
open PySem PySem.Spec PyProof.Rows
section
variable {K : PySem.W.Frag} {J : It} {g : TG} {tc : TT} {te : TE} {σc : St} {D : Addr} {Q : VK} {H : Hp}
end
end L2


set_option linter.all false
set_option maxRecDepth 100000
namespace L2
open PySem PySem.Spec PyProof.Rows
section
variable {X : Cx} {e : Expr} {te : TE} {pos : Pos}
def cFmtI (tv : TE) : TE := fun σ H Q => tv σ H fun x H1 => match x with
  | .int i => -100 ≤ i ∧ i ≤ 100 ∧ ∀ z : Str, z.length ≤ 200000 → Q (.str z) H1
  | _ => False
theorem a_cFmtI {tv : TE} {σ : St} {H : Hp} {Q : VK} : cFmtI tv σ H Q = tv σ H fun x H1 => match x with
  | .int i => -100 ≤ i ∧ i ≤ 100 ∧ ∀ z : Str, z.length ≤ 200000 → Q (.str z) H1
  | _ => False := rfl
end
end L2


set_option linter.all false
set_option maxRecDepth 100000
namespace L2
open PySem PySem.Spec PyProof.Rows
section
variable {X : Cx} {o e : Expr} {to te : TE} {apos cpos : Pos}
def cPopAt (to te : TE) : TE := fun σ H Q => to σ H fun x H1 => match x with
  | .ref l => (∃ xs, H1 l = some (.lst xs)) ∧ te σ H1 fun y H2 => match y with
    | .int i => ∃ (xs : List V) (k : Nat) (v : V), i = (k : Int) ∧ H2 l = some (.lst xs) ∧ xs.length ≤ 100000 ∧ xs[k]? = some v ∧ Q v (upd H2 l (.lst (xs.eraseIdx k)))
    | _ => False
  | _ => False
theorem a_cPopAt {σ : St} {H : Hp} {Q : VK} : cPopAt to te σ H Q = to σ H fun x H1 => match x with
  | .ref l => (∃ xs, H1 l = some (.lst xs)) ∧ te σ H1 fun y H2 => match y with
    | .int i => ∃ (xs : List V) (k : Nat) (v : V), i = (k : Int) ∧ H2 l = some (.lst xs) ∧ xs.length ≤ 100000 ∧ xs[k]? = some v ∧ Q v (upd H2 l (.lst (xs.eraseIdx k)))
    | _ => False
  | _ => False := rfl
end
end L2


set_option linter.all false
set_option maxRecDepth 100000
namespace L2
open PySem PySem.Spec PyProof.Rows PySem.W
def Xt (K : PySem.W.Frag) (mg : Str → Option Value) (x : Str) : Prop := mg x = some (.ref (xA K x)) ∧ typeIn K (.ref (xA K x)) = some (.type "type") ∧ mroIn K (xA K x) (.type "BaseException") = some true
theorem Xn.t {K : PySem.W.Frag} {mg : Str → Option Value} {x : Str} (n : Xn K mg x) : Xt K mg x := ⟨n.1, n.2.ty, n.2.mb⟩
theorem xt_mk {K : PySem.W.Frag} {h : Heap} {mg : Str → Option Value} {x : Str} {C : Addr} (X : K.In h) (G : h.Ns mainGlobals mg) (n : nsIn K mainGlobals x = some (some (.ref C))) (ty : typeIn K (.ref C) = some (.type "type")) (mb : mroIn K C (.type "BaseException") = some true) : Xt K mg x := by
  unfold Xt
  rw [xA_eq n]
  exact ⟨mg_of X G n, ty, mb⟩
theorem Xt.kit {K : PySem.W.Frag} {mg : Str → Option Value} {x y : Str} {b : Bool} (m : Xm K x y b) (n : Xt K mg y) : kitOne K (.ref (xA K x)) (.ref (xA K y)) = some b := by
  obtain ⟨_, ty, mb⟩ := n
  have known : (clsIn K (xA K y)).isSome = true := by
    cases e : clsIn K (xA K y) with
    | some _ => rfl
    | none => unfold mroIn at mb; rw [e] at mb; cases mb
  unfold kitOne
  split
  · rename_i q
    cases b with
    | true => rfl
    | false => exact absurd (Value.ref.inj (eq_of_beq q)) (m.2 rfl)
  · unfold kitCls
    dsimp only
    rw [if_pos (by rw [known, ty]; simp)]
    exact m.1
theorem qe_clsT {X : Cx} {K : PySem.W.Frag} {x : Str} {pos : Pos} (n : Xt K X.mg x) (hg : Gl X x) (hd : (x == ("__debug__" : Str)) = false := by decide) : PE X (.Name x pos) (tC (.ref (xA K x))) := pe_glob (v := .ref (xA K x)) hg n.1 rfl hd
end L2


namespace L2
open PySem PySem.Spec PyProof.Rows
set_option maxRecDepth 100000
section
variable {prog : Program} {w : World} {A : Around} {s : Shared} {E : Value → Shared → Prop}
end

theorem ObjOk.there {P : Program} {w : World} {H : Hp} {h : Heap} {a : Addr} {o : HO} (x : ObjOk P w H h a o) : ∃ ob, h.get? a = some ob := by
  induction o with
  | lst xs => obtain ⟨_, _, _, _, e⟩ := x; exact ⟨_, e⟩
  | tup xs => obtain ⟨_, _, _, _, e, _⟩ := x; exact ⟨_, e⟩
  | dK kvs => obtain ⟨_, _, _, _, _, _, _, e, _⟩ := x; exact ⟨_, e⟩
  | dT kvs => obtain ⟨_, _, _, _, _, _, _, e, _⟩ := x; exact ⟨_, e⟩
  | set S n => obtain ⟨_, _, _, _, e, _⟩ := x; exact ⟨_, e⟩
  | ins C dx fs => obtain ⟨_, _, _, e, _⟩ := x; exact ⟨_, e⟩
  | own y => exact x
  | xd fs => obtain ⟨_, ⟨_, _, _, e, _⟩, _⟩ := x; exact ⟨_, e⟩
  | rng lo hi => obtain ⟨_, _, _, e⟩ := x; exact ⟨_, e⟩
  | frz ob u ih => obtain ⟨e, _⟩ := x; exact ⟨_, e⟩
  | tbl ps => exact ⟨_, x⟩
  | met f y => exact ⟨_, x⟩
  | ext φ => obtain ⟨_, e, _⟩ := x; exact e
section
variable {X : Cx} {pins : List (Addr × Obj)} {σ : St} {H : Hp} {s : Shared}
end
def Desc {α : Type} (g : α → Nat) (xs xs' : List α) : Prop := xs'.Perm xs ∧ xs'.Pairwise fun a b => g b ≤ g a

theorem paired_perm {α β : Type} {R : α → β → Prop} {l l' : List α} (p : l'.Perm l) : ∀ {m : List β}, Paired R l m → ∃ m' : List β, m'.Perm m ∧ Paired R l' m' := by
  induction p with
  | nil => exact fun {m} h => ⟨m, .refl _, h⟩
  | cons x _ ih =>
    intro m h
    cases h with
    | cons a r =>
      obtain ⟨m', q1, q2⟩ := ih r
      exact ⟨_ :: m', q1.cons _, .cons a q2⟩
  | swap x y l =>
    intro m h
    cases h with
    | cons a r =>
      cases r with
      | cons b r => exact ⟨_, .swap _ _ _, .cons b (.cons a r)⟩
  | trans _ _ ih1 ih2 =>
    intro m h
    obtain ⟨m1, q1, q2⟩ := ih2 h
    obtain ⟨m2, q3, q4⟩ := ih1 q2
    exact ⟨m2, q3.trans q1, q4⟩
theorem paired_memr {α β : Type} {R : α → β → Prop} : ∀ {l : List α} {m : List β}, Paired R l m → ∀ b ∈ m, ∃ a ∈ l, R a b
  | _, _, .nil, b, h => absurd h List.not_mem_nil
  | _, _, .cons q r, b, h => by
    rcases List.mem_cons.mp h with e | h
    · rw [e]; exact ⟨_, List.mem_cons_self .., q⟩
    · obtain ⟨a, h1, h2⟩ := paired_memr r b h
      exact ⟨a, List.mem_cons_of_mem _ h1, h2⟩
theorem paired_pairwise {α β : Type} {R : α → β → Prop} {S : α → α → Prop} {S' : β → β → Prop} (f : ∀ a b c d, R a b → R c d → S a c → S' b d) : ∀ {l : List α} {m : List β}, Paired R l m → l.Pairwise S → m.Pairwise S'
  | _, _, .nil, _ => .nil
  | _, _, .cons a r, h => by
    obtain ⟨h1, h2⟩ := List.pairwise_cons.mp h
    refine List.pairwise_cons.mpr ⟨fun d hd => ?_, paired_pairwise f r h2⟩
    obtain ⟨c, hc, rc⟩ := paired_memr r d hd
    exact f _ _ _ _ a rc (h1 c hc)
structure LamAt (K : PySem.W.Frag) (mg : Str → Option Value) (c P : Addr) : Prop where
  code : ∃ od vs sl file tf flags tg inF text tt, K.lookup c = some ⟨.type "code", od, .fields vs, sl⟩ ∧ vs[11]? = some (.ref P) ∧ vs.getD 11 .none = .ref P ∧ vs.getD 18 .none = .str file tf ∧
    vs.getD 7 .none = .int flags tg ∧ vs.getD 9 .none = .bool inF ∧ vs.getD 10 .none = .int text tt
  ne : c ≠ P
  bm : ∃ b sl, mg "__builtins__" = some (.ref b) ∧ b ≠ builtinsNs ∧ b ≠ mainGlobals ∧ K.lookup b = some ⟨.type "module", some builtinsNs, .plain, sl⟩
theorem LamAt.hd {K : PySem.W.Frag} {mg : Str → Option Value} {c P : Addr} {h : Heap} (L : LamAt K mg c P) (X : K.In h) : PySem.W.CodeHd h c P := by
  obtain ⟨od, vs, sl, file, tf, flags, tg, inF, text, tt, e1, e2, e3, e4, e5, e6, e7⟩ := L.code
  exact ⟨_, vs, file, tf, flags, tg, inF, text, tt, X _ _ e1, rfl, rfl, e2, e3, e4, e5, e6, e7, L.ne⟩
section
variable {X : Cx}
def cSortLen (K : PySem.W.Frag) (P : Addr) (te : TE) : TE := fun σ H Q => te σ H fun v H1 => match v with
  | .ref p => ∃ (xs : List V) (key : V → Nat), SqL K H1 p xs ∧ xs.length < 64 ∧ (∀ x ∈ xs, ∃ r y rest, x = .ref r ∧ SqT K H1 r (.str y :: rest) ∧ y.length ≤ sizeLine ∧ key x = y.length) ∧ H1 P = some (.tbl #[]) ∧
      ∀ q more xs', H1 q = none → q ≠ P → Desc key xs xs' → Q (.ref q) (upd (upd H1 P (.tbl more)) q (.lst xs'))
  | _ => False
end
end L2


namespace L2
open PySem PySem.Spec PyProof.Rows
set_option maxRecDepth 100000
def isTab (o : Obj) : Bool := match o.cls, o.data with
  | .none, .fields vs => vs.isEmpty
  | _, _ => false
def cut (K : PySem.W.Frag) : PySem.W.Frag := K.filter fun p => !isTab p.2
theorem cut_lookup : ∀ {K : PySem.W.Frag} {a : Addr} {o : Obj}, K.lookup a = some o → isTab o = false → (cut K).lookup a = some o
  | [], _, _, e, _ => by cases e
  | (b, x) :: K, a, o, e, h => by
    unfold cut
    rw [List.lookup_cons] at e
    rw [List.filter_cons]
    cases hb : a == b with
    | true =>
      rw [hb] at e
      cases e
      rw [if_pos (by simp [h]), List.lookup_cons, hb]
    | false =>
      rw [hb] at e
      have := cut_lookup e h
      by_cases hx : (!isTab x) = true
      · rw [if_pos hx, List.lookup_cons, hb]; exact this
      · rw [if_neg hx]; exact this
theorem cut_ns {K : PySem.W.Frag} {n : Addr} {x : Str} {r : Option Value} (h : PySem.W.nsIn K n x = some r) : PySem.W.nsIn (cut K) n x = some r := by
  unfold PySem.W.nsIn at h ⊢
  cases q : K.lookup n with
  | none => rw [q] at h; cases h
  | some o =>
    rw [q] at h
    obtain ⟨cl, od, da, sl⟩ := o
    cases da with
    | dict es ep => rw [cut_lookup q (by unfold isTab; cases cl <;> rfl)]; exact h
    | _ => cases h
theorem cut_tab {K : PySem.W.Frag} {x : Str} {c P : Addr} (h : PySem.W.tabIn K x = some (c, P)) : PySem.W.tabIn (cut K) x = some (c, P) := by
  unfold PySem.W.tabIn at h ⊢
  split at h
  · rename_i f hf
    simp only [cut_ns hf]
    split at h
    · rename_i hfo
      simp only [cut_lookup hfo (by unfold isTab; split <;> first | rfl | (rename_i q; cases q))]
      split at h
      · rename_i c₂ hc
        split at h
        · rename_i vs _ hco
          split at h
          · rename_i P₂ hv
            have hn : ∀ cl od sl, isTab ⟨cl, od, .fields vs, sl⟩ = false := fun cl od sl => by
              unfold isTab
              cases cl <;> try rfl
              show vs.isEmpty = false
              cases z : vs.isEmpty with
              | false => rfl
              | true =>
                have z : vs = #[] := by simpa using z
                rw [z] at hv
                cases hv
            simp only [cut_lookup hco (hn _ _ _), hv]
            exact h
          · cases h
        · cases h
      · cases h
    · cases h
  · cases h
structure LamFn (K : PySem.W.Frag) (mg : Str → Option Value) (x : Str) (c P : Addr) : Prop where
  tb : PySem.W.tabIn K x = some (c, P)
  cd : ∀ f fd oc od sl, mg x = some (.ref f) → K.lookup f = some ⟨oc, od, .func fd, sl⟩ → fd.code = .ref c
  lam : LamAt K mg c P
theorem lamfn_mk {K : PySem.W.Frag} {h : Heap} {mg : Str → Option Value} {x : Str} {c P b : Addr} {od : Option Addr} {vs : Array Value} {sl sl2 : Array (Option Value)} {file : Str} {tf tg tt : Tok} {flags text : Int} {inF : Bool} (X : K.In h) (G : h.Ns mainGlobals mg)
    (tb : PySem.W.tabIn K x = some (c, P)) (e1 : K.lookup c = some ⟨.type "code", od, .fields vs, sl⟩) (e2 : vs[11]? = some (.ref P)) (e4 : vs.getD 18 .none = .str file tf) (e5 : vs.getD 7 .none = .int flags tg) (e6 : vs.getD 9 .none = .bool inF) (e7 : vs.getD 10 .none = .int text tt) (ne : c ≠ P)
    (b1 : PySem.W.nsIn K mainGlobals "__builtins__" = some (some (.ref b))) (b2 : b ≠ builtinsNs) (b3 : b ≠ mainGlobals) (b4 : K.lookup b = some ⟨.type "module", some builtinsNs, .plain, sl2⟩) : LamFn K mg x c P where
  tb := tb
  cd := fun f fd oc od sl hm ho => PySem.W.law_code X G tb hm (X _ _ ho) rfl
  lam := ⟨⟨od, vs, sl, file, tf, flags, tg, inF, text, tt, e1, e2, by
      have : vs.getD 11 .none = (vs[11]?).getD .none := by simp [Array.getD_eq_getD_getElem?]
      rw [this, e2]; rfl, e4, e5, e6, e7⟩, ne, b, sl2, PySem.W.mg_of X G b1, b2, b3, b4⟩
end L2


namespace L2
open PySem PySem.Spec PyProof.Rows
set_option maxRecDepth 100000
section
variable {X : Cx}
def kMax (K : PySem.W.Frag) : List V → Hp → VK → Prop := fun xs H Q => match xs with
  | [.ref p] => ∃ ns : List Int, SqL K H p (ns.map V.int) ∧ 0 < ns.length ∧ ∀ M, M ∈ ns → (∀ a ∈ ns, a ≤ M) → Q (.int M) H
  | _ => False
theorem a_kMax {K : PySem.W.Frag} {p : Addr} {H : Hp} {Q : VK} : kMax K [.ref p] H Q = ∃ ns : List Int, SqL K H p (ns.map V.int) ∧ 0 < ns.length ∧ ∀ M, M ∈ ns → (∀ a ∈ ns, a ≤ M) → Q (.int M) H := rfl
theorem a_cSortLen {K : PySem.W.Frag} {P : Addr} {te : TE} {σ : St} {H : Hp} {Q : VK} : cSortLen K P te σ H Q = te σ H fun v H1 => match v with
  | .ref p => ∃ (xs : List V) (key : V → Nat), SqL K H1 p xs ∧ xs.length < 64 ∧ (∀ x ∈ xs, ∃ r y rest, x = .ref r ∧ SqT K H1 r (.str y :: rest) ∧ y.length ≤ sizeLine ∧ key x = y.length) ∧ H1 P = some (.tbl #[]) ∧
      ∀ q more xs', H1 q = none → q ≠ P → Desc key xs xs' → Q (.ref q) (upd (upd H1 P (.tbl more)) q (.lst xs'))
  | _ => False := rfl
end
end L2
namespace L2
open PySem PySem.Spec PyProof.Rows
structure LamOk (K : PySem.W.Frag) (x : Str) (c T : Addr) : Prop where
  tb : PySem.W.tabIn K x = some (c, T)
  code : ∃ od vs sl file tf flags tg inF text tt, K.lookup c = some ⟨.type "code", od, .fields vs, sl⟩ ∧ vs[11]? = some (.ref T) ∧ vs.getD 18 .none = .str file tf ∧ vs.getD 7 .none = .int flags tg ∧ vs.getD 9 .none = .bool inF ∧ vs.getD 10 .none = .int text tt
  ne : c ≠ T
  bm : ∃ b sl, PySem.W.nsIn K mainGlobals "__builtins__" = some (some (.ref b)) ∧ b ≠ builtinsNs ∧ b ≠ mainGlobals ∧ K.lookup b = some ⟨.type "module", some builtinsNs, .plain, sl⟩
  tab : K.lookup T = some (PySem.W.tabObj #[])
theorem not_tab {o : Obj} (h : o.cls ≠ .none) : isTab o = false := by
  unfold isTab
  split
  · rename_i a b; exact absurd a h
  · rfl
theorem LamOk.fn {K : PySem.W.Frag} {x : Str} {c T : Addr} {h : Heap} {mg : Str → Option Value} (L : LamOk K x c T) (X : (cut K).In h) (G : h.Ns mainGlobals mg) : LamFn (cut K) mg x c T := by
  obtain ⟨od, vs, sl, file, tf, flags, tg, inF, text, tt, e1, e2, e4, e5, e6, e7⟩ := L.code
  obtain ⟨b, sl2, b1, b2, b3, b4⟩ := L.bm
  exact lamfn_mk X G (cut_tab L.tb) (cut_lookup e1 (not_tab (by nofun))) e2 e4 e5 e6 e7 L.ne (cut_ns b1) b2 b3 (cut_lookup b4 (not_tab (by nofun)))
end L2


namespace L2
open PySem PySem.Spec PyProof.Rows
set_option maxRecDepth 100000
def tupEq (H : Hp) (zs : List V) (y : V) : Bool := match y with
  | .ref t => match H t with
    | some (.tup ys) => eqDs (ys.map D.f) (zs.map D.f)
    | _ => false
  | _ => false
def FlatT (H : Hp) (y : V) : Prop := ∃ t ys, y = .ref t ∧ H t = some (.tup ys) ∧ ys.all flatV = true
section
variable {X : Cx}
def kInT (K : PySem.W.Frag) : R2 := fun x y H Q => match x, y with
  | .ref r, .ref p => ∃ zs xs, SqL K H p xs ∧ H r = some (.tup zs) ∧ zs.all flatV = true ∧ (∀ y ∈ xs, FlatT H y) ∧ Q (.bl (xs.any (tupEq H zs))) H
  | _, _ => False
theorem a_kInT {K : PySem.W.Frag} {r p : Addr} {H : Hp} {Q : VK} : kInT K (.ref r) (.ref p) H Q = ∃ zs xs, SqL K H p xs ∧ H r = some (.tup zs) ∧ zs.all flatV = true ∧ (∀ y ∈ xs, FlatT H y) ∧ Q (.bl (xs.any (tupEq H zs))) H := rfl
end
end L2


namespace L2
open PySem PySem.Spec PyProof.Rows
set_option maxRecDepth 100000
structure ClsT (K : PySem.W.Frag) (mg : Str → Option Value) (x : Str) : Prop where
  m : mg x = some (.ref (xA K x))
  c : Cls K (xA K x)
def MethT (K : PySem.W.Frag) (x m qual : Str) (st : Stmt) : Prop := ∃ f fd, Meth K (xA K x) m f ∧ Fun K m qual st f fd
def MkT (K : PySem.W.Frag) (x qual : Str) (st : Stmt) : Prop := ∃ f fd, Mk K (xA K x) f ∧ Fun K "__init__" qual st f fd
def MCal (P : Program) (w : World) (K : PySem.W.Frag) (mg : Str → Option Value) (base : Heap) (k : Nat) (x m : Str) (ps : List Str) (sp : Sp) : Prop :=
  ∃ f fd, FnOk P w K mg base CX0 k f fd ps sp ∧ Binds K fd ps [] ∧ Meth K (xA K x) m f
def KCal (P : Program) (w : World) (K : PySem.W.Frag) (mg : Str → Option Value) (base : Heap) (k : Nat) (x : Str) (ps : List Str) (sp : Sp) : Prop :=
  ∃ f fd, FnOk P w K mg base CX0 k f fd ps sp ∧ Binds K fd ps [] ∧ Mk K (xA K x) f
theorem MethT.cal {P : Program} {w : World} {K : PySem.W.Frag} {mg : Str → Option Value} {base : Heap} {x m qual : Str} {st : Stmt} {N ps : List Str} {k : Nat} {sp : Sp} (F : MethT K x m qual st) (S : FnScope N ps (defScope st)) (len : ∀ vs H Q E, sp vs H Q E → vs.length = ps.length)
    (hb : ∀ (kV doc pm : Value) (an : Option Addr) (cdv ct : Value) (us : List Value), us.length = ps.length → bindArgs (PySem.W.fnOf m qual (defArgs st) (defBody st) (defScope st) .none kV doc pm an cdv ct) ⟨us, []⟩ = pure (ps.zip us))
    (hbody : ∀ (f : Addr) (cdv : Value) (A : Around) (outer : List Env) (s : Shared) (H : Hp) (vs : List V) (Q : VK) (E : XK), Room k (A.deeper (envOfC qual (defScope st) s.heap.objs.size f cdv)) → sp vs H Q E →
      ∃ t, PSs (cxOf CX0 P w K mg base N qual (defScope st) f cdv A outer s H E).nox (defBody st) t ∧ t { nx := fun _ H' => Q .non H', rt := Q } (start N vs) H) : MCal P w K mg base (k + 1) x m ps sp := by
  obtain ⟨f, fd, M, F⟩ := F
  exact ⟨f, fd, F.ok S len (hbody f), F.binds hb, M⟩
theorem MkT.cal {P : Program} {w : World} {K : PySem.W.Frag} {mg : Str → Option Value} {base : Heap} {x qual : Str} {st : Stmt} {N ps : List Str} {k : Nat} {sp : Sp} (F : MkT K x qual st) (S : FnScope N ps (defScope st)) (len : ∀ vs H Q E, sp vs H Q E → vs.length = ps.length)
    (hb : ∀ (kV doc pm : Value) (an : Option Addr) (cdv ct : Value) (us : List Value), us.length = ps.length → bindArgs (PySem.W.fnOf "__init__" qual (defArgs st) (defBody st) (defScope st) .none kV doc pm an cdv ct) ⟨us, []⟩ = pure (ps.zip us))
    (hbody : ∀ (f : Addr) (cdv : Value) (A : Around) (outer : List Env) (s : Shared) (H : Hp) (vs : List V) (Q : VK) (E : XK), Room k (A.deeper (envOfC qual (defScope st) s.heap.objs.size f cdv)) → sp vs H Q E →
      ∃ t, PSs (cxOf CX0 P w K mg base N qual (defScope st) f cdv A outer s H E).nox (defBody st) t ∧ t { nx := fun _ H' => Q .non H', rt := Q } (start N vs) H) : KCal P w K mg base (k + 1) x ps sp := by
  obtain ⟨f, fd, M, F⟩ := F
  exact ⟨f, fd, F.ok S len (hbody f), F.binds hb, M⟩
section
variable {X : Cx} {k : Nat} {x m : Str} {ps : List Str} {sp : Sp} {p pos apos : Pos} {e o : Expr} {es : List Expr} {ta : TE} {t : TA}
theorem pe_metT {pl : Sem Bool} (C : ClsT X.K X.mg x) (M : MCal X.prog X.w X.K X.mg X.base k x m ps sp) (hr : Room k X.A) (he : PE X o ta) (ha : PA X (e :: es) t)
    (hst : starEach (e :: es) X.env = (false, eval e X.env) :: starEach es X.env := by rfl) (hpl : (backTo pos (starEach es X.env)).any (·.1) = false := by rfl)
    (ht : eval (.Call (.Attribute o m apos) (e :: es) [] pos) X.env = (do
      let ov ← eval o X.env
      standAt apos.atName
      let (f, first) ← holding [ov] (getMethod ov m pl)
      callWith pos f first (backTo pos (starEach (e :: es) X.env)) (backToKw pos (keywordEach [] X.env))) := by rfl) :
    PE X (.Call (.Attribute o m apos) (e :: es) [] pos) (tMeth (xA X.K x) m sp [] E0 ta t) := by
  obtain ⟨f, fd, F, b, M⟩ := M
  exact pe_meth (pl := pl) he C.c M F hr b .nil pass0 ha hst hpl ht
theorem pe_mkT (C : ClsT X.K X.mg x) (M : KCal X.prog X.w X.K X.mg X.base k x ps sp) (hr : Room (k + 1) X.A) (hg : Gl X x) (hd : (x == ("__debug__" : Str)) = false := by decide) : PE X (.Call (.Name x p) [] [] pos) (tMake (xA X.K x) sp [] E0 tNil) := by
  obtain ⟨f, fd, F, b, M⟩ := M
  exact pe_make0 M F hr hg C.m b .nil pass0 hd
theorem a_tMeth {C : Addr} {E : XK} {dvs : List V} {σ : St} {H : Hp} {Q : VK} : tMeth C m sp dvs E ta t σ H Q = ta σ H fun x H1 => ∃ a dx fs, x = .ref a ∧ H1 a = some (.ins C dx fs) ∧ fs.lookup m = none ∧ t σ H1 fun vs H2 => sp (x :: (vs ++ dvs)) H2 Q E := rfl
theorem a_tMake {C : Addr} {E : XK} {dvs : List V} {σ : St} {H : Hp} {Q : VK} : tMake C sp dvs E t σ H Q = t σ H fun vs H1 => ∀ x dx, H1 x = none → H1 dx = none → dx ≠ x → sp (.ref x :: (vs ++ dvs)) (upd (upd H1 dx (.own x)) x (.ins C dx [])) (fun v H2 => v = .non ∧ Q (.ref x) H2) E := rfl
theorem a_tFld {K : PySem.W.Frag} {f : Str} {σ : St} {H : Hp} {Q : VK} : tFld K ta f σ H Q = ta σ H fun x H1 => ∃ a C dx fs v, x = .ref a ∧ H1 a = some (.ins C dx fs) ∧ Cls K C ∧ NoAttr K C f ∧ fs.lookup f = some v ∧ Q v H1 := rfl
theorem a_sFld {K : PySem.W.Frag} {tv : TE} {f : Str} {D : Ends} {σ : St} {H : Hp} : sFld K ta tv f D σ H = tv σ H fun y H1 => ta σ H1 fun x H2 => ∃ a C dx fs, x = .ref a ∧ H2 a = some (.ins C dx fs) ∧ Cls K C ∧ NoAttr K C f ∧ fs.length < 1000 ∧ D.nx σ (upd H2 a (.ins C dx (putF f y fs))) := rfl
def kTupL (K : PySem.W.Frag) : List V → Hp → VK → Prop := fun xs H Q => match xs with
  | [.ref p] => ∃ ys, SqL K H p ys ∧ ∀ l, H l = none → Q (.ref l) (upd H l (.tup ys))
  | _ => False
theorem a_kTupL {K : PySem.W.Frag} {p : Addr} {H : Hp} {Q : VK} : kTupL K [.ref p] H Q = ∃ ys, SqL K H p ys ∧ ∀ l, H l = none → Q (.ref l) (upd H l (.tup ys)) := rfl
end
end L2


namespace L2
open PySem PySem.Spec PyProof.Rows
set_option maxRecDepth 100000
section
variable {X : Cx}
def kMax2 : List V → Hp → VK → Prop := fun xs H Q => match xs with
  | [.int a, .int b] => Q (.int (if a < b then b else a)) H
  | _ => False
def kMin2 : List V → Hp → VK → Prop := fun xs H Q => match xs with
  | [.int a, .int b] => Q (.int (if b < a then b else a)) H
  | _ => False
theorem a_kMax2 {a b : Int} {H : Hp} {Q : VK} : kMax2 [.int a, .int b] H Q = Q (.int (if a < b then b else a)) H := rfl
theorem a_kMin2 {a b : Int} {H : Hp} {Q : VK} : kMin2 [.int a, .int b] H Q = Q (.int (if b < a then b else a)) H := rfl
theorem a_tChain {r r' : R2} {ta tb tc : TE} {σ : St} {H : Hp} {Q : VK} : tChain r r' ta tb tc σ H Q = ta σ H fun x H1 => tb σ H1 fun y H2 => r x y H2 fun z H3 => ∃ k, z = .bl k ∧ (if k = true then tc σ H3 fun w' H4 => r' y w' H4 Q else Q (.bl false) H3) := rfl
def cListRng2 (te tf : TE) : TE := fun σ H Q => te σ H fun x H1 => tf σ H1 fun y H2 => match x, y with
  | .int i, .int j => -1000 ≤ i ∧ i ≤ 1000 ∧ -1000 ≤ j ∧ j ≤ 100000 ∧ ∀ p, H2 p = none → Q (.ref p) (upd H2 p (.lst ((List.range (j - i).toNat).map fun (k : Nat) => V.int (i + k))))
  | _, _ => False
theorem a_cListRng2 {te tf : TE} {σ : St} {H : Hp} {Q : VK} : cListRng2 te tf σ H Q = te σ H fun x H1 => tf σ H1 fun y H2 => match x, y with
  | .int i, .int j => -1000 ≤ i ∧ i ≤ 1000 ∧ -1000 ≤ j ∧ j ≤ 100000 ∧ ∀ p, H2 p = none → Q (.ref p) (upd H2 p (.lst ((List.range (j - i).toNat).map fun (k : Nat) => V.int (i + k))))
  | _, _ => False := rfl
end
end L2
namespace L2
open PySem PySem.Spec PyProof.Rows
section
variable {X : Cx} {a b c : Expr} {ta tb tc : TE} {pos : Pos}
theorem a_tTest {te : TE} {σ : St} {H : Hp} {Q : Bool → Hp → Prop} : tTest te σ H Q = te σ H fun z H3 => ∃ k, z = .bl k ∧ Q k H3 := rfl
end
end L2
namespace L2
open PySem PySem.Spec PyProof.Rows
section
variable {K : PySem.W.Frag} {α : Type} {xs : List α} {item : α → V} {h : α → List V} {H : Hp} {D : Addr} {σc : St} {Q : VK}
end
end L2


set_option Elab.async false
set_option linter.all false
namespace L2
open PySem
section
variable {K : PySem.W.Frag} {h : Heap} {mg : Str → Option Value} {x m qual : Str} {C f : Addr} {fd : FuncData} {st : Stmt}
theorem clst_mk (X : K.In h) (G : h.Ns mainGlobals mg) (n : PySem.W.nsIn K mainGlobals x = some (some (.ref C))) (pg : PySem.W.plainGet K C Str.empty = true) (hd : PySem.W.hasDictIn K C = true) (po : PySem.W.plainOver K C = true)
    (sa : PySem.W.findIn K (.ref C) "__setattr__" = some (some (.builtin "object.__setattr__"))) : ClsT K mg x := ⟨by rw [xA_eq n]; exact PySem.W.mg_of X G n, by rw [xA_eq n]; exact ⟨pg, hd, po, sa⟩⟩
theorem noattr_mk {a : Str} (n : PySem.W.nsIn K mainGlobals x = some (some (.ref C))) (e : PySem.W.findIn K (.ref C) a = some none) : NoAttr K (xA K x) a := by rw [xA_eq n]; exact e
theorem metht_mk (n : PySem.W.nsIn K mainGlobals x = some (some (.ref C))) (a : PySem.W.findIn K (.ref C) m = some (some (.ref f))) (w : PySem.W.isFn K (.ref f) = true) (kp : PySem.W.keepIn K (.ref f) = true) (F : Fun K m qual st f fd) : MethT K x m qual st :=
  ⟨f, fd, by rw [xA_eq n]; exact ⟨a, w, kp⟩, F⟩
theorem mkt_mk (n : PySem.W.nsIn K mainGlobals x = some (some (.ref C))) (mk : PySem.W.makesIn K C = true) (kc : PySem.W.keepIn K (.ref C) = true) (a : PySem.W.findIn K (.ref C) "__init__" = some (some (.ref f))) (w : PySem.W.isFn K (.ref f) = true) (F : Fun K "__init__" qual st f fd) : MkT K x qual st :=
  ⟨f, fd, by rw [xA_eq n]; exact ⟨mk, a, w, kc⟩, F⟩
end
end L2


namespace L2
open PySem PyProof.Rows
set_option maxRecDepth 100000
section
variable {α : Type} {le : α → α → Prop}
def Srt (le : α → α → Prop) (l : List α) : Prop := l.Pairwise le
structure MInv (le : α → α → Prop) (A B out : List α) (ia ib : Nat) : Prop where
  ha : ia ≤ A.length
  hb : ib ≤ B.length
  srt : Srt le out
  low : ∀ x ∈ out, (∀ y ∈ A.drop ia, le x y) ∧ ∀ y ∈ B.drop ib, le x y
  perm : (out ++ (A.drop ia ++ B.drop ib)).Perm (A ++ B)
theorem MInv.len {A B out : List α} {ia ib : Nat} (m : MInv le A B out ia ib) : out.length = ia + ib := by
  have := m.perm.length_eq
  simp only [List.length_append, List.length_drop] at this
  have := m.ha
  have := m.hb
  omega
theorem MInv.swap {A B out : List α} {ia ib : Nat} (m : MInv le A B out ia ib) : MInv le B A out ib ia :=
  ⟨m.hb, m.ha, m.srt, fun x hx => ⟨(m.low x hx).2, (m.low x hx).1⟩, ((List.perm_append_comm.append_left out).trans m.perm).trans List.perm_append_comm⟩
theorem MInv.start {A B : List α} : MInv le A B [] 0 0 := ⟨Nat.zero_le _, Nat.zero_le _, List.Pairwise.nil, fun x hx => absurd hx List.not_mem_nil, by simp⟩
theorem srt_drop {A : List α} (h : Srt le A) (i : Nat) : Srt le (A.drop i) := h.sublist (List.drop_sublist i A)
theorem MInv.as {A B out : List α} {ia ib : Nat} (m : MInv le A B out ia ib) (hA : Srt le A) (k : Nat) (hk : ia + k ≤ A.length) (h : ∀ x ∈ (A.drop ia).take k, ∀ y ∈ B.drop ib, le x y) : MInv le A B (out ++ (A.drop ia).take k) (ia + k) ib := by
  have hA' := srt_drop hA ia
  have e : A.drop ia = (A.drop ia).take k ++ A.drop (ia + k) := by rw [← List.drop_drop, List.take_append_drop]
  have hA'' := hA'
  unfold Srt at hA''
  rw [e, List.pairwise_append] at hA''
  refine ⟨hk, m.hb, List.pairwise_append.mpr ⟨m.srt, hA''.1, fun x hx y hy => (m.low x hx).1 y (List.mem_of_mem_take hy)⟩, fun x hx => ?_, ?_⟩
  · rcases List.mem_append.mp hx with hx | hx
    · exact ⟨fun y hy => (m.low x hx).1 y (by rw [e]; exact List.mem_append_right _ hy), (m.low x hx).2⟩
    · exact ⟨fun y hy => hA''.2.2 x hx y hy, h x hx⟩
  · have := m.perm
    rw [e] at this
    simpa using this
theorem MInv.bs {A B out : List α} {ia ib : Nat} (m : MInv le A B out ia ib) (hB : Srt le B) (k : Nat) (hk : ib + k ≤ B.length) (h : ∀ x ∈ (B.drop ib).take k, ∀ y ∈ A.drop ia, le x y) : MInv le A B (out ++ (B.drop ib).take k) ia (ib + k) :=
  (m.swap.as hB k hk h).swap
theorem drop_take1 {A : List α} {i : Nat} {x : α} (h : A[i]? = some x) : (A.drop i).take 1 = [x] := by
  obtain ⟨hl, rfl⟩ := List.getElem?_eq_some_iff.mp h
  rw [List.drop_eq_getElem_cons hl]
  rfl
theorem MInv.a1 {A B out : List α} {ia ib : Nat} {x : α} (m : MInv le A B out ia ib) (hA : Srt le A) (hx : A[ia]? = some x) (h : ∀ y ∈ B.drop ib, le x y) : MInv le A B (out ++ [x]) (ia + 1) ib := by
  have := m.as hA 1 (by have := (List.getElem?_eq_some_iff.mp hx).1; omega) (by rw [drop_take1 hx]; intro z hz; rw [List.mem_singleton.mp hz]; exact h)
  rwa [drop_take1 hx] at this
theorem MInv.b1 {A B out : List α} {ia ib : Nat} {x : α} (m : MInv le A B out ia ib) (hB : Srt le B) (hx : B[ib]? = some x) (h : ∀ y ∈ A.drop ia, le x y) : MInv le A B (out ++ [x]) ia (ib + 1) :=
  (m.swap.a1 hB hx h).swap
def Merged (le : α → α → Prop) (A B l : List α) : Prop := Srt le l ∧ l.Perm (A ++ B)
theorem MInv.done {A B out : List α} {ia ib : Nat} (m : MInv le A B out ia ib) (hA : Srt le A) (hB : Srt le B) (h : ia = A.length ∨ ib = B.length) : Merged le A B (out ++ A.drop ia ++ B.drop ib) := by
  refine ⟨?_, by rw [List.append_assoc]; exact m.perm⟩
  rcases h with h | h
  · rw [h, List.drop_length, List.append_nil]
    exact List.pairwise_append.mpr ⟨m.srt, srt_drop hB _, fun x hx y hy => (m.low x hx).2 y hy⟩
  · rw [h, List.drop_length, List.append_nil]
    exact List.pairwise_append.mpr ⟨m.srt, srt_drop hA _, fun x hx y hy => (m.low x hx).1 y hy⟩
theorem MInv.last {A B out : List α} {ia ib : Nat} (m : MInv le A B out ia ib) (hA : Srt le A) (hB : Srt le B) (h : ∀ x ∈ B, ∀ y ∈ A.drop ia, le x y) : Merged le A B (out ++ B.drop ib ++ A.drop ia) := by
  refine ⟨List.pairwise_append.mpr ⟨List.pairwise_append.mpr ⟨m.srt, srt_drop hB _, fun x hx y hy => (m.low x hx).2 y hy⟩, srt_drop hA _, fun x hx y hy => ?_⟩, ?_⟩
  · rcases List.mem_append.mp hx with hx | hx
    · exact (m.low x hx).1 y hy
    · exact h x (List.mem_of_mem_drop hx) y hy
  · rw [List.append_assoc]
    exact (List.perm_append_comm.append_left out).trans m.perm
end
section
variable {α : Type} {le : α → α → Prop}
structure HInv (le : α → α → Prop) (A B out : List α) (na nb : Nat) : Prop where
  ha : na ≤ A.length
  hb : nb ≤ B.length
  srt : Srt le out.reverse
  low : ∀ x ∈ out, (∀ y ∈ A.take na, le y x) ∧ ∀ y ∈ B.take nb, le y x
  perm : (A.take na ++ B.take nb ++ out).Perm (A ++ B)
theorem HInv.len {A B out : List α} {na nb : Nat} (m : HInv le A B out na nb) : na + nb + out.length = A.length + B.length := by
  have := m.perm.length_eq
  simp only [List.length_append, List.length_take] at this
  have := m.ha
  have := m.hb
  omega
theorem HInv.swap {A B out : List α} {na nb : Nat} (m : HInv le A B out na nb) : HInv le B A out nb na :=
  ⟨m.hb, m.ha, m.srt, fun x hx => ⟨(m.low x hx).2, (m.low x hx).1⟩, ((List.perm_append_comm.append_right out).trans m.perm).trans List.perm_append_comm⟩
theorem HInv.start {A B : List α} : HInv le A B [] A.length B.length := ⟨Nat.le_refl _, Nat.le_refl _, List.Pairwise.nil, fun x hx => absurd hx List.not_mem_nil, by simp⟩
theorem srt_take {A : List α} (h : Srt le A) (i : Nat) : Srt le (A.take i) := h.sublist (List.take_sublist i A)
theorem HInv.as {A B out : List α} {na nb : Nat} (m : HInv le A B out na nb) (hA : Srt le A) (k : Nat) (hk : k ≤ na) (h : ∀ x ∈ (A.take na).drop k, ∀ y ∈ B.take nb, le y x) : HInv le A B (out ++ ((A.take na).drop k).reverse) k nb := by
  have e : A.take na = A.take k ++ (A.take na).drop k := by
    conv => lhs; rw [← List.take_append_drop k (A.take na), List.take_take, Nat.min_eq_left hk]
  have hA' := srt_take hA na
  unfold Srt at hA'
  rw [e, List.pairwise_append] at hA'
  refine ⟨Nat.le_trans hk m.ha, m.hb, ?_, fun x hx => ?_, ?_⟩
  · unfold Srt
    rw [List.reverse_append, List.reverse_reverse]
    refine List.pairwise_append.mpr ⟨hA'.2.1, m.srt, fun x hx y hy => (m.low y (List.mem_reverse.mp hy)).1 x (List.mem_of_mem_drop hx)⟩
  · rcases List.mem_append.mp hx with hx | hx
    · exact ⟨fun y hy => (m.low x hx).1 y (by rw [e]; exact List.mem_append_left _ hy), (m.low x hx).2⟩
    · have hx := List.mem_reverse.mp hx
      exact ⟨fun y hy => hA'.2.2 y hy x hx, h x hx⟩
  · refine List.Perm.trans ?_ m.perm
    generalize (A.take na).drop k = d at e
    rw [e]
    refine List.Perm.trans (l₂ := A.take k ++ (d ++ (B.take nb ++ out))) ?_ (by simp)
    rw [List.append_assoc]
    refine List.Perm.append_left _ ?_
    refine List.Perm.trans (l₂ := B.take nb ++ (d ++ out)) (List.Perm.append_left _ (List.perm_append_comm.trans ((List.reverse_perm d).append_right out))) ?_
    rw [← List.append_assoc, ← List.append_assoc]
    exact List.perm_append_comm.append_right out
theorem HInv.bs {A B out : List α} {na nb : Nat} (m : HInv le A B out na nb) (hB : Srt le B) (k : Nat) (hk : k ≤ nb) (h : ∀ x ∈ (B.take nb).drop k, ∀ y ∈ A.take na, le y x) : HInv le A B (out ++ ((B.take nb).drop k).reverse) na k :=
  (m.swap.as hB k hk h).swap
theorem take_drop1 {A : List α} {i : Nat} {x : α} (h : A[i]? = some x) : (A.take (i + 1)).drop i = [x] := by
  obtain ⟨hl, rfl⟩ := List.getElem?_eq_some_iff.mp h
  rw [List.take_succ_eq_append_getElem hl, List.drop_left' (by rw [List.length_take]; omega)]
theorem HInv.a1 {A B out : List α} {na nb : Nat} {x : α} (m : HInv le A B out (na + 1) nb) (hA : Srt le A) (hx : A[na]? = some x) (h : ∀ y ∈ B.take nb, le y x) : HInv le A B (out ++ [x]) na nb := by
  have := m.as hA na (by omega) (by rw [take_drop1 hx]; intro z hz; rw [List.mem_singleton.mp hz]; exact h)
  rwa [take_drop1 hx, List.reverse_singleton] at this
theorem HInv.b1 {A B out : List α} {na nb : Nat} {x : α} (m : HInv le A B out na (nb + 1)) (hB : Srt le B) (hx : B[nb]? = some x) (h : ∀ y ∈ A.take na, le y x) : HInv le A B (out ++ [x]) na nb :=
  (m.swap.a1 hB hx h).swap
theorem HInv.done {A B out : List α} {na nb : Nat} (m : HInv le A B out na nb) (hA : Srt le A) (hB : Srt le B) (h : na = 0 ∨ nb = 0) : Merged le A B (A.take na ++ B.take nb ++ out.reverse) := by
  refine ⟨?_, ((List.reverse_perm out).append_left _).trans m.perm⟩
  rcases h with h | h
  · rw [h, List.take_zero, List.nil_append]
    exact List.pairwise_append.mpr ⟨srt_take hB _, m.srt, fun x hx y hy => (m.low y (List.mem_reverse.mp hy)).2 x hx⟩
  · rw [h, List.take_zero, List.append_nil]
    exact List.pairwise_append.mpr ⟨srt_take hA _, m.srt, fun x hx y hy => (m.low y (List.mem_reverse.mp hy)).1 x hx⟩
theorem HInv.first {A B out : List α} {na nb : Nat} (m : HInv le A B out na nb) (hA : Srt le A) (hB : Srt le B) (h : ∀ x ∈ B.take nb, ∀ y ∈ A, le x y) : Merged le A B (B.take nb ++ A.take na ++ out.reverse) := by
  refine ⟨List.pairwise_append.mpr ⟨List.pairwise_append.mpr ⟨srt_take hB _, srt_take hA _, fun x hx y hy => h x hx y (List.mem_of_mem_take hy)⟩, m.srt, fun x hx y hy => ?_⟩, ?_⟩
  · rcases List.mem_append.mp hx with hx | hx
    · exact (m.low y (List.mem_reverse.mp hy)).2 x hx
    · exact (m.low y (List.mem_reverse.mp hy)).1 x hx
  · exact ((List.reverse_perm out).append_left _).trans ((List.perm_append_comm.append_right out).trans m.perm)
end
end L2


namespace L2
open PySem PyProof.Rows
set_option maxRecDepth 100000
set_option linter.all false
section
variable {prog : Program} {w : World} {A : Around} {E : Value → Shared → Prop} {s : Shared}
def CmpBy (prog : Program) (w : World) (A : Around) (E : Value → Shared → Prop) (s : Shared) (kd : SortKind) (S : Keyed → Prop) (b : Keyed → Keyed → Bool) : Prop :=
  ∀ (x y : Keyed) (st : SortSt) (Q : Option Bool → SortSt → Prop), S x → S y → kindOf st = kd → Q (some (b x y)) st → wpS (model prog w) A E s (lt' x y) Q st
end
end L2


namespace L2
open PySem PyProof.Rows
set_option maxRecDepth 100000
set_option linter.all false
structure SameSt (st st' : SortSt) : Prop where
  k : kindOf st' = kindOf st
  a : arrOf st' = arrOf st
  p : pendingOf st' = pendingOf st
  f : failedOf st' = failedOf st
theorem SameSt.refl (st : SortSt) : SameSt st st := ⟨rfl, rfl, rfl, rfl⟩
theorem SameSt.trans {a b c : SortSt} (h : SameSt a b) (k : SameSt b c) : SameSt a c := ⟨k.k.trans h.k, k.a.trans h.a, k.p.trans h.p, k.f.trans h.f⟩
structure LtOk (lt : Keyed → Keyed → Bool) : Prop where
  rf : ∀ x, lt x x = false
  tr : ∀ x y z, lt y x = false → lt z y = false → lt z x = false
  as : ∀ x y, lt x y = true → lt y x = false
section
variable {prog : Program} {w : World} {A : Around} {E : Value → Shared → Prop} {s : Shared}
theorem wp_elem {arr : Array Keyed} {i : Nat} {x : Keyed} {st : SortSt} {Q : Keyed → SortSt → Prop} (h : arr[i]? = some x) (q : Q x st) : wpS (model prog w) A E s (elem' arr i) Q st := by
  rw [elem'_eq, h]
  exact wpS_pure q
theorem at_arr {arr : Array Keyed} {i : Nat} (h : i < arr.size) : ∃ x, arr[i]? = some x ∧ arr.toList[i]? = some x ∧ x ∈ arr.toList :=
  ⟨arr[i], getElem?_pos arr i h, by rw [Array.getElem?_toList]; exact getElem?_pos arr i h, by simp⟩
end
end L2


namespace L2
open PySem PyProof.Rows
set_option maxRecDepth 100000
set_option linter.all false
section
variable {prog : Program} {w : World} {A : Around} {E : Value → Shared → Prop} {s : Shared}
end
end L2


namespace L2
open PySem PyProof.Rows
set_option maxRecDepth 100000
set_option linter.all false
def countRunX : Nat → Nat → StateT SortSt Sem (Option Nat) := sortPriv% PySem.Builtin.countRun
def binarySortX : Nat → Nat → Nat → StateT SortSt Sem Bool := sortPriv% PySem.Builtin.binarySort
def Apart (lt : Keyed → Keyed → Bool) (l : List Keyed) : Prop := l.Pairwise fun x y => lt x y = true ∨ lt y x = true
structure LocSt (kd : SortKind) (S : Keyed → Prop) (lt : Keyed → Keyed → Bool) (lo : Nat) (a₀ : Array Keyed) (st₀ st : SortSt) : Prop where
  k : kindOf st = kd
  f : failedOf st = failedOf st₀
  p : pendingOf st = pendingOf st₀
  perm : (arrOf st).toList.Perm a₀.toList
  pre : ∀ i : Nat, i < lo → (arrOf st)[i]? = a₀[i]?
  s : ∀ x ∈ a₀.toList, S x
  d : Apart lt a₀.toList
theorem LocSt.size {kd : SortKind} {S : Keyed → Prop} {lt : Keyed → Keyed → Bool} {lo : Nat} {a₀ : Array Keyed} {st₀ st : SortSt} (h : LocSt kd S lt lo a₀ st₀ st) : (arrOf st).size = a₀.size := by
  have := h.perm.length_eq
  simpa using this
theorem LocSt.at_ {kd : SortKind} {S : Keyed → Prop} {lt : Keyed → Keyed → Bool} {lo : Nat} {a₀ : Array Keyed} {st₀ st : SortSt} (h : LocSt kd S lt lo a₀ st₀ st) {i : Nat} (hi : i < a₀.size) : ∃ x, (arrOf st)[i]? = some x ∧ S x := by
  obtain ⟨x, h1, _, h3⟩ := at_arr (show i < (arrOf st).size by rw [h.size]; exact hi)
  exact ⟨x, h1, h.s x (h.perm.mem_iff.mp h3)⟩
theorem LocSt.apart {kd : SortKind} {S : Keyed → Prop} {lt : Keyed → Keyed → Bool} {lo : Nat} {a₀ : Array Keyed} {st₀ st : SortSt} (h : LocSt kd S lt lo a₀ st₀ st) {i j : Nat} {x y : Keyed} (hij : i ≠ j) (hx : (arrOf st)[i]? = some x) (hy : (arrOf st)[j]? = some y) : lt x y = true ∨ lt y x = true := by
  have hd : Apart lt (arrOf st).toList := (h.perm.pairwise_iff (fun {a b} (q : lt a b = true ∨ lt b a = true) => q.symm)).mpr h.d
  rw [← Array.getElem?_toList] at hx hy
  obtain ⟨hi, rfl⟩ := List.getElem?_eq_some_iff.mp hx
  obtain ⟨hj, rfl⟩ := List.getElem?_eq_some_iff.mp hy
  rcases Nat.lt_or_gt_of_ne hij with q | q
  · exact List.pairwise_iff_getElem.mp hd i j hi hj q
  · exact (List.pairwise_iff_getElem.mp hd j i hj hi q).symm
theorem LocSt.set {kd : SortKind} {S : Keyed → Prop} {lt : Keyed → Keyed → Bool} {lo : Nat} {a₀ : Array Keyed} {st₀ st : SortSt} (h : LocSt kd S lt lo a₀ st₀ st) {xs : Array Keyed} (hp : xs.Perm (arrOf st)) (hl : ∀ i : Nat, i < lo → xs[i]? = (arrOf st)[i]?) : LocSt kd S lt lo a₀ st₀ (setArr st xs) :=
  ⟨h.k, h.f, h.p, (Array.perm_iff_toList_perm.mp hp).trans h.perm, fun i hi => (hl i hi).trans (h.pre i hi), h.s, h.d⟩
def UpIn (lt : Keyed → Keyed → Bool) (xs : Array Keyed) (lo n : Nat) : Prop := ∀ (i j : Nat) (x y : Keyed), lo ≤ i → i ≤ j → j < lo + n → xs[i]? = some x → xs[j]? = some y → lt y x = false
def DownIn (lt : Keyed → Keyed → Bool) (xs : Array Keyed) (lo n : Nat) : Prop := ∀ (i j : Nat) (x y : Keyed), lo ≤ i → i < j → j < lo + n → xs[i]? = some x → xs[j]? = some y → lt y x = true
theorem up_snoc {lt : Keyed → Keyed → Bool} (hL : LtOk lt) {xs : Array Keyed} {lo n : Nat} (h : UpIn lt xs lo n) (h1 : 1 ≤ n) {u v : Keyed} (hu : xs[lo + n - 1]? = some u) (hv : xs[lo + n]? = some v) (e : lt v u = false) : UpIn lt xs lo (n + 1) := fun i j x y hi hij hj hx hy => by
  by_cases hjn : j < lo + n
  · exact h i j x y hi hij hjn hx hy
  · obtain rfl : j = lo + n := by omega
    rw [hv] at hy
    cases hy
    by_cases hin : i = lo + n
    · rw [hin, hv] at hx
      cases hx
      exact hL.rf _
    · exact hL.tr _ _ _ (h i (lo + n - 1) x u hi (by omega) (by omega) hx hu) e
theorem down_snoc {lt : Keyed → Keyed → Bool} (hL : LtOk lt) {xs : Array Keyed} {lo n : Nat} (h : DownIn lt xs lo n) (h1 : 1 ≤ n) {u v : Keyed} (hu : xs[lo + n - 1]? = some u) (hv : xs[lo + n]? = some v) (e : lt v u = true) : DownIn lt xs lo (n + 1) := fun i j x y hi hij hj hx hy => by
  by_cases hjn : j < lo + n
  · exact h i j x y hi hij hjn hx hy
  · obtain rfl : j = lo + n := by omega
    rw [hv] at hy
    cases hy
    by_cases hin : i = lo + n - 1
    · rw [hin, hu] at hx
      cases hx
      exact e
    · have q := h i (lo + n - 1) x u hi (by omega) (by omega) hx hu
      cases r : lt v x
      · have := hL.tr x v u r (hL.as _ _ e)
        rw [q] at this
        cases this
      · rfl
theorem up_one {lt : Keyed → Keyed → Bool} (hL : LtOk lt) {xs : Array Keyed} {lo : Nat} : UpIn lt xs lo 1 := fun i j x y hi hij hj hx hy => by
  obtain rfl : i = j := by omega
  rw [hx] at hy
  cases hy
  exact hL.rf _
section
variable {prog : Program} {w : World} {A : Around} {E : Value → Shared → Prop} {s : Shared}
theorem wp_ltAt {kd : SortKind} {S : Keyed → Prop} {lt : Keyed → Keyed → Bool} (hC : CmpBy prog w A E s kd S lt) {lo : Nat} {a₀ : Array Keyed} {st₀ st : SortSt} (h : LocSt kd S lt lo a₀ st₀ st) {i j : Nat} {Q : Option Bool → SortSt → Prop} (hi : i < a₀.size) (hj : j < a₀.size)
    (q : ∀ x y, (arrOf st)[i]? = some x → (arrOf st)[j]? = some y → Q (some (lt x y)) st) : wpS (model prog w) A E s (ltAt' i j) Q st := by
  obtain ⟨x, hx, sx⟩ := h.at_ hi
  obtain ⟨y, hy, sy⟩ := h.at_ hj
  rw [ltAt'_eq]
  refine wpS_bind (wpS_get ?_)
  exact wpS_bind (wp_elem hx (wpS_bind (wp_elem hy (hC x y _ _ sx sy h.k (q x y hx hy)))))
theorem wp_countRun {kd : SortKind} {S : Keyed → Prop} {lt : Keyed → Keyed → Bool} (hC : CmpBy prog w A E s kd S lt) (hL : LtOk lt) {lo nrem : Nat} {a₀ : Array Keyed} {st₀ st : SortSt} {Q : Option Nat → SortSt → Prop} (h : LocSt kd S lt lo a₀ st₀ st) (h1 : 1 ≤ nrem) (hn : lo + nrem ≤ a₀.size)
    (q : ∀ n st', LocSt kd S lt lo a₀ st₀ st' → 1 ≤ n → n ≤ nrem → UpIn lt (arrOf st') lo n → Q (some n) st') : wpS (model prog w) A E s (countRunX lo nrem) Q st := by
  unfold countRunX
  refine wpS_bind (wpS_mono (wpS_forRange (I := fun x c st' => st' = st ∧ c = (none, x) ∧ UpIn lt (arrOf st) lo x)
    (Q := fun c st' => st' = st ∧ ∃ n, c = (none, n) ∧ 1 ≤ n ∧ n ≤ nrem ∧ UpIn lt (arrOf st) lo n ∧ (n = nrem ∨ ∀ x y, (arrOf st)[lo + n]? = some x → (arrOf st)[lo + n - 1]? = some y → lt x y = true)) ?step ?fin ⟨rfl, rfl, up_one hL⟩) ?post)
  case fin =>
    rintro c st' ⟨rfl, rfl, hu⟩
    rw [show max 1 nrem = nrem by omega] at hu ⊢
    exact ⟨rfl, nrem, rfl, h1, Nat.le_refl _, hu, .inl rfl⟩
  case step =>
    rintro x c st' hx1 hx ⟨rfl, rfl, hu⟩
    dsimp only
    refine wpS_bind (wp_ltAt hC h (by omega) (by omega) fun u v hu' hv' => ?_)
    cases e : lt u v
    · simp only [Bool.false_eq_true, if_false]
      exact wpS_pure ⟨rfl, rfl, up_snoc hL hu hx1 hv' hu' e⟩
    · simp only [if_true]
      refine wpS_pure ⟨rfl, x, rfl, hx1, by omega, hu, .inr fun a b ha hb => ?_⟩
      rw [hu'] at ha
      rw [hv'] at hb
      cases ha
      cases hb
      exact e
  case post =>
    rintro c st' ⟨rfl, n, rfl, n1, n2, hu, hor⟩
    dsimp only
    by_cases c1 : (n == nrem) = true
    · rw [if_pos c1]
      exact wpS_pure (q n st' h n1 n2 hu)
    rw [if_neg c1]
    have c1' : ¬ n = nrem := by simpa using c1
    have hlt := hor.resolve_left c1'
    by_cases c2 : n > 1
    · rw [if_pos c2]
      refine wpS_bind (wp_ltAt hC h (by omega) (by omega) fun u v hu' hv' => ?_)
      have : lt u v = true := by
        rcases h.apart (show lo ≠ lo + n - 1 by omega) hu' hv' with r | r
        · exact r
        · rw [hu lo (lo + n - 1) u v (Nat.le_refl _) (by omega) (by omega) hu' hv'] at r
          cases r
      rw [this]
      simp only [if_true]
      exact wpS_pure (q n st' h n1 n2 hu)
    · rw [if_neg c2]
      obtain rfl : n = 1 := by omega
      refine wpS_bind (wpS_lift (wpAny_rule ⟨rfl, ?_⟩))
      have d2 : DownIn lt (arrOf st') lo (1 + 1) := fun i j x y hi hij hj hx hy => by
        obtain rfl : i = lo := by omega
        obtain rfl : j = i + 1 := by omega
        exact hlt y x hy (by rw [Nat.add_sub_cancel]; exact hx)
      refine wpS_bind (wpS_mono (wpS_forRange (I := fun x c st'' => st'' = st' ∧ c = (none, x, 0) ∧ DownIn lt (arrOf st') lo x)
        (Q := fun c st'' => st'' = st' ∧ ∃ n, c = (none, n, 0) ∧ 2 ≤ n ∧ n ≤ nrem ∧ DownIn lt (arrOf st') lo n) ?dstep ?dfin ⟨rfl, rfl, d2⟩) ?dpost)
      case dfin =>
        rintro c st'' ⟨rfl, rfl, hd⟩
        rw [show max (1 + 1) nrem = nrem by omega] at hd ⊢
        exact ⟨rfl, nrem, rfl, by omega, Nat.le_refl _, hd⟩
      case dstep =>
        rintro x c st'' hx1 hx ⟨rfl, rfl, hd⟩
        dsimp only
        refine wpS_bind (wp_ltAt hC h (by omega) (by omega) fun u v hu' hv' => ?_)
        cases e : lt u v
        · simp only [Bool.false_eq_true, if_false]
          refine wpS_bind (wp_ltAt hC h (by omega) (by omega) fun u2 v2 hu2 hv2 => ?_)
          have : lt u2 v2 = true := by
            rw [hv'] at hu2
            rw [hu'] at hv2
            cases hu2
            cases hv2
            rcases h.apart (show lo + x ≠ lo + x - 1 by omega) hu' hv' with r | r
            · rw [e] at r
              cases r
            · exact r
          rw [this]
          simp only [if_true]
          exact wpS_pure ⟨rfl, x, rfl, by omega, by omega, hd⟩
        · simp only [if_true]
          rw [if_neg (Nat.lt_irrefl 0)]
          exact wpS_pure ⟨rfl, rfl, down_snoc hL hd (by omega) hv' hu' e⟩
      case dpost =>
        rintro c st'' ⟨rfl, n, rfl, m1, m2, hd⟩
        dsimp only
        rw [if_neg (Nat.lt_irrefl 0)]
        refine wpS_bind (wpS_reverse ?_)
        have hsz : lo + n ≤ (arrOf st'').size := by rw [h.size]; omega
        have h' : LocSt kd S lt lo a₀ st₀ (setArr st'' (mirror (arrOf st'') lo (lo + n) ((lo + n - lo) / 2))) := h.set (mirror_perm _ _ _ _) fun i hi => by rw [getElem?_mirror_all hsz, if_neg (by omega)]
        have hup : UpIn lt (mirror (arrOf st'') lo (lo + n) ((lo + n - lo) / 2)) lo n := fun i j x y hi hij hj hx hy => by
          rw [getElem?_mirror_all hsz, if_pos (by omega)] at hx hy
          by_cases e : i = j
          · rw [e, hy] at hx
            cases hx
            exact hL.rf _
          · exact hL.as _ _ (hd _ _ y x (by omega) (by omega) (by omega) hy hx)
        have hup : UpIn lt (arrOf (setArr st'' (mirror (arrOf st'') lo (lo + n) ((lo + n - lo) / 2)))) lo n := hup
        generalize setArr st'' (mirror (arrOf st'') lo (lo + n) ((lo + n - lo) / 2)) = st3 at h' hup
        refine wpS_bind (wpS_mono (wpS_forRange (I := fun x c st4 => st4 = st3 ∧ c = (none, x) ∧ UpIn lt (arrOf st3) lo x)
          (Q := fun c st4 => st4 = st3 ∧ ∃ n, c = (none, n) ∧ 1 ≤ n ∧ n ≤ nrem ∧ UpIn lt (arrOf st3) lo n) ?estep ?efin ⟨rfl, rfl, hup⟩) ?epost)
        case efin =>
          rintro c st4 ⟨rfl, rfl, hu⟩
          rw [show max n nrem = nrem by omega] at hu ⊢
          exact ⟨rfl, nrem, rfl, h1, Nat.le_refl _, hu⟩
        case estep =>
          rintro x c st4 hx1 hx ⟨rfl, rfl, hu⟩
          dsimp only
          refine wpS_bind (wp_ltAt hC h' (by omega) (by omega) fun u v hu' hv' => ?_)
          cases e : lt u v
          · simp only [Bool.false_eq_true, if_false]
            exact wpS_pure ⟨rfl, rfl, up_snoc hL hu (by omega) hv' hu' e⟩
          · simp only [if_true]
            exact wpS_pure ⟨rfl, x, rfl, by omega, by omega, hu⟩
        case epost =>
          rintro c st4 ⟨rfl, n, rfl, k1, k2, hu⟩
          exact wpS_pure (q n st4 h' k1 k2 hu)
theorem wp_binarySort {kd : SortKind} {S : Keyed → Prop} {lt : Keyed → Keyed → Bool} (hC : CmpBy prog w A E s kd S lt) (hL : LtOk lt) {lo n ok : Nat} {a₀ : Array Keyed} {st₀ st : SortSt} {Q : Bool → SortSt → Prop} (h : LocSt kd S lt lo a₀ st₀ st) (hn : lo + n ≤ a₀.size) (hok : ok ≤ n) (h1 : 1 ≤ ok) (hs : UpIn lt (arrOf st) lo ok)
    (q : ∀ st', LocSt kd S lt lo a₀ st₀ st' → UpIn lt (arrOf st') lo n → Q true st') : wpS (model prog w) A E s (binarySortX lo n ok) Q st := by
  unfold binarySortX
  refine wpS_bind (wpS_mono (wpS_forRange (I := fun k c st' => c = (none, ()) ∧ LocSt kd S lt lo a₀ st₀ st' ∧ UpIn lt (arrOf st') lo k)
    (Q := fun c st' => c = (none, ()) ∧ LocSt kd S lt lo a₀ st₀ st' ∧ UpIn lt (arrOf st') lo n) ?step ?fin ?init) ?post)
  case post =>
    rintro c st' ⟨rfl, hB', hs'⟩
    exact wpS_pure (q st' hB' hs')
  case init => exact ⟨rfl, h, by rw [show max ok 1 = ok by omega]; exact hs⟩
  case fin =>
    rintro c st' ⟨hc, hB', hs'⟩
    rw [show max (max ok 1) n = n by omega] at hs'
    exact ⟨hc, hB', hs'⟩
  case step =>
    rintro k c st' hak hkn ⟨rfl, hB', hs'⟩
    dsimp only
    obtain ⟨u, hu, _⟩ := hB'.at_ (show lo + k < a₀.size by omega)
    refine wpS_bind (wpS_mono (wpS_forRange (I := fun x c st'' => st'' = st' ∧ ∃ l r, c = (none, l, r) ∧ l ≤ r ∧ r ≤ k ∧ r - l ≤ k - x ∧
        (∀ (i : Nat) x, i < l → (arrOf st')[lo + i]? = some x → lt u x = false) ∧ (∀ (i : Nat) x, r ≤ i → i < k → (arrOf st')[lo + i]? = some x → lt u x = true))
      (Q := fun c st'' => st'' = st' ∧ ∃ l r, c = (none, l, r) ∧ l ≤ k ∧
        (∀ (i : Nat) x, i < l → (arrOf st')[lo + i]? = some x → lt u x = false) ∧ (∀ (i : Nat) x, l ≤ i → i < k → (arrOf st')[lo + i]? = some x → lt u x = true)) ?istep ?ifin ?iinit) ?ipost)
    case iinit => exact ⟨rfl, 0, k, rfl, by omega, by omega, by omega, fun i _ hi => by omega, fun i _ h1 h2 => by omega⟩
    case ifin =>
      rintro c st'' ⟨rfl, l, r, rfl, hlr, hrk, hm, hlo, hhi⟩
      obtain rfl : l = r := by omega
      exact ⟨rfl, l, l, rfl, hrk, hlo, hhi⟩
    case istep =>
      rintro x c st'' _ hxk ⟨rfl, l, r, rfl, hlr, hrk, hm, hlo, hhi⟩
      dsimp only
      by_cases hge : l ≥ r
      · rw [if_pos hge]
        obtain rfl : l = r := by omega
        exact wpS_pure ⟨rfl, l, l, rfl, hrk, hlo, hhi⟩
      · rw [if_neg hge]
        refine wpS_bind (wp_ltAt hC hB' (by omega) (by omega) fun u' v hu' hv => ?_)
        rw [hu] at hu'
        cases hu'
        cases e : lt u v
        · simp only [Bool.false_eq_true, if_false]
          refine wpS_pure ⟨rfl, (l + r) / 2 + 1, r, rfl, by omega, by omega, by omega, fun i z h1 hz => ?_, hhi⟩
          exact hL.tr _ _ _ (hs' (lo + i) (lo + (l + r) / 2) z v (by omega) (by omega) (by omega) hz hv) e
        · simp only [if_true]
          refine wpS_pure ⟨rfl, l, (l + r) / 2, rfl, by omega, by omega, by omega, hlo, fun i z h1 h2 hz => ?_⟩
          have o := hs' (lo + (l + r) / 2) (lo + i) v z (by omega) (by omega) (by omega) hv hz
          cases r' : lt u z
          · have := hL.tr v z u o r'
            rw [e] at this
            cases this
          · rfl
    case ipost =>
      rintro c st'' ⟨rfl, l, r, rfl, hlk, hlo, hhi⟩
      have hks : lo + k < (arrOf st'').size := by rw [hB'.size]; omega
      have hat : ∀ i : Nat, (bubble (arrOf st'') (lo + k) (lo + k - (lo + l)))[i]? = if i = lo + l then (arrOf st'')[lo + k]? else if lo + l < i ∧ i ≤ lo + k then (arrOf st'')[i - 1]? else (arrOf st'')[i]? := fun i => by
        have := getElem?_bubble hks (lo + k - (lo + l)) (by omega) i
        rwa [show lo + k - (lo + k - (lo + l)) = lo + l by omega] at this
      have mv : ∀ (Q : PUnit → SortSt → Prop), Q ⟨⟩ (setArr st'' (bubble (arrOf st'') (lo + k) (lo + k - (lo + l)))) → wpS (model prog w) A E s (moveDown' (lo + k) (lo + l)) Q st'' := fun Q hq => by
        rw [moveDown'_eq]
        exact wpS_modify hq
      refine wpS_bind (mv _ (wpS_pure ⟨rfl, hB'.set (bubble_perm _ _ _) fun i hi => ?_, ?_⟩))
      · rw [hat, if_neg (by omega), if_neg (by omega)]
      · intro i j x y hi hij hj hx hy
        have hx : (bubble (arrOf st'') (lo + k) (lo + k - (lo + l)))[i]? = some x := hx
        have hy : (bubble (arrOf st'') (lo + k) (lo + k - (lo + l)))[j]? = some y := hy
        rw [hat] at hx hy
        have sub : ∀ {i : Nat}, lo ≤ i → lo + (i - lo) = i := by omega
        by_cases ci : i = lo + l
        · rw [if_pos ci, hu] at hx
          cases hx
          by_cases cj : j = lo + l
          · rw [if_pos cj, hu] at hy
            cases hy
            exact hL.rf _
          · rw [if_neg cj, if_pos (by omega)] at hy
            exact hL.as _ _ (hhi (j - 1 - lo) y (by omega) (by omega) (by rw [show lo + (j - 1 - lo) = j - 1 by omega]; exact hy))
        · rw [if_neg ci] at hx
          by_cases cj : j = lo + l
          · rw [if_pos cj, hu] at hy
            cases hy
            rw [if_neg (by omega)] at hx
            exact hlo (i - lo) x (by omega) (by rw [show lo + (i - lo) = i by omega]; exact hx)
          · rw [if_neg cj] at hy
            by_cases di : lo + l < i ∧ i ≤ lo + k
            · rw [if_pos di] at hx
              rw [if_pos (by omega)] at hy
              exact hs' (i - 1) (j - 1) x y (by omega) (by omega) (by omega) hx hy
            · rw [if_neg di] at hx
              by_cases dj : lo + l < j ∧ j ≤ lo + k
              · rw [if_pos dj] at hy
                exact hs' i (j - 1) x y (by omega) (by omega) (by omega) hx hy
              · rw [if_neg dj] at hy
                exact hs' i j x y (by omega) (by omega) (by omega) hx hy
end
end L2


set_option linter.all false
set_option maxRecDepth 100000
namespace L2
open PySem PySem.Spec PyProof.Rows
section
variable {X : Cx} {pins : List (Addr × Obj)} {σ : St} {H : Hp} {s : Shared} {a : Addr} {e o : Expr} {te to ty : TE}
theorem Inv.thaw {ob : Obj} {kvs : List (Key × V)} (I : Inv X pins σ H s) (e : H a = some (.frz ob (.dK kvs))) : Inv X pins σ (upd H a (.dK kvs)) s := by
  have ne : ∀ b u, H b = some u → u ≠ .frz ob (.dK kvs) → b ≠ a := fun b u q n z => n (by rw [z, e] at q; exact (Option.some.inj q).symm)
  have un : Un X.fs [] H (upd H a (.dK kvs)) s.heap s.heap := by
    refine ⟨fun b o q _ _ _ => q, fun b o q _ _ _ => ⟨o.slots, q⟩, fun b o q n _ => ?_, fun b o q _ => ⟨o, q⟩, fun b xs q => ?_, fun b o xs q => ?_, fun b ps q => ⟨#[], ?_⟩⟩
    · rw [upd_ne (fun z => by rw [z, e] at n; cases n)]
      exact n
    · rw [upd_ne (ne b _ q (fun z => nomatch z))]
      exact q
    · rw [upd_ne (ne b _ q (fun z => nomatch z))]
      exact q
    · rw [upd_ne (ne b _ q (fun z => nomatch z)), q]
      simp
  have ok : HOk X.prog X.w (upd H a (.dK kvs)) s.heap := fun b o q => by
    have st : ∀ o, ObjOk X.prog X.w H s.heap b o → ObjOk X.prog X.w (upd H a (.dK kvs)) s.heap b o := fun o x =>
      x.stay (fun _ _ _ z => z) (fun c z => by rw [upd_ne (ne c _ z (fun y => nomatch y))]; exact z) fun c xs z => by rw [upd_ne (ne c _ z (fun y => nomatch y))]; exact z
    by_cases hb : b = a
    · subst hb
      rw [upd_same] at q
      cases q
      exact st _ (I.hok b _ e).2
    · rw [upd_ne hb] at q
      exact st _ (I.hok b o q)
  exact I.un (t' := s.toks) un ok I.tk
def tFrz (te : TE) : TE := fun σ H Q => te σ H fun x H1 => match x with
  | .ref a => ∃ kvs, H1 a = some (.dK kvs) ∧ ∀ ob, Q (.ref a) (upd H1 a (.frz ob (.dK kvs)))
  | _ => False
theorem pe_frz (he : PE X e te) : PE X e (tFrz te) := by
  intro pins s σ H Q I h
  refine thn (he pins s σ H _ I h) fun u s1 ⟨x, H1, I1, rx, q1⟩ => ?_
  dsimp only at q1
  split at q1
  · rename_i a
    obtain ⟨kvs, e1, q1⟩ := q1
    obtain ⟨ob, I2⟩ := I1.frozen e1
    exact ⟨.ref a, _, I2, rx, q1 ob⟩
  · exact q1.elim
def tThaw (te : TE) : TE := fun σ H Q => te σ H fun x H1 => ∃ a ob kvs, H1 a = some (.frz ob (.dK kvs)) ∧ Q x (upd H1 a (.dK kvs))
theorem pe_thaw (he : PE X e te) : PE X e (tThaw te) := by
  intro pins s σ H Q I h
  exact thn (he pins s σ H _ I h) fun u s1 ⟨x, H1, I1, rx, a, ob, kvs, e1, q1⟩ => ⟨x, _, I1.thaw e1, rx, q1⟩
theorem a_tFrz {Q : VK} : tFrz te σ H Q = te σ H fun x H1 => match x with
  | .ref a => ∃ kvs, H1 a = some (.dK kvs) ∧ ∀ ob, Q (.ref a) (upd H1 a (.frz ob (.dK kvs)))
  | _ => False := rfl
theorem a_tThaw {Q : VK} : tThaw te σ H Q = te σ H fun x H1 => ∃ a ob kvs, H1 a = some (.frz ob (.dK kvs)) ∧ Q x (upd H1 a (.dK kvs)) := rfl
theorem Inv.laidAll {N : Hp} {h' : Heap} {t' : Nat} (I : Inv X pins σ H s) (k : ∀ b u, s.heap.get? b = some u → h'.get? b = some u) (hN : ∀ b o, N b = some o → s.heap.objs.size ≤ b)
    (new : ∀ b o, N b = some o → ObjOk X.prog X.w (fun c => (N c).or (H c)) h' b o) (ht : 0 < t') : Inv X pins σ (fun c => (N c).or (H c)) { s with heap := h', toks := t' } := by
  have old : ∀ b o, H b = some o → (N b).or (H b) = some o := fun b o q => by
    cases z : N b with
    | none => exact q
    | some u =>
      rw [I.hok.fresh (hN b u z)] at q
      cases q
  refine I.un (H' := fun c => (N c).or (H c)) ⟨fun b o q _ _ _ => k b o q, fun b o q _ _ _ => ⟨o.slots, k b o q⟩, fun b o q n _ => ?_, fun b o q _ => ⟨o, k b o q⟩, fun b xs q => old b _ q, fun b o xs q => old b _ q, fun b ps q => ⟨#[], by rw [old b _ q]; simp⟩⟩ (fun b o q => ?_) ht
  · show (N b).or (H b) = none
    cases z : N b with
    | none => exact n
    | some u => exact absurd (Nat.lt_of_lt_of_le (Heap.lt_size q) (hN b u z)) (Nat.lt_irrefl _)
  · cases z : N b with
    | some u =>
      have q : (N b).or (H b) = some o := q
      rw [z] at q
      cases q
      exact new b _ z
    | none =>
      have q : (N b).or (H b) = some o := q
      rw [z] at q
      exact (I.hok b o q).stay (fun c u _ r => k c u r) (fun c r => old c _ r) fun c xs r => old c _ r
def cListItems (to : TE) : TE := fun σ H Q => to σ H fun x H1 => match x with
  | .ref a => ∃ kvs, H1 a = some (.dK kvs) ∧ ∀ p (ts : List Addr) H2, H1 p = none → Same H1 H2 → H2 p = some (.lst (ts.map V.ref)) → Paired (fun (kv : Key × V) (t : Addr) => H2 t = some (.tup [kV kv.1, kv.2])) kvs ts → Q (.ref p) H2
  | _ => False
theorem idx_of {as : List Addr} {b : Addr} (hr : as.Pairwise (· < ·)) (hb : b ∈ as) : ∃ j, as[j]? = some b ∧ as.idxOf b = j := by
  exact ⟨as.idxOf b, by rw [List.getElem?_eq_getElem (List.idxOf_lt_length_of_mem hb)]; simp, rfl⟩
theorem paired_of {α β : Type} {R : α → β → Prop} : ∀ {l : List α} {m : List β}, l.length = m.length → (∀ (j : Nat) x y, l[j]? = some x → m[j]? = some y → R x y) → Paired R l m
  | [], [], _, _ => .nil
  | [], _ :: _, h, _ => by cases h
  | _ :: _, [], h, _ => by cases h
  | x :: l, y :: m, h, f => .cons (f 0 x y rfl rfl) (paired_of (by simpa using h) fun j a b ha hb => f (j + 1) a b (by simpa using ha) (by simpa using hb))
theorem vals_refs : ∀ as : List Addr, Vals (as.map V.ref) (as.map Value.ref)
  | [] => .nil
  | a :: as => .cons rfl (vals_refs as)
theorem qe_listitems {p apos cpos pos : Pos} (hc : X.calm = true) (hg : Gl X "list") (hm : X.mg "list" = none) (ho : PE X o to) (hbase : attributeBase o "items" X.env (eval o X.env) = eval o X.env := by rfl) (hline : (apos.endLine == cpos.line) = true := by rfl)
    (hs : starEach [Expr.Call (.Attribute o "items" apos) [] [] cpos] X.env = [(false, eval (Expr.Call (.Attribute o "items" apos) [] [] cpos) X.env)] := by rfl) :
    PE X (.Call (.Name "list" p) [.Call (.Attribute o "items" apos) [] [] cpos] [] pos) (cListItems to) := by
  intro pins s σ H Q I h
  refine wpAny_Call_Name_kw (ld_blt I hg hm bb_list ?_ (by decide) (by decide))
  refine PyProof.Rows.callWith_type1 ?_ hs rfl
  rw [hs]
  show wpAny _ _ (spliced [(false, eval (Expr.Call (.Attribute o "items" apos) [] [] cpos) X.env)]) _ _ s
  refine Calls.spliced_cons ?_
  refine wpAny_Call_method hbase rfl hline PySem.F.plainAttrs_dict PySem.F.slot_dict_items PySem.F.type_dict_items (thn (ho pins s σ H _ I h) fun u s1 ⟨x, H1, I1, rx, q1⟩ => ?_)
  dsimp only at q1
  split at q1
  · rename_i a
    obtain ⟨kvs, e1, q1⟩ := q1
    obtain rfl : u = Value.ref a := rx
    obtain ⟨t1, t2, hd⟩ := isD_at I1 (.inl ⟨kvs, .inl e1⟩)
    refine ⟨t1, t2, callWith_method0 ?_⟩
    obtain ⟨z, _, vs, rel, dd⟩ := dk_of I1.hok e1
    obtain ⟨ob, es, ep, hq, r⟩ := id dd
    have hm : s1.heap.DictAt (mixKind X.prog X.w) a vs ep := ⟨ob, es, hq, r⟩
    refine call_meetsIn PySem.F.slot_dict_items t1 PySem.F.entry_dict_items (PySem.F.args_dict_items_1 _) (meets_dict_items (mixKind X.prog X.w) a hd) ⟨⟨vs, dd⟩, ?_⟩
    refine Calls.spliced_nil ?_
    have hm2 : (s1.heap.push { cls := .type "dict_items", data := .fields #[.ref a] }).DictAt (mixKind X.prog X.w) a vs ep := hm.push _
    refine tokQ I1.tk (PySem.W.kdx_call (s := { s1 with heap := s1.heap.push { cls := .type "dict_items", data := .fields #[.ref a] }, toks := s1.toks }) (I1.ok.hd hc) ⟨_, Heap.get?_push_size _ rfl, rfl, rfl⟩ hm2 (by rw [← rel.length]; exact z) fun h' tk acc c as old hl ha hG hacc (htk : 0 < tk) => ?_)
    have hsz : s1.heap.objs.size ≤ (s1.heap.push { cls := .type "dict_items", data := .fields #[.ref a] }).objs.size := by rw [Heap.size_push]; exact Nat.le_succ _
    have old' : ∀ b o, s1.heap.get? b = some o → h'.get? b = some o := fun b o e => old b o (Heap.get?_push_of_some _ e)
    generalize (s1.heap.push { cls := .type "dict_items", data := .fields #[.ref a] }).objs.size = D at hsz hl hG
    have lvs := rel.length
    have hD : D ∉ as := fun hb => Nat.lt_irrefl _ (hG.above D hb)
    let N : Hp := fun b => if b = D then some (.lst (as.map V.ref)) else if b ∈ as then (kvs[as.idxOf b]?).map fun kv => .tup [kV kv.1, kv.2] else none
    have hN : ∀ b o, N b = some o → s1.heap.objs.size ≤ b := fun b o q => by
      by_cases h1 : b = D
      · rw [h1]; exact hsz
      · by_cases h2 : b ∈ as
        · exact Nat.le_trans hsz (Nat.le_of_lt (hG.above b h2))
        · simp only [N, if_neg h1, if_neg h2] at q
          cases q
    have at_ : ∀ (j : Nat) (t : Addr), as[j]? = some t → ∀ kv : Key × V, kvs[j]? = some kv → N t = some (.tup [kV kv.1, kv.2]) ∧ ObjOk X.prog X.w (fun c => (N c).or (H1 c)) h' t (.tup [kV kv.1, kv.2]) := fun j t ht kv hkv => by
      have hmem := List.mem_of_getElem? ht
      have hne : t ≠ D := fun z => hD (z ▸ hmem)
      have hidx : as.idxOf t = j := by
        obtain ⟨hj, e⟩ := List.getElem?_eq_some_iff.mp ht
        have hlt := List.idxOf_lt_length_of_mem hmem
        have e2 : as[as.idxOf t] = t := by simp
        have nd : as.Nodup := hG.rise.imp fun {a b} (z : a < b) => Nat.ne_of_lt z
        exact (List.getElem_inj nd).mp (e2.trans e.symm)
      refine ⟨by simp only [N, if_neg hne, if_pos hmem, hidx, hkv]; rfl, ?_⟩
      obtain ⟨key, k, x, h1, h2, h3⟩ := hG.pairs j t ht
      obtain ⟨⟨k', u⟩, hu, hkk, ru⟩ := paired_at rel hkv
      rw [hu] at h1
      cases h1
      have hkk : kv.1 = k := hkk
      have ru : RelV kv.2 x := ru
      exact ⟨by show 2 ≤ sizeLine; decide, [key, x], .cons (hkk ▸ key_rel h2) (.cons ru .nil), ⟨_, h3, rfl, _, rfl⟩⟩
    have new : ∀ b o, N b = some o → ObjOk X.prog X.w (fun c => (N c).or (H1 c)) h' b o := fun b o q => by
      by_cases h1 : b = D
      · subst h1
        simp only [N, if_true] at q
        cases q
        exact ⟨by rw [List.length_map, ha, ← lvs]; exact z, as.map Value.ref, c, vals_refs as, by rw [hl]; congr 2; rw [← hacc]⟩
      · by_cases h2 : b ∈ as
        · obtain ⟨j, hj, hidx⟩ := idx_of hG.rise h2
          have hlt : j < kvs.length := by
            have := (List.getElem?_eq_some_iff.mp hj).1
            omega
          obtain ⟨a1, a2⟩ := at_ j b hj kvs[j] (List.getElem?_eq_getElem hlt)
          rw [a1] at q
          cases q
          exact a2
        · simp only [N, if_neg h1, if_neg h2] at q
          cases q
    have I2 := I1.laidAll (N := N) (t' := tk) old' hN new htk
    refine ⟨.ref D, _, I2, rfl, q1 D as _ (I1.hok.fresh hsz) (fun b o q => ?_) ?_ (paired_of (by omega) fun j kv t h1 h2 => ?_)⟩
    · show (N b).or (H1 b) = some o
      cases y : N b with
      | none => exact q
      | some u =>
        rw [I1.hok.fresh (hN b u y)] at q
        cases q
    · show (N D).or (H1 D) = _
      simp [N]
    · show (N t).or (H1 t) = _
      rw [(at_ j t h2 kv h1).1]
      rfl
  · exact q1.elim
theorem a_cListItems {Q : VK} : cListItems to σ H Q = to σ H fun x H1 => match x with
  | .ref a => ∃ kvs, H1 a = some (.dK kvs) ∧ ∀ p (ts : List Addr) H2, H1 p = none → Same H1 H2 → H2 p = some (.lst (ts.map V.ref)) → Paired (fun (kv : Key × V) (t : Addr) => H2 t = some (.tup [kV kv.1, kv.2])) kvs ts → Q (.ref p) H2
  | _ => False := rfl
def cDPop (td ty : TE) : TE := fun σ H Q => td σ H fun x H1 => match x with
  | .ref a => IsD H1 a ∧ ty σ H1 fun y H2 => ∃ kvs k v, H2 a = some (.dK kvs) ∧ y = kV k ∧ valV kvs k = some v ∧ Q v (upd H2 a (.dK (dropK kvs k)))
  | _ => False
theorem qe_dpop {apos cpos : Pos} (ho : PE X o to) (he : PE X e te) (m : M1 X o "pop" apos e cpos) : PE X (.Call (.Attribute o "pop" apos) [e] [] cpos) (cDPop to te) :=
  (pe_dpop1 ho.mono he.mono m).imp fun σ H Q q => ⟨_, q, fun x H1 z => by
    split at z
    · obtain ⟨d, z⟩ := z
      exact ⟨_, rfl, d, _, z, fun y H2 z2 => z2⟩
    · exact z.elim⟩
theorem a_cDPop {Q : VK} : cDPop to ty σ H Q = to σ H fun x H1 => match x with
  | .ref a => IsD H1 a ∧ ty σ H1 fun y H2 => ∃ kvs k v, H2 a = some (.dK kvs) ∧ y = kV k ∧ valV kvs k = some v ∧ Q v (upd H2 a (.dK (dropK kvs k)))
  | _ => False := rfl
theorem pe_metT0 {k : Nat} {x m : Str} {ps : List Str} {sp : Sp} {apos pos : Pos} {ta : TE} {pl : Sem Bool} (C : ClsT X.K X.mg x) (M : MCal X.prog X.w X.K X.mg X.base k x m ps sp) (hr : Room k X.A) (he : PE X o ta)
    (ht : eval (.Call (.Attribute o m apos) [] [] pos) X.env = (do
      let ov ← eval o X.env
      standAt apos.atName
      let (f, first) ← holding [ov] (getMethod ov m pl)
      callWith pos f first (backTo pos (starEach [] X.env)) (backToKw pos (keywordEach [] X.env))) := by rfl) :
    PE X (.Call (.Attribute o m apos) [] [] pos) (tMeth (xA X.K x) m sp [] E0 ta tNil) := by
  obtain ⟨f, fd, F, b, M⟩ := M
  exact pe_meth0 (pl := pl) he C.c M F hr b .nil pass0 ht
theorem qe_gint {x : Str} {i : Int} {pos : Pos} (n : ∃ t, X.mg x = some (.int i t)) (hg : Gl X x) (hd : (x == ("__debug__" : Str)) = false := by decide) : PE X (.Name x pos) (tC (.int i)) := by
  obtain ⟨t, n⟩ := n
  exact pe_glob (v := .int i) hg n ⟨t, rfl⟩ hd
end
section
variable {prog : Program} {w : World} {A : Around} {E : Value → Shared → Prop} {s : Shared}
theorem sorted_keys {a : Addr} {kvs : List (Key × Value)} {ep : Nat} {ks : List (List Nat)} {Q : Value → Shared → Prop} (hh : A.handled = none) (hd : s.heap.DictAt (mixKind prog w) a kvs ep) (lo : (a == sysModules) = false) (hk : kvs.map (·.1) = ks.map fun l => Sum.inr (st l)) (hb : ks.length < 64)
    (h : ∀ (h1 h' : Heap) (tk : Nat) (out : List Value) (ss' : List Str) (e : Nat), (∀ b o, s.heap.get? b = some o → h1.get? b = some o) → (∀ b o, h1.get? b = some o → h'.get? b = some o) → h'.get? h1.objs.size = some (seqObj "list" out.toArray e) →
      StrsAre out ss' → ss'.Perm (ks.map st) → sortedS ss' = true → Q (.ref h1.objs.size) { s with heap := h', toks := tk }) :
    wpAny (model prog w) A (call (.builtin "sorted") [.ref a]) Q E s := by
  have hlen : kvs.length = ks.length := by
    have := congrArg List.length hk
    simpa using this
  refine Calls.call_function_entry kind_sorted plain_sorted entry_sorted (args_sorted1 _) ?_
  unfold Builtin.«sorted»
  refine wpAny_bind (m := checkCount "sorted" 1 1 _) (wpAny_pure ?_)
  refine wpAny_bind (PySem.W.kdu_collect (A := A.in1) (PySem.W.kdl_dict (knd := mixKind prog w) (kvs := kvs) (ep := ep) lo) hh hd (by rw [hlen, sizeLine_eq]; omega) fun h1 tk acc old hacc => ?_)
  have hal : acc.toList.length = ks.length := by
    rw [Array.length_toList, hacc.1, hlen]
  have hv : Vals ((ks.map st).map V.str) acc.toList := paired_of (by rw [List.length_map, List.length_map, hal]) fun j x v hx hv => by
    obtain ⟨k, y, h2, h3⟩ := hacc.2 j v (by rw [← Array.getElem?_toList]; exact hv)
    have e1 : (kvs.map (·.1))[j]? = some k := by rw [List.getElem?_map, h2]; rfl
    rw [hk, List.getElem?_map] at e1
    rw [List.getElem?_map, List.getElem?_map] at hx
    cases q : ks[j]? with
    | none => rw [q] at e1; cases e1
    | some l =>
      rw [q] at e1 hx
      cases e1
      cases hx
      exact key_rel h3
  have hSA : StrsAre acc.toList (ks.map st) := strsAre_of hv
  refine wpAny_bind (wpAny_newList ?_ (by rw [hal, sizeLine_eq]; omega))
  have hD : (h1.push (seqObj "list" acc.toList.toArray 0)).get? h1.objs.size = some (seqObj "list" acc.toList.toArray 0) := Heap.get?_push_size _ rfl
  refine wpAny_bind (wpAny_holding (wpAny_call_entry slot_list_sort ⟨_, hD, rfl⟩ entry_list_sort (list_sort_treeK (κ := PyProof.Rows.strKind) strKind_oneLt hD hSA.keysOf (fun v₁ v₂ rest e => keyKind_strs (by rw [← e]; exact hSA)) (by omega) fun st' a1 a2 => ⟨_, rfl, ?_⟩) (args_list_sort _)))
  obtain ⟨ss', b1, b2, b3⟩ := sorted_out_str hSA a1 a2
  obtain ⟨e, he⟩ := sortedHeap_at (out := (arrOf st').map (·.2)) hD
  refine wpAny_pure ⟨_, rfl, h h1 _ tk ((arrOf st').map (·.2)).toList ss' e old (fun b o q => ?_) (by rw [Array.toArray_toList]; exact he) b1 b2 b3⟩
  have hb1 := Heap.lt_size q
  rw [sortedHeap_old (Nat.ne_of_lt hb1) (by rw [size_push']; exact Nat.lt_succ_of_lt hb1)]
  exact Heap.get?_push_of_some _ q
end
section
variable {X : Cx}
def kSortD : List V → Hp → VK → Prop := fun xs H Q => match xs with
  | [.ref a] => ∃ (kvs : List (Key × V)) (ks : List (List Nat)), H a = some (.dK kvs) ∧ kvs.map (·.1) = ks.map (fun l => Sum.inr (st l)) ∧ ks.Nodup ∧ ks.length < 64 ∧ ∀ q, H q = none → Q (.ref q) (upd H q (.lst ((srt ks).map fun l => V.str (st l))))
  | _ => False
theorem call_sortedD (hc : X.calm = true) : CallR X (.builtin "sorted") kSortD := by
  intro pins s σ H xs us Q I r q
  unfold kSortD at q
  split at q
  · rename_i a
    obtain ⟨kvs, ks, e1, ek, nd, h64, q⟩ := q
    obtain ⟨u, rfl, ru⟩ := vals1 r
    cases ru
    obtain ⟨z, hd, vs, rel, dd⟩ := dk_of I.hok e1
    obtain ⟨ob, es, ep, hq, rr⟩ := id dd
    refine tokQ I.tk (sorted_keys (ks := ks) (ep := ep) (I.ok.hd hc) ⟨ob, es, hq, rr⟩ hd (by rw [← rel.keys]; exact ek) h64 fun h1 h' tk out ss' e old old2 ho hso hp hsd (htk : 0 < tk) => ?_)
    have pd : (ks.map st).Perm (L2.dd (ks.map st)) := by
      refine (List.perm_ext_iff_of_nodup (List.pairwise_map.mpr (nd.imp fun {a b} ne z => ne (st_inj.mp z))) (dd_nodup _)).mpr fun x => ?_
      rw [dd_mem]
    have e1 := sorted_is (hp.trans pd) hsd
    subst e1
    have hv : Vals ((srt ks).map fun l => V.str (st l)) out := by
      have := vals_strs hso
      rwa [List.map_map] at this
    have hlen : (srt ks).length = ks.length := by
      have := hp.length_eq
      simpa using this
    have I1 : Inv X pins σ H { s with heap := h1, toks := tk } := I.kept old
    have I2 := I1.laid (a := h1.objs.size) (o := .lst ((srt ks).map fun l => V.str (st l))) (t' := tk) old2 (Nat.le_refl _) ⟨by rw [List.length_map, hlen, sizeLine_eq]; omega, out, e, hv, ho⟩
    exact ⟨.ref _, _, I2, rfl, q _ (I1.hok.fresh (Nat.le_refl _))⟩
  · exact q.elim
theorem a_kSortD {a : Addr} {H : Hp} {Q : VK} : kSortD [.ref a] H Q = ∃ (kvs : List (Key × V)) (ks : List (List Nat)), H a = some (.dK kvs) ∧ kvs.map (·.1) = ks.map (fun l => Sum.inr (st l)) ∧ ks.Nodup ∧ ks.length < 64 ∧ ∀ q, H q = none → Q (.ref q) (upd H q (.lst ((srt ks).map fun l => V.str (st l)))) := rfl
end
end L2


set_option linter.all false
set_option maxRecDepth 100000
namespace L2
open PySem PySem.Spec PyProof.Rows
section
variable {prog : Program} {w : World} {A : Around} {E : Value → Shared → Prop} {s : Shared}
theorem wp_sortFew {kd : SortKind} {S : Keyed → Prop} {lt : Keyed → Keyed → Bool} (hC : CmpBy prog w A E s kd S lt) (hL : LtOk lt) {st : SortSt} {Q : Unit → SortSt → Prop} {n : Nat} (hn : (arrOf st).size = n) (hk : kindOf st = kd) (hf : failedOf st = none) (hp : pendingOf st = #[])
    (hS : ∀ x ∈ (arrOf st).toList, S x) (hd : Apart lt (arrOf st).toList) (h2 : 2 ≤ n) (h64 : n < 64) (h : ∀ st', failedOf st' = none → (arrOf st').toList.Perm (arrOf st).toList → UpIn lt (arrOf st') 0 n → Q () st') : wpS (model prog w) A E s sortRuns' Q st := by
  have hm : minRun' n n 0 = n := by
    obtain ⟨k, rfl⟩ : ∃ k, n = k + 1 := ⟨n - 1, by omega⟩
    rw [minRun'_succ, if_pos h64, Nat.add_zero]
  have l0 : LocSt kd S lt 0 (arrOf st) st st := ⟨hk, rfl, rfl, List.Perm.refl _, fun _ _ => rfl, hS, hd⟩
  have fin : ∀ st', LocSt kd S lt 0 (arrOf st) st st' → pendingOf st' = #[] := fun st' l => l.p.trans hp
  rw [sortRuns'_eq]
  refine wpS_bind (wpS_get ?_)
  dsimp only
  rw [hn, hm]
  refine wpS_bind (wpS_mono (wpS_forRange (I := fun x c st' => (x = 0 ∧ c = (none, 0) ∧ st' = st) ∨ (x ≠ 0 ∧ c = (none, n) ∧ failedOf st' = none ∧ (pendingOf st').size = 1 ∧ (arrOf st').toList.Perm (arrOf st).toList ∧ UpIn lt (arrOf st') 0 n))
    (Q := fun c st' => c = (none, n) ∧ failedOf st' = none ∧ (pendingOf st').size = 1 ∧ (arrOf st').toList.Perm (arrOf st).toList ∧ UpIn lt (arrOf st') 0 n) ?turn ?out (.inl ⟨rfl, rfl, rfl⟩)) ?more)
  case out =>
    rintro c st' (⟨hx, _⟩ | ⟨_, z⟩)
    · omega
    · exact z
  case turn =>
    rintro x c st' _ hx (⟨rfl, rfl, rfl⟩ | ⟨_, rfl, z⟩)
    · dsimp only
      rw [if_neg (show ¬ 0 ≥ n by omega)]
      refine wpS_bind (wp_countRun hC hL l0 (by omega) (by omega) fun m st2 l2 m1 m2 hu => ?_)
      dsimp only
      have ends : ∀ st3, LocSt kd S lt 0 (arrOf st') st' st3 → UpIn lt (arrOf st3) 0 n → ∀ (pd : Array (Nat × Nat × Nat)), pd.size = 1 → (0 + 1 ≠ 0 ∧ ((none : Option Unit), 0 + n) = (none, n) ∧ failedOf (setPending st3 pd) = none ∧ (pendingOf (setPending st3 pd)).size = 1 ∧ (arrOf (setPending st3 pd)).toList.Perm (arrOf st').toList ∧ UpIn lt (arrOf (setPending st3 pd)) 0 n) :=
        fun st3 l3 u3 pd hpd => ⟨by omega, by rw [Nat.zero_add], l3.f.trans hf, hpd, l3.perm, u3⟩
      by_cases c1 : m < n
      · rw [if_pos c1]
        refine wpS_bind (wpS_lift (wpAny_rule ⟨rfl, ?_⟩))
        refine wpS_bind (wp_binarySort hC hL l2 (by omega) (by omega) m1 hu fun st3 l3 u3 => ?_)
        simp only [Bool.not_true, Bool.false_eq_true, if_false]
        refine wpS_bind (wpS_get ?_)
        rw [show (pendingOf st3).back? = none by rw [fin st3 l3]; rfl]
        dsimp only
        have en : min (n - 0) n = n := by omega
        rw [en] at u3
        refine wpS_bind (wpS_modify (wpS_pure (.inr ?_)))
        have e3 := ends st3 l3 u3 ((pendingOf st3).push (0, n, 0)) (by rw [fin st3 l3]; rfl)
        rw [en]
        exact ⟨e3.1, by rw [Nat.zero_add], e3.2.2⟩
      · rw [if_neg c1]
        obtain rfl : m = n := by omega
        refine wpS_bind (wpS_get ?_)
        rw [show (pendingOf st2).back? = none by rw [fin st2 l2]; rfl]
        dsimp only
        refine wpS_bind (wpS_modify (wpS_pure (.inr ?_)))
        have e3 := ends st2 l2 hu ((pendingOf st2).push (0, m, 0)) (by rw [fin st2 l2]; rfl)
        exact ⟨e3.1, by rw [Nat.zero_add], e3.2.2⟩
    · dsimp only
      rw [if_pos (Nat.le_refl n)]
      exact wpS_pure ⟨rfl, z⟩
  case more =>
    rintro c st' ⟨rfl, f, pz, pm, u⟩
    dsimp only
    refine wpS_bind (wpS_mono (wpS_forRange (I := fun _ c st2 => c = (none, ()) ∧ st2 = st') (Q := fun c st2 => c = (none, ()) ∧ st2 = st') ?go (fun c st2 z => z) ⟨rfl, rfl⟩) ?fine)
    case go =>
      rintro y c st2 _ _ ⟨rfl, rfl⟩
      refine wpS_bind (wpS_get ?_)
      rw [if_pos (show (pendingOf st2).size ≤ 1 by omega)]
      exact wpS_pure ⟨rfl, rfl⟩
    case fine =>
      rintro c st2 ⟨rfl, rfl⟩
      exact wpS_pure (h st2 f pm u)
end
def txtIn (o : Option Value) : List Nat := match o with
  | some (.str x _) => x.cps.toList
  | _ => []
def firstIn (o : Option Obj) : List Nat := match o with
  | some o => match o.data with
    | .seq xs _ => txtIn (xs[0]? : Option Value)
    | _ => []
  | none => []
def firstOf (h : Heap) (v : Value) : List Nat := match v with
  | .ref t => firstIn (h.get? t)
  | _ => []
def PairIn (h : Heap) (ws : List (List Nat × List Nat)) (x : Value) : Prop := ∃ t w u v, x = .ref t ∧ w ∈ ws ∧ IsTup h t #[.str (st w.1) u, .str (st w.2) v]
theorem firstOf_eq {h : Heap} {t : Addr} {a b : List Nat} {u v : Tok} (e : IsTup h t #[.str (st a) u, .str (st b) v]) : firstOf h (.ref t) = a := by
  obtain ⟨o, ho, _, n, hd⟩ := e
  unfold firstOf firstIn
  simp only [ho, hd]
  rfl
def pairLt (h : Heap) (x y : Keyed) : Bool := strKind.blt (firstOf h x.1) (firstOf h y.1)
theorem pairLt_ok (h : Heap) : LtOk (pairLt h) :=
  ⟨fun x => strKind.irrefl _, fun x y z h k => KeyOrd.kle_trans (O := strKind.toKeyOrd) h k, fun x y h => KeyOrd.kle_of_klt (O := strKind.toKeyOrd) h⟩
theorem keys_one {ws : List (List Nat × List Nat)} (nd : (ws.map (·.1)).Nodup) {x y : List Nat × List Nat} (hx : x ∈ ws) (hy : y ∈ ws) (e : x.1 = y.1) : x = y := by
  induction ws with
  | nil => cases hx
  | cons z ws ih =>
    rw [List.map_cons, List.nodup_cons] at nd
    rcases List.mem_cons.mp hx with hx | hx <;> rcases List.mem_cons.mp hy with hy | hy
    · rw [hx, hy]
    · exact absurd (List.mem_map.mpr ⟨y, hy, by rw [← e, hx]⟩) nd.1
    · exact absurd (List.mem_map.mpr ⟨x, hx, by rw [e, hy]⟩) nd.1
    · exact ih nd.2 hx hy
section
variable {prog : Program} {w : World} {A : Around} {E : Value → Shared → Prop} {s : Shared}
theorem pair_cmp {ws : List (List Nat × List Nat)} (nd : (ws.map (·.1)).Nodup) : CmpBy prog w A E s (tuples' true) (fun x => PairIn s.heap ws x.1) (pairLt s.heap) := fun x y st Q hx hy hk q => by
  obtain ⟨x, p⟩ := x
  obtain ⟨y, r⟩ := y
  obtain ⟨t1, w1, u1, v1, rfl, m1, i1⟩ := hx
  obtain ⟨t2, w2, u2, v2, rfl, m2, i2⟩ := hy
  have f1 := firstOf_eq i1
  have f2 := firstOf_eq i2
  obtain ⟨o1, h1, _, n1, d1⟩ := i1
  obtain ⟨o2, h2, _, n2, d2⟩ := i2
  have q : Q (some (strKind.blt (firstOf s.heap (.ref t1)) (firstOf s.heap (.ref t2)))) st := q
  rw [f1, f2] at q
  rw [lt'_eq]
  refine wpS_bind (wpS_get ?_)
  rw [hk]
  refine wpS_bind (wpS_lift (wpAny_attempt (PySem.W.kat_lt h1 d1 h2 d2 (PySem.W.kat_cons (wpAny_eqBool_str ?_)))))
  by_cases c : w1.1 = w2.1
  · have e := keys_one nd m1 m2 c
    subst e
    rw [decide_eq_true rfl]
    refine PySem.W.kat_yes (PySem.W.kat_cons (wpAny_eqBool_str ?_))
    rw [decide_eq_true rfl]
    refine PySem.W.kat_yes (PySem.W.kat_nil ⟨rfl, wpS_pure ?_⟩)
    rw [strKind.irrefl] at q
    exact q
  · rw [decide_eq_false (fun z => c (st_inj.mp z))]
    exact PySem.W.kat_no (oneLt_str ⟨rfl, wpS_pure q⟩)
theorem list_sort_pairs {a : Addr} {vs : List Value} {ws : List (List Nat × List Nat)} {n : Nat} {P : Fin → Shared → Prop} (ho : s.heap.get? a = some (seqObj "list" vs.toArray n)) (hp : ∀ v ∈ vs, PairIn s.heap ws v) (nd : (ws.map (·.1)).Nodup)
    (ap : vs.Pairwise fun x y => firstOf s.heap x ≠ firstOf s.heap y) (h64 : vs.length < 64)
    (h : ∀ out : Array Value, out.toList.Perm vs → out.toList.Pairwise (fun x y => firstOf s.heap x < firstOf s.heap y) → P (.done (.ret .none)) { s with heap := sortedHeap s.heap a vs out }) :
    wpAny (model prog w) A (Builtin.«list.sort» ⟨[.ref a], []⟩) P E s := by
  have hlt := Heap.lt_size ho
  have pairs : (vs.toArray.zip vs.toArray).toList = vs.map fun v => (v, v) := by
    have : ∀ l : List Value, l.zip l = l.map fun v => (v, v) := fun l => by
      induction l with
      | nil => rfl
      | cons x l ih => rw [List.zip_cons_cons, ih, List.map_cons]
    simp [this]
  rw [list_sort_plain]
  refine wpAny_bind (listItems_at ho rfl (wpAny_bind (listUpdate_at ho rfl ?_)))
  obtain ⟨n1, o1⟩ : ∃ n1, (s.heap.update a (Obj.mapSeq fun _ => #[])).get? a = some (seqObj "list" #[] n1) := ⟨_, get?_update_seq ho fun _ => (#[] : Array Value)⟩
  refine wpAny_bind (seqEpoch_at o1 rfl (wpAny_bind (wpAny_newTuple (wpAny_bind (wpAny_newList (wpAny_holding ?_))))))
  have hl1 : a < (s.heap.update a (Obj.mapSeq fun _ => #[])).objs.size := Nat.lt_of_lt_of_eq hlt (Heap.size_update ..).symm
  generalize hM : ((s.heap.update a (Obj.mapSeq fun _ => #[])).push (seqObj "tuple" vs.toArray 0)).push (seqObj "list" #[] 0) = M
  have kp : ∀ b o, b ≠ a → s.heap.get? b = some o → M.get? b = some o := fun b o hb e => by
    rw [← hM]
    refine Heap.get?_push_of_some _ (Heap.get?_push_of_some _ ?_)
    rw [Heap.get?_update_other _ _ (Ne.symm hb)]
    exact e
  have o6 : M.get? a = some (seqObj "list" #[] n1) := by
    rw [← hM]
    exact Heap.get?_push_of_some _ (Heap.get?_push_of_some _ o1)
  have nota : ∀ t its, IsTup s.heap t its → t ≠ a := fun t its i z => by
    obtain ⟨o, hq, hc, _⟩ := i
    rw [z, ho] at hq
    have hq := Option.some.inj hq
    rw [← hq] at hc
    exact absurd hc (by simp [seqObj])
  have tupM : ∀ t its, IsTup s.heap t its → IsTup M t its := fun t its i => by
    have ne := nota t its i
    obtain ⟨o, hq, r⟩ := i
    exact ⟨o, kp t o ne hq, r⟩
  have inM : ∀ v ∈ vs, PairIn M ws v := fun v hv => by
    obtain ⟨t, w, u, x, e, m, i⟩ := hp v hv
    exact ⟨t, w, u, x, e, m, tupM t _ i⟩
  have firstM : ∀ v ∈ vs, firstOf M v = firstOf s.heap v := fun v hv => by
    obtain ⟨t, w, u, x, rfl, m, i⟩ := hp v hv
    rw [firstOf_eq i, firstOf_eq (tupM t _ i)]
  have put : ∀ out : Array Value, sortedHeap s.heap a vs out = M.update a (Obj.mapSeq fun _ => out) := fun out => by
    rw [← hM]
    rfl
  show wpAny (model prog w) A _ P E { s with heap := M }
  dsimp only
  by_cases two : vs.toArray.size < 2
  · rw [if_pos two, if_pos two]
    refine wpAny_bind (wpAny_pure ?_)
    rw [StateT.run_pure]
    refine wpAny_bind (wpAny_pure ?_)
    dsimp only
    have e0 : ((vs.toArray.zip vs.toArray).map (·.2)).toList = vs := by
      rw [Array.toList_map, pairs, List.map_map]
      exact List.map_id vs
    have ez : ((vs.toArray.zip vs.toArray).map (·.2)).size ≤ sizeLine + 1 := by
      rw [← Array.length_toList, e0, sizeLine_eq]
      omega
    refine wpAny_bind (seqEpoch_at o6 rfl (wpAny_bind (listUpdate_at o6 rfl ?_ (hsz2 := ez))))
    simp only [bne_self_eq_false, Bool.false_eq_true, if_false]
    have hh := h ((vs.toArray.zip vs.toArray).map (·.2)) (by rw [e0]) (by
      rw [e0]
      match vs, two with
      | [], _ => exact List.Pairwise.nil
      | [x], _ => simp
      | x :: y :: l, z => exact absurd z (by simp))
    rw [put] at hh
    exact wpAny_pure hh
  · rw [if_neg two, if_neg two]
    have two' : 2 ≤ vs.length := by simpa using two
    have kt : ∀ l : List Value, (∀ v ∈ l, PairIn M ws v) → ∃ fs, PySem.W.KatTups M l fs ∧ fs.length = l.length ∧ ∀ f ∈ fs, ∃ x u, f = Value.str x u := fun l hl => by
      induction l with
      | nil => exact ⟨[], trivial, rfl, fun f hf => absurd hf List.not_mem_nil⟩
      | cons v l ih =>
        obtain ⟨fs, a1, a2, a3⟩ := ih fun x hx => hl x (List.mem_cons_of_mem _ hx)
        obtain ⟨t, w, u, x, rfl, m, ⟨o, b1, b2, k, b3⟩⟩ := hl v List.mem_cons_self
        refine ⟨.str (st w.1) u :: fs, PySem.W.KatTups.cons b1 b2 b3 rfl a1, by simp [a2], fun f hf => ?_⟩
        rcases List.mem_cons.mp hf with rfl | hf
        · exact ⟨_, _, rfl⟩
        · exact a3 f hf
    obtain ⟨fs, t1, t2, t3⟩ := kt vs inM
    refine wpAny_bind (PySem.W.kat_kind (T := .type "str") t1 (by omega) (fun v hv => by
      obtain ⟨x, u, rfl⟩ := t3 v hv
      exact PySem.W.Looks.now) rfl ?_)
    refine wpAny_bind (wpAny_mono (wp_sortFew (s := { s with heap := M }) (Q := fun _ st' => failedOf st' = none ∧ (arrOf st').toList.Perm (vs.map fun v => (v, v)) ∧ UpIn (pairLt M) (arrOf st') 0 vs.length) (pair_cmp nd) (pairLt_ok M)
      (n := vs.length) (by show (vs.toArray.zip vs.toArray).size = _; rw [← Array.length_toList, pairs, List.length_map]) rfl rfl rfl ?_ ?_ two' h64 fun st' f p u => ⟨f, by rw [← pairs]; exact p, u⟩) ?_ fun _ _ z => z)
    · intro x hx
      have hx : x ∈ (vs.toArray.zip vs.toArray).toList := hx
      rw [pairs] at hx
      obtain ⟨v, hv, rfl⟩ := List.mem_map.mp hx
      exact inM v hv
    · show Apart (pairLt M) (vs.toArray.zip vs.toArray).toList
      rw [pairs]
      refine List.pairwise_map.mpr (ap.imp_of_mem fun {x y} hx hy ne => ?_)
      show decide (firstOf M x < firstOf M y) = true ∨ decide (firstOf M y < firstOf M x) = true
      rw [decide_eq_true_eq, decide_eq_true_eq, firstM x hx, firstM y hy]
      by_cases c : firstOf s.heap x < firstOf s.heap y
      · exact .inl c
      · exact .inr (lt_tri _ _ ne c)
    rintro ⟨⟨⟩, st'⟩ s' ⟨rfl, f, p, u⟩
    dsimp only
    have pl := p.length_eq
    rw [List.length_map, Array.length_toList] at pl
    have ez : ((arrOf st').map (·.2)).size ≤ sizeLine + 1 := by
      rw [Array.size_map, pl, sizeLine_eq]
      omega
    refine wpAny_bind (seqEpoch_at o6 rfl (wpAny_bind (listUpdate_at o6 rfl ?_ (hsz2 := ez))))
    rw [f]
    simp only [bne_self_eq_false, Bool.false_eq_true, if_false]
    have p2 : ((arrOf st').map (·.2)).toList.Perm vs := by
      rw [Array.toList_map]
      have := p.map (·.2)
      rw [List.map_map, show ((fun x : Value × Value => x.2) ∘ fun v => (v, v)) = id from rfl, List.map_id] at this
      exact this
    have hh := h ((arrOf st').map (·.2)) p2 (by
      rw [List.pairwise_iff_getElem]
      intro i j hi hj hij
      have ap2 : ((arrOf st').map (·.2)).toList.Pairwise fun x y => firstOf s.heap x ≠ firstOf s.heap y := (p2.pairwise_iff (fun {a b} (q : firstOf s.heap a ≠ firstOf s.heap b) => q.symm)).mpr ap
      have ne := List.pairwise_iff_getElem.mp ap2 i j hi hj hij
      have hi' : i < (arrOf st').size := by simpa using hi
      have hj' : j < (arrOf st').size := by simpa using hj
      have one : ∀ k (hk : k < (arrOf st').size), ∃ v ∈ vs, (arrOf st')[k] = (v, v) := fun k hk => by
        have : (arrOf st')[k] ∈ (arrOf st').toList := by simp
        obtain ⟨v, hv, e⟩ := List.mem_map.mp (p.mem_iff.mp this)
        exact ⟨v, hv, e.symm⟩
      obtain ⟨v, hv, ev⟩ := one i hi'
      obtain ⟨z, hz, ez⟩ := one j hj'
      have up := u i j _ _ (Nat.zero_le _) (Nat.le_of_lt hij) (by rw [Nat.zero_add, ← pl]; exact hj') (getElem?_pos (arrOf st') i hi') (getElem?_pos (arrOf st') j hj')
      rw [ev, ez] at up
      have up : decide (firstOf M z < firstOf M v) = false := up
      rw [decide_eq_false_iff_not, firstM v hv, firstM z hz] at up
      simp only [Array.getElem_toList, Array.getElem_map, ev, ez] at ne ⊢
      exact Classical.byContradiction fun c => up (lt_tri _ _ ne c))
    rw [put] at hh
    exact wpAny_pure hh
theorem sorted_pairs {l : Addr} {vs : List Value} {ws : List (List Nat × List Nat)} {Q : Value → Shared → Prop} (hl : s.heap.IsList l vs.toArray) (hp : ∀ v ∈ vs, PairIn s.heap ws v) (nd : (ws.map (·.1)).Nodup)
    (ap : vs.Pairwise fun x y => firstOf s.heap x ≠ firstOf s.heap y) (h64 : vs.length < 64)
    (h : ∀ (D : Addr) (h' : Heap) (tk : Nat) (out : List Value) (e : Nat), (∀ b o, s.heap.get? b = some o → h'.get? b = some o) → s.heap.objs.size ≤ D → h'.get? D = some (seqObj "list" out.toArray e) → out.Perm vs → out.Pairwise (fun x y => firstOf s.heap x < firstOf s.heap y) →
      Q (.ref D) { s with heap := h', toks := tk }) :
    wpAny (model prog w) A (call (.builtin "sorted") [.ref l]) Q E s := by
  refine Calls.call_function_entry kind_sorted plain_sorted entry_sorted (args_sorted1 _) ?_
  unfold Builtin.«sorted»
  refine wpAny_bind (m := checkCount "sorted" 1 1 _) (wpAny_pure ?_)
  refine wpAny_bind (collect_list hl ?_ (by rw [sizeLine_eq]; omega))
  refine wpAny_bind (wpAny_newList ?_ (by rw [sizeLine_eq]; omega))
  generalize hM : (s.heap.push (seqObj "list" #[] 0)).update s.heap.objs.size (Obj.mapSeq (· ++ vs.toArray)) = M
  have kp : ∀ b o, s.heap.get? b = some o → M.get? b = some o := fun b o q => by
    rw [← hM, Heap.get?_update_other _ _ (Nat.ne_of_gt (Heap.lt_size q))]
    exact Heap.get?_push_of_some _ q
  have hsz : s.heap.objs.size ≤ M.objs.size := by
    rw [← hM, Heap.size_update, size_push']
    exact Nat.le_succ _
  have hD : (M.push (seqObj "list" vs.toArray 0)).get? M.objs.size = some (seqObj "list" vs.toArray 0) := Heap.get?_push_size _ rfl
  have tupM : ∀ t its, IsTup s.heap t its → IsTup (M.push (seqObj "list" vs.toArray 0)) t its := fun t its ⟨o, hq, r⟩ => ⟨o, Heap.get?_push_of_some _ (kp t o hq), r⟩
  have firstM : ∀ v ∈ vs, firstOf (M.push (seqObj "list" vs.toArray 0)) v = firstOf s.heap v := fun v hv => by
    obtain ⟨t, w, u, x, rfl, m, i⟩ := hp v hv
    rw [firstOf_eq i, firstOf_eq (tupM t _ i)]
  show wpAny _ _ _ _ _ { s with heap := M.push (seqObj "list" vs.toArray 0) }
  refine wpAny_bind (wpAny_holding (wpAny_call_entry slot_list_sort ⟨_, hD, rfl⟩ entry_list_sort (list_sort_pairs (s := { s with heap := M.push (seqObj "list" vs.toArray 0) }) hD (ws := ws) (fun v hv => ?_) nd (ap.imp_of_mem fun {x y} hx hy ne => ?_) h64 fun out p u => ⟨_, rfl, ?_⟩) (args_list_sort _)))
  · obtain ⟨t, w, u, x, e, m, i⟩ := hp v hv
    exact ⟨t, w, u, x, e, m, tupM t _ i⟩
  · show firstOf (M.push (seqObj "list" vs.toArray 0)) x ≠ firstOf (M.push (seqObj "list" vs.toArray 0)) y
    rw [firstM x hx, firstM y hy]
    exact ne
  obtain ⟨e, he⟩ := sortedHeap_at (out := out) hD
  refine wpAny_pure ⟨_, rfl, h _ _ s.toks out.toList e (fun b o q => ?_) hsz (by rw [Array.toArray_toList]; exact he) p (u.imp_of_mem fun {x y} hx hy lt => ?_)⟩
  · have hb1 := Heap.lt_size (kp b o q)
    show (sortedHeap (M.push (seqObj "list" vs.toArray 0)) M.objs.size vs out).get? b = some o
    rw [sortedHeap_old (Nat.ne_of_lt hb1) (by rw [size_push']; exact Nat.lt_succ_of_lt hb1)]
    exact Heap.get?_push_of_some _ (kp b o q)
  · have lt : firstOf (M.push (seqObj "list" vs.toArray 0)) x < firstOf (M.push (seqObj "list" vs.toArray 0)) y := lt
    rw [firstM x (p.mem_iff.mp hx), firstM y (p.mem_iff.mp hy)] at lt
    exact lt
end
theorem paired_meml {α β : Type} {R : α → β → Prop} : ∀ {l : List α} {m : List β}, Paired R l m → ∀ a ∈ l, ∃ b ∈ m, R a b
  | _, _, .nil, _, h => by cases h
  | _, _, .cons r t, a, h => by
    rcases List.mem_cons.mp h with rfl | h
    · exact ⟨_, List.mem_cons_self, r⟩
    · obtain ⟨b, hb, rb⟩ := paired_meml t a h
      exact ⟨b, List.mem_cons_of_mem _ hb, rb⟩
theorem paired_flip {α β : Type} {R : α → β → Prop} : ∀ {l : List α} {m : List β}, Paired R l m → Paired (fun b a => R a b) m l
  | _, _, .nil => .nil
  | _, _, .cons r t => .cons r (paired_flip t)
theorem paired_pairwise2 {α β : Type} {R : α → β → Prop} {S : β → β → Prop} {S' : α → α → Prop} (f : ∀ a b c d, R a b → R c d → S b d → S' a c) {l : List α} {m : List β} (p : Paired R l m) (h : m.Pairwise S) : l.Pairwise S' :=
  paired_pairwise (fun a b c d h1 h2 z => f b a d c h1 h2 z) (paired_flip p) h
def TxP (H : Hp) (x : List Nat × List Nat) (v : V) : Prop := ∃ t, v = .ref t ∧ H t = some (.tup [V.str (st x.1), V.str (st x.2)])
def kSortP (K : PySem.W.Frag) : List V → Hp → VK → Prop := fun xs H Q => match xs with
  | [.ref p] => ∃ (ws : List (List Nat × List Nat)) (vs : List V), SqL K H p vs ∧ Paired (TxP H) ws vs ∧ (ws.map (·.1)).Nodup ∧ ws.length < 64 ∧ ∀ q ws' vs', H q = none → ws'.Perm ws → ws'.Pairwise (fun x y => x.1 < y.1) → Paired (TxP H) ws' vs' → Q (.ref q) (upd H q (.lst vs'))
  | _ => False
section
variable {X : Cx}
theorem call_sortedP (K : PySem.W.Frag) (hK : X.K = K) : CallR X (.builtin "sorted") (kSortP K) := by
  subst hK
  intro pins s σ H xs us Q I r q
  unfold kSortP at q
  split at q
  · rename_i p
    obtain ⟨ws, vs, hs, pr, nd, h64, q⟩ := q
    obtain ⟨u, rfl, ru⟩ := vals1 r
    cases ru
    obtain ⟨its, rv, pl, hz⟩ := I.list hs
    let R : Value → (List Nat × List Nat) × V → Prop := fun u x => RelV x.2 u ∧ TxP H x.1 x.2 ∧ firstOf s.heap u = x.1.1 ∧ ∀ ws, x.1 ∈ ws → PairIn s.heap ws u
    have one : ∀ x v u, TxP H x v → RelV v u → R u (x, v) := fun x v u ht ru => by
      obtain ⟨t, rfl, e⟩ := id ht
      obtain rfl : u = Value.ref t := ru
      obtain ⟨_, its, vr, i⟩ := (show ObjOk X.prog X.w H s.heap t (.tup [V.str (st x.1), V.str (st x.2)]) from I.hok t _ e)
      obtain ⟨a, b, rfl, ⟨u1, rfl⟩, ⟨u2, rfl⟩⟩ := vals2 vr
      exact ⟨rfl, ht, firstOf_eq i, fun ws hm => ⟨t, x, u1, u2, rfl, hm, i⟩⟩
    have zip : ∀ {ws : List (List Nat × List Nat)} {vs : List V} {its : List Value}, Paired (TxP H) ws vs → Vals vs its → Paired R its (ws.zip vs) := fun {ws vs its} a => by
      induction a generalizing its with
      | nil => intro b; cases b; exact .nil
      | cons h _ ih => intro b; cases b with | cons h2 t2 => exact .cons (one _ _ _ h h2) (ih t2)
    have Z := zip pr rv
    have hl := pr.length
    have hl2 := rv.length
    have fz : (ws.zip vs).map Prod.fst = ws := List.map_fst_zip (by omega)
    refine tokQ I.tk (sorted_pairs (ws := ws) pl.isList (fun v hv => ?_) nd ?_ (by omega) fun D h' tk out e old hD ho hp hu (htk : 0 < tk) => ?_)
    · obtain ⟨x, hx, _, _, _, z⟩ := paired_meml Z v hv
      exact z ws (List.of_mem_zip hx).1
    · refine paired_pairwise2 (fun a b c d h1 h2 (ne : b.1.1 ≠ d.1.1) => ?_) Z ?_
      · rw [h1.2.2.1, h2.2.2.1]
        exact ne
      · have this : ((ws.zip vs).map Prod.fst).Pairwise fun x y => x.1 ≠ y.1 := by
          rw [fz]
          exact List.pairwise_map.mp nd
        exact (List.pairwise_map (R := fun x y : List Nat × List Nat => x.1 ≠ y.1)).mp this
    · obtain ⟨m', pm, Zm⟩ := paired_perm hp Z
      have v2 : Vals (m'.map Prod.snd) out := by
        clear pm hu ho hp
        induction Zm with
        | nil => exact .nil
        | cons h _ ih => exact .cons h.1 ih
      have t2 : Paired (TxP H) (m'.map Prod.fst) (m'.map Prod.snd) := by
        clear pm hu ho hp v2
        induction Zm with
        | nil => exact .nil
        | cons h _ ih => exact .cons h.2.1 ih
      have ol : (m'.map Prod.snd).length ≤ sizeLine := by
        rw [List.length_map, pm.length_eq, List.length_zip, sizeLine_eq]
        omega
      have I2 := I.laid (a := D) (o := .lst (m'.map Prod.snd)) (t' := tk) old hD ⟨ol, out, e, v2, ho⟩
      refine ⟨.ref D, _, I2, rfl, q D (m'.map Prod.fst) _ (I.hok.fresh hD) (by rw [← fz]; exact pm.map _) ?_ t2⟩
      refine List.pairwise_map.mpr (paired_pairwise (fun a b c d h1 h2 lt => ?_) Zm hu)
      rw [h1.2.2.1, h2.2.2.1] at lt
      exact lt
  · exact q.elim
theorem a_kSortP {K : PySem.W.Frag} {p : Addr} {H : Hp} {Q : VK} : kSortP K [.ref p] H Q = ∃ (ws : List (List Nat × List Nat)) (vs : List V), SqL K H p vs ∧ Paired (TxP H) ws vs ∧ (ws.map (·.1)).Nodup ∧ ws.length < 64 ∧ ∀ q ws' vs', H q = none → ws'.Perm ws → ws'.Pairwise (fun x y => x.1 < y.1) → Paired (TxP H) ws' vs' → Q (.ref q) (upd H q (.lst vs')) := rfl
end
end L2


set_option linter.all false
set_option maxRecDepth 100000
namespace L2
open PySem PySem.Spec PyProof.Rows
def MCalX (P : Program) (w : World) (K : PySem.W.Frag) (mg : Str → Option Value) (base : Heap) (k : Nat) (x m : Str) (ps : List Str) (sp : Sp) : Prop :=
  ∃ f fd, FnOk P w K mg base (XR P w) k f fd ps sp ∧ Binds K fd ps [] ∧ Meth K (xA K x) m f
theorem MethT.calX {P : Program} {w : World} {K : PySem.W.Frag} {mg : Str → Option Value} {base : Heap} {x m qual : Str} {st : Stmt} {N ps : List Str} {k : Nat} {sp : Sp} (F : MethT K x m qual st) (S : FnScope N ps (defScope st)) (len : ∀ vs H Q E, sp vs H Q E → vs.length = ps.length)
    (hb : ∀ (kV doc pm : Value) (an : Option Addr) (cdv ct : Value) (us : List Value), us.length = ps.length → bindArgs (PySem.W.fnOf m qual (defArgs st) (defBody st) (defScope st) .none kV doc pm an cdv ct) ⟨us, []⟩ = pure (ps.zip us))
    (hbody : ∀ (f : Addr) (cdv : Value) (A : Around) (outer : List Env) (s : Shared) (H : Hp) (vs : List V) (Q : VK) (E : XK), Room k (A.deeper (envOfC qual (defScope st) s.heap.objs.size f cdv)) → sp vs H Q E →
      ∃ t, PSs (cxOf (XR P w) P w K mg base N qual (defScope st) f cdv A outer s H E) (defBody st) t ∧ t { nx := fun _ H' => Q .non H', rt := Q } (start N vs) H) : MCalX P w K mg base (k + 1) x m ps sp := by
  obtain ⟨f, fd, M, F⟩ := F
  have hB := F.binds hb
  obtain ⟨oc, od, kV, doc, pm, an, cdv, ct, osl, rfl, lk, hcd⟩ := F.ex
  exact ⟨f, _, fn_of lk hcd S len (hbody f cdv), hB, M⟩
theorem MCalX.calm {P : Program} {w : World} {K : PySem.W.Frag} {mg : Str → Option Value} {base : Heap} {k : Nat} {x m : Str} {ps : List Str} {sp : Sp} (C : MCalX P w K mg base k x m ps sp) :
    MCal P w K mg base k x m ps (fun vs H Q _ => sp vs H Q E0) := by
  obtain ⟨f, fd, F, b, M⟩ := C
  refine ⟨f, fd, ⟨fun vs H Q _ h => F.len vs H Q E0 h, fun A outer s H args us vs Q E hr e0 hb hv h => ?_⟩, b, M⟩
  refine codeAny_mono (F.run A outer s H args us vs Q E0 hr e0 hb hv h) fun r s' q => ?_
  rcases r with er | fl
  · obtain ⟨_, _, _, _, _, _, _, _, z⟩ := q
    exact z.elim
  · cases fl with
    | ret u => exact q
    | _ => exact q.elim
def tMethT (C : Addr) (m : Str) (sp : Sp) (W : St → XK) (ta : TE) (t : TA) : TE := fun σ H Q => ta σ H fun x H1 => ∃ a dx fs, x = .ref a ∧ H1 a = some (.ins C dx fs) ∧ fs.lookup m = none ∧ t σ H1 fun vs H2 => sp (x :: vs) H2 Q (W σ)
section
variable {X : Cx} {k : Nat} {x m : Str} {ps : List Str} {sp : Sp} {pos apos : Pos} {e o : Expr} {es : List Expr} {ta te : TE} {t : TA} {W : St → XK}
theorem pe_metTt {pl : Sem Bool} (C : ClsT X.K X.mg x) (M : MCalX X.prog X.w X.K X.mg X.base k x m ps sp) (hr : Room k X.A) (hx : PassesT (XR X.prog X.w) X W) (he : PE X o ta) (ha : PA X (e :: es) t)
    (hst : starEach (e :: es) X.env = (false, eval e X.env) :: starEach es X.env := by rfl) (hpl : (backTo pos (starEach es X.env)).any (·.1) = false := by rfl)
    (ht : eval (.Call (.Attribute o m apos) (e :: es) [] pos) X.env = (do
      let ov ← eval o X.env
      standAt apos.atName
      let (f, first) ← holding [ov] (getMethod ov m pl)
      callWith pos f first (backTo pos (starEach (e :: es) X.env)) (backToKw pos (keywordEach [] X.env))) := by rfl) :
    PE X (.Call (.Attribute o m apos) (e :: es) [] pos) (tMethT (xA X.K x) m sp W ta t) := by
  obtain ⟨f, fd, F, b, M⟩ := M
  intro pins s σ H Q I h
  refine PySem.W.methodCall_KW (pl := pl) (thn (he pins s σ H _ I h) fun u s1 ⟨y, H1, I1, rx, a, dx, fs, ex, ea, l, q⟩ => ?_) ht
  subst ex
  obtain rfl : u = Value.ref a := rx
  refine getmeth_ok I1 ea C.c M l ?_
  refine PySem.W.callWith_K (first := [.ref a]) (h₀ := X.base) I.ok.mod.kin M.kp (thn (ha pos pins s1 σ H1 _ I1 q) fun us s2 ⟨vs, H2, I2, r, q2⟩ => ⟨I2.kIn, ?_⟩) hst hpl
  exact run_fnT (us := .ref a :: us) (vs := .ref a :: vs) F hr b .nil hx I2 (.cons rfl r) (by rw [List.append_nil]; exact q2)
theorem pe_metTr {pl : Sem Bool} {p : List (Addr × Obj)} (C : ClsT X.K X.mg x) (M : MCalX X.prog X.w X.K X.mg X.base k x m ps sp) (hr : Room k X.A) (he : PE (X.tries W p) o ta) (ha : PA (X.tries W p) (e :: es) t)
    (hst : starEach (e :: es) (X.tries W p).env = (false, eval e (X.tries W p).env) :: starEach es (X.tries W p).env := by rfl) (hpl : (backTo pos (starEach es (X.tries W p).env)).any (·.1) = false := by rfl)
    (ht : eval (.Call (.Attribute o m apos) (e :: es) [] pos) (X.tries W p).env = (do
      let ov ← eval o (X.tries W p).env
      standAt apos.atName
      let (f, first) ← holding [ov] (getMethod ov m pl)
      callWith pos f first (backTo pos (starEach (e :: es) (X.tries W p).env)) (backToKw pos (keywordEach [] (X.tries W p).env))) := by rfl) :
    PE (X.tries W p) (.Call (.Attribute o m apos) (e :: es) [] pos) (tMethT (xA X.K x) m sp W ta t) := pe_metTt (X := X.tries W p) (pl := pl) C M hr passesT he ha hst hpl ht
theorem a_tMethT {C : Addr} {σ : St} {H : Hp} {Q : VK} : tMethT C m sp W ta t σ H Q = ta σ H fun x H1 => ∃ a dx fs, x = .ref a ∧ H1 a = some (.ins C dx fs) ∧ fs.lookup m = none ∧ t σ H1 fun vs H2 => sp (x :: vs) H2 Q (W σ) := rfl
def OkR (H : Hp) (v : V) : Prop := match v with
  | .non => True
  | .bl _ => True
  | .int i => i = 0 ∨ i = 1 ∨ i = 101
  | .str y => (∀ c ∈ y.cps.toList, c < 16 ^ 8) ∧ y.length ≤ 10000
  | .ref p => ∃ ls, Few ls ∧ (H p = some (.lst (ls.map fun l => V.str (st l))) ∨ H p = some (.tup (ls.map fun l => V.str (st l))))
  | _ => False
def cFmtB (tv : TE) : TE := fun σ H Q => tv σ H fun x H1 => OkR H1 x ∧ ∀ z : Str, z.length ≤ 200000 → Q (.str z) H1
theorem pe_fmtB (hgd : X.A.guards = some []) (hu : X.A.units < cLine) (hv : PE X e te) : PE X (.FormattedValue e 114 none pos) (cFmtB te) := by
  intro pins s σ H Q I q
  refine wpAny_FormattedValue_repr (thn (hv pins s σ H _ I q) fun u s1 ⟨x, H1, I1, r, ok, z⟩ => ?_)
  have fin : ∀ (y : Str) (h' : Heap) (tk : Nat), 0 < tk → (∀ b o, s1.heap.get? b = some o → h'.get? b = some o) → y.length ≤ 200000 → ∀ u, wpAny (model X.prog X.w) X.A (formatField (.str y u) Str.empty) (EP X pins σ Q) X.xe { s1 with heap := h', toks := tk } :=
    fun y h' tk htk kp hy u => tokQ htk (formatField_str (fun t' tk' (htk' : 0 < tk') => ⟨.str y, H1, I1.kept kp, ⟨_, rfl⟩, z y hy⟩) (Nat.le_trans hy (by decide)))
  have same : ∀ b o, s1.heap.get? b = some o → s1.heap.get? b = some o := fun _ _ e => e
  cases x with
  | non =>
    cases r
    exact pyReprObj_none (fin _ s1.heap _ (Nat.succ_pos _) same (by decide) _)
  | bl b =>
    cases r
    exact pyReprObj_bool (fin _ s1.heap _ (Nat.succ_pos _) same (by cases b <;> decide) _)
  | int i =>
    obtain ⟨t, rfl⟩ := r
    refine pyReprObj_int (by rcases ok with rfl | rfl | rfl <;> decide) (fin _ s1.heap _ (Nat.succ_pos _) same ?_ _)
    rcases ok with rfl | rfl | rfl <;> decide
  | str y =>
    obtain ⟨t, rfl⟩ := r
    obtain ⟨h1, h2⟩ := ok
    have hl := PySem.StrLaws.reprText_len y h1
    exact wpAny_pyReprObj_str (fin _ s1.heap _ (Nat.succ_pos _) same (by omega) _) (Nat.le_trans (by omega : (reprText y).length ≤ 200000) (by decide))
  | ref p =>
    cases r
    obtain ⟨ls, hf, hp⟩ := ok
    have hb := few_repr hf
    have hmul : (1002 + 2) * (ls.map fun l => reprText (st l)).length + 3 ≤ 200000 := by
      rw [List.length_map]
      have := hf.1
      omega
    rcases hp with hp | hp
    · obtain ⟨_, its, n, rv, ho⟩ := I1.hok p _ hp
      obtain ⟨_, hlen, hat⟩ := vals_txt rv
      have hsz : (listText (ls.map fun l => reprText (st l))).length ≤ 200000 := by have := listText_le hb; omega
      cases its with
      | nil =>
        have e : ls = [] := by cases ls with | nil => rfl | cons _ _ => simp at hlen
        exact wpAny_pyReprObj_list_empty (s := s1) ⟨_, ho, rfl⟩ hu ho rfl (fin _ s1.heap _ (Nat.succ_pos _) same (by decide) _)
      | cons v vs =>
        refine tokQ I1.tk (wpAny_pyReprObj_list (s := s1) (ts := ls.map fun l => reprText (st l)) ⟨_, ho, rfl⟩ hgd (fun _ _ _ hm => by cases hm) hu ho rfl (by simp only [List.length_map, List.size_toArray]; exact hlen.symm) (fun i y hy => ?_) (fun h' u tk kp (htk : 0 < tk) => fin _ h' tk htk kp hsz u) (Nat.le_trans hsz (by decide)))
        rw [List.getElem?_toArray] at hy
        obtain ⟨l, t, hl, rfl⟩ := hat i y hy
        have hlb := hb _ (List.mem_map.mpr ⟨l, List.mem_of_getElem? hl, rfl⟩)
        exact ⟨reprText (st l), by rw [List.getElem?_map, hl]; rfl, ReprIs.str (st l) t (Nat.le_trans hlb (by decide))⟩
    · obtain ⟨_, its, rv, o, ho, hoc, n, hod⟩ := I1.hok p _ hp
      obtain ⟨_, hlen, hat⟩ := vals_txt rv
      have hsz : (tupleText (ls.map fun l => reprText (st l))).length ≤ 200000 := by have := tupleText_le hb; omega
      have all : ∀ (ls : List (List Nat)) (us : List Value), us.length = ls.length → (∀ (i : Nat) u, us[i]? = some u → ∃ l t, ls[i]? = some l ∧ u = Value.str (st l) t) → (∀ l ∈ ls, (reprText (st l)).length ≤ 1002) → ReprAll X.prog X.w us (ls.map fun l => reprText (st l)) := by
        intro ls
        induction ls with
        | nil => intro us h1 _ _; cases us with | nil => exact .nil | cons _ _ => simp at h1
        | cons l ls ih =>
          intro us h1 h2 h3
          cases us with
          | nil => simp at h1
          | cons u us =>
            obtain ⟨l', t, e1, rfl⟩ := h2 0 u rfl
            cases e1
            exact .cons (ReprIs.str (st l) t (Nat.le_trans (h3 l List.mem_cons_self) (by decide))) (ih us (by simpa using h1) (fun i u hu => h2 (i + 1) u (by simpa using hu)) fun x hx => h3 x (List.mem_cons_of_mem _ hx))
      refine tokQ I1.tk (wpAny_pyReprObj_tuple (s := s1) (ts := ls.map fun l => reprText (st l)) ⟨_, ho, hoc⟩ hgd (fun _ hm => by cases hm) hu ho hod (all ls its hlen hat fun l hl => hb _ (List.mem_map.mpr ⟨l, hl, rfl⟩)) (fun u tk (htk : 0 < tk) => fin _ s1.heap tk htk same hsz u) (Nat.le_trans hsz (by decide)))
  | _ => exact ok.elim
theorem a_cFmtB {tv : TE} {σ : St} {H : Hp} {Q : VK} : cFmtB tv σ H Q = tv σ H fun x H1 => OkR H1 x ∧ ∀ z : Str, z.length ≤ 200000 → Q (.str z) H1 := rfl
end
def kMulT : R2 := fun x y H Q => match x, y with
  | .str a, .int n => 2 ≤ n ∧ n ≤ 100 ∧ 1 ≤ a.cps.toList.length ∧ a.cps.toList.length ≤ 100 ∧ ∀ z : List Nat, (z.length : Int) = a.cps.toList.length * n → (∀ c ∈ z, c ∈ a.cps.toList) → Q (.str (st z)) H
  | _, _ => False
theorem fold_mem (x : Array Nat) : ∀ (k : Nat) (acc : Array Nat), ∀ c ∈ ((List.replicate k x).foldl (· ++ ·) acc).toList, c ∈ acc.toList ∨ c ∈ x.toList
  | 0, acc, c, h => .inl h
  | k + 1, acc, c, h => by
    rw [List.replicate_succ, List.foldl_cons] at h
    rcases fold_mem x k (acc ++ x) c h with z | z
    · rw [Array.toList_append] at z
      exact List.mem_append.mp z
    · exact .inr z
theorem op_mulT {X : Cx} : OpR X (binaryOp .Mult) kMulT := by
  intro pins s σ H x y v u Q I rx ry q
  unfold kMulT at q
  split at q
  · rename_i a n
    obtain ⟨n1, n2, a1, a2, q⟩ := q
    have hl : a.length = a.cps.toList.length := by simp [Str.length]
    have m1 : a.cps.toList.length * n.toNat ≤ 100 * 100 := Nat.mul_le_mul a2 (by omega)
    refine op_mul_str pins s σ H _ _ v u Q I rx ry ⟨_, _, rfl, rfl, ⟨by rw [decide_eq_false (by omega), decide_eq_false (by omega)]; rfl, fun _ _ => ?_, fun _ _ => ?_⟩, ?_⟩
    · have h3 : (100 : Int) ≤ (2 ^ 63 - 1) / n := by
        rw [Int.le_ediv_iff_mul_le (by omega)]
        omega
      omega
    · unfold PySem.Builtin.Str.tooLong sizeLine
      have e : (2 : Nat) ^ 24 = 16777216 := by decide
      exact decide_eq_false (by rw [hl]; omega)
    · have hm := len_mul a n
      rw [show decide (n < 0) = false from decide_eq_false (by omega)] at hm
      have key := q (Txt.mul a n).cps.toList (by
        have e1 : (Txt.mul a n).length = (Txt.mul a n).cps.toList.length := by simp [Str.length]
        rw [← e1, ← hl]
        simpa using hm) (fun c hc => by
        unfold Txt.mul at hc
        rw [if_neg (by omega)] at hc
        split at hc
        · exact hc
        · rcases fold_mem a.cps n.toNat #[] c hc with z | z
          · cases z
          · exact z)
      rw [st_eta] at key
      exact key
  · exact q.elim
theorem a_kMulT {l : List Nat} {n : Int} {H : Hp} {Q : VK} : kMulT (.str (st l)) (.int n) H Q = (2 ≤ n ∧ n ≤ 100 ∧ 1 ≤ l.length ∧ l.length ≤ 100 ∧ ∀ z : List Nat, (z.length : Int) = l.length * n → (∀ c ∈ z, c ∈ l) → Q (.str (st z)) H) := rfl
end L2

set_option Elab.async false
set_option linter.all false
set_option maxRecDepth 100000
set_option maxHeartbeats 4000000
namespace Law
open PySem L2 Mir
def top (i : Nat) : Stmt := PySem.Challenge.pw_throng_k25_tree_refuses.main.body.getD i (.Pass ⟨0, 0, 0, 0⟩)
abbrev s_is_letter : Stmt := top 13
theorem sc_is_letter : FnScope ["thing", "width"] ["thing", "width"] (defScope s_is_letter) := ⟨rfl, rfl, rfl, by decide +kernel, rfl, by decide +kernel, by decide +kernel⟩
abbrev s_is_text_of : Stmt := top 14
theorem sc_is_text_of : FnScope ["thing", "width", "signs", "sign"] ["thing", "width", "signs"] (defScope s_is_text_of) := ⟨rfl, rfl, rfl, by decide +kernel, rfl, by decide +kernel, by decide +kernel⟩
abbrev s_way_found : Stmt := top 17
theorem sc_way_found : FnScope ["ways", "signs", "longest", "found", "beginning", "door"] ["ways", "signs"] (defScope s_way_found) := ⟨rfl, rfl, rfl, by decide +kernel, rfl, by decide +kernel, by decide +kernel⟩
abbrev s_is_beginning : Stmt := top 18
theorem sc_is_beginning : FnScope ["thing", "longest"] ["thing", "longest"] (defScope s_is_beginning) := ⟨rfl, rfl, rfl, by decide +kernel, rfl, by decide +kernel, by decide +kernel⟩
abbrev s__law_cell_at : Stmt := top 21
theorem sc__law_cell_at : FnScope ["_law_script", "_law_k"] ["_law_script", "_law_k"] (defScope s__law_cell_at) := ⟨rfl, rfl, rfl, by decide +kernel, rfl, by decide +kernel, by decide +kernel⟩
abbrev s__law_stream : Stmt := top 22
theorem sc__law_stream : FnScope ["_law_cell", "_law_many", "_law_found", "_law_number", "_law_k"] ["_law_cell", "_law_many"] (defScope s__law_stream) := ⟨rfl, rfl, rfl, by decide +kernel, rfl, by decide +kernel, by decide +kernel⟩
abbrev s__law_names : Stmt := top 23
theorem sc__law_names : FnScope ["_law_cell", "_law_many", "_law_abc", "_law_base", "_law_at"] ["_law_cell", "_law_many"] (defScope s__law_names) := ⟨rfl, rfl, rfl, by decide +kernel, rfl, by decide +kernel, by decide +kernel⟩
abbrev s__law_beginning : Stmt := top 24
theorem sc__law_beginning : FnScope ["_law_cell", "_law_size", "_law_signs", "_law_at"] ["_law_cell"] (defScope s__law_beginning) := ⟨rfl, rfl, rfl, by decide +kernel, rfl, by decide +kernel, by decide +kernel⟩
abbrev s__law_word : Stmt := top 25
theorem sc__law_word : FnScope ["_law_e", "_law_words"] ["_law_e"] (defScope s__law_word) := ⟨rfl, rfl, rfl, by decide +kernel, rfl, by decide +kernel, by decide +kernel⟩
abbrev s__law_bad : Stmt := top 26
theorem sc__law_bad : FnScope ["_law_cell", "_law_size", "_law_signs", "_law_at"] ["_law_cell"] (defScope s__law_bad) := ⟨rfl, rfl, rfl, by decide +kernel, rfl, by decide +kernel, by decide +kernel⟩
abbrev s__law_put : Stmt := top 27
theorem sc__law_put : FnScope ["_law_tree", "_law_beginning_here", "_law_door", "_law_word_here", "_law_e"] ["_law_tree", "_law_beginning_here", "_law_door"] (defScope s__law_put) := ⟨rfl, rfl, rfl, by decide +kernel, rfl, by decide +kernel, by decide +kernel⟩
abbrev s__law_struck : Stmt := top 28
theorem sc__law_struck : FnScope ["_law_tree", "_law_beginning_here", "_law_word_here", "_law_e"] ["_law_tree", "_law_beginning_here"] (defScope s__law_struck) := ⟨rfl, rfl, rfl, by decide +kernel, rfl, by decide +kernel, by decide +kernel⟩
abbrev s__law_told : Stmt := top 29
theorem sc__law_told : FnScope ["_law_tree", "_law_known"] ["_law_tree", "_law_known"] (defScope s__law_told) := ⟨rfl, rfl, rfl, by decide +kernel, rfl, by decide +kernel, by decide +kernel⟩
abbrev s_law : Stmt := top 30
theorem sc_law : FnScope ["_law_script", "_law_doors", "_law_tree", "_law_known", "_law_cell", "_law_beginning_here", "_law_bad_here", "_law_other"] ["_law_script"] (defScope s_law) := ⟨rfl, rfl, rfl, by decide +kernel, rfl, by decide +kernel, by decide +kernel⟩
abbrev s_Tree____init__ : Stmt := inClass (top 19) 0
theorem sc_Tree____init__ : FnScope ["self"] ["self"] (defScope s_Tree____init__) := ⟨rfl, rfl, rfl, by decide +kernel, rfl, by decide +kernel, by decide +kernel⟩
abbrev s_Tree__put_way : Stmt := inClass (top 19) 1
theorem sc_Tree__put_way : FnScope ["self", "beginning", "door"] ["self", "beginning", "door"] (defScope s_Tree__put_way) := ⟨rfl, rfl, rfl, by decide +kernel, rfl, by decide +kernel, by decide +kernel⟩
abbrev s_Tree__strike_way : Stmt := inClass (top 19) 2
theorem sc_Tree__strike_way : FnScope ["self", "beginning"] ["self", "beginning"] (defScope s_Tree__strike_way) := ⟨rfl, rfl, rfl, by decide +kernel, rfl, by decide +kernel, by decide +kernel⟩
abbrev s_Tree__way_at : Stmt := inClass (top 19) 3
theorem sc_Tree__way_at : FnScope ["self", "signs"] ["self", "signs"] (defScope s_Tree__way_at) := ⟨rfl, rfl, rfl, by decide +kernel, rfl, by decide +kernel, by decide +kernel⟩
abbrev s_Tree__told_ways : Stmt := inClass (top 19) 4
theorem sc_Tree__told_ways : FnScope ["self"] ["self"] (defScope s_Tree__told_ways) := ⟨rfl, rfl, rfl, by decide +kernel, rfl, by decide +kernel, by decide +kernel⟩
abbrev s_Tree__ways_below : Stmt := inClass (top 19) 5
theorem sc_Tree__ways_below : FnScope ["self", "signs"] ["self", "signs"] (defScope s_Tree__ways_below) := ⟨rfl, rfl, rfl, by decide +kernel, rfl, by decide +kernel, by decide +kernel⟩
structure Top (K : PySem.W.Frag) (mg : Str → Option Value) : Prop where
  f_is_letter : Fn K mg "is_letter" s_is_letter
  f_is_text_of : Fn K mg "is_text_of" s_is_text_of
  f_way_found : Fn K mg "way_found" s_way_found
  f_is_beginning : Fn K mg "is_beginning" s_is_beginning
  f__law_cell_at : Fn K mg "_law_cell_at" s__law_cell_at
  f__law_stream : Fn K mg "_law_stream" s__law_stream
  f__law_names : Fn K mg "_law_names" s__law_names
  f__law_beginning : Fn K mg "_law_beginning" s__law_beginning
  f__law_word : Fn K mg "_law_word" s__law_word
  f__law_bad : Fn K mg "_law_bad" s__law_bad
  f__law_put : Fn K mg "_law_put" s__law_put
  f__law_struck : Fn K mg "_law_struck" s__law_struck
  f__law_told : Fn K mg "_law_told" s__law_told
  f_law : Fn K mg "law" s_law
  f_Tree____init__ : MkT K "Tree" "Tree.__init__" s_Tree____init__
  f_Tree__put_way : MethT K "Tree" "put_way" "Tree.put_way" s_Tree__put_way
  f_Tree__strike_way : MethT K "Tree" "strike_way" "Tree.strike_way" s_Tree__strike_way
  f_Tree__way_at : MethT K "Tree" "way_at" "Tree.way_at" s_Tree__way_at
  f_Tree__told_ways : MethT K "Tree" "told_ways" "Tree.told_ways" s_Tree__told_ways
  f_Tree__ways_below : MethT K "Tree" "ways_below" "Tree.ways_below" s_Tree__ways_below
  c_Tree : ClsT K mg "Tree"
  a_Tree_doors : NoAttr K (xA K "Tree") "doors"
  b_isinstance : mg "isinstance" = none
  b_str : mg "str" = none
  b_len : mg "len" = none
  b_range : mg "range" = none
  b_int : mg "int" = none
  b_ValueError : mg "ValueError" = none
  b_sorted : mg "sorted" = none
  b_list : mg "list" = none
  g_LONGEST : ∃ t, mg "LONGEST" = some (.int 48 t)
  x_Misfit : Xn K mg "Misfit"
  x_Twice : Xn K mg "Twice"
  x_NoWay : Xn K mg "NoWay"
  x_ThrongError : Xn K mg "ThrongError"
  t_NoField : Xt K mg "NoField"
  t_NoRule : Xt K mg "NoRule"
  t_NoDoor : Xt K mg "NoDoor"
  t_NoHouse : Xt K mg "NoHouse"
  t_NoLine : Xt K mg "NoLine"
  t_BadWord : Xt K mg "BadWord"
  t_Unlike : Xt K mg "Unlike"
  v_Misfit : Xv K "Misfit"
  m_Misfit_Misfit : Xm K "Misfit" "Misfit" true
  m_Misfit_Twice : Xm K "Misfit" "Twice" false
  m_Misfit_NoField : Xm K "Misfit" "NoField" false
  m_Misfit_NoRule : Xm K "Misfit" "NoRule" false
  m_Misfit_NoWay : Xm K "Misfit" "NoWay" false
  m_Misfit_ThrongError : Xm K "Misfit" "ThrongError" true
  m_Misfit_NoDoor : Xm K "Misfit" "NoDoor" false
  m_Misfit_NoHouse : Xm K "Misfit" "NoHouse" false
  m_Misfit_NoLine : Xm K "Misfit" "NoLine" false
  m_Misfit_BadWord : Xm K "Misfit" "BadWord" false
  m_Misfit_Unlike : Xm K "Misfit" "Unlike" false
  v_Twice : Xv K "Twice"
  m_Twice_Misfit : Xm K "Twice" "Misfit" false
  m_Twice_Twice : Xm K "Twice" "Twice" true
  m_Twice_NoField : Xm K "Twice" "NoField" false
  m_Twice_NoRule : Xm K "Twice" "NoRule" false
  m_Twice_NoWay : Xm K "Twice" "NoWay" false
  m_Twice_ThrongError : Xm K "Twice" "ThrongError" true
  m_Twice_NoDoor : Xm K "Twice" "NoDoor" false
  m_Twice_NoHouse : Xm K "Twice" "NoHouse" false
  m_Twice_NoLine : Xm K "Twice" "NoLine" false
  m_Twice_BadWord : Xm K "Twice" "BadWord" false
  m_Twice_Unlike : Xm K "Twice" "Unlike" false
  v_NoWay : Xv K "NoWay"
  m_NoWay_Misfit : Xm K "NoWay" "Misfit" false
  m_NoWay_Twice : Xm K "NoWay" "Twice" false
  m_NoWay_NoField : Xm K "NoWay" "NoField" false
  m_NoWay_NoRule : Xm K "NoWay" "NoRule" false
  m_NoWay_NoWay : Xm K "NoWay" "NoWay" true
  m_NoWay_ThrongError : Xm K "NoWay" "ThrongError" true
  m_NoWay_NoDoor : Xm K "NoWay" "NoDoor" false
  m_NoWay_NoHouse : Xm K "NoWay" "NoHouse" false
  m_NoWay_NoLine : Xm K "NoWay" "NoLine" false
  m_NoWay_BadWord : Xm K "NoWay" "BadWord" false
  m_NoWay_Unlike : Xm K "NoWay" "Unlike" false
local macro_rules | `(tactic| walk_at "rd") => `(tactic| try simp only [a_cVar, a_tC, a_tOp, a_kAddI, a_kAddS, a_kAddL, a_kI, a_kI0, a_kMulI, a_kMulS, a_kEqI, a_kEqS, a_kEqB, a_kEqNS, a_kEqSN, a_kEqNN, a_kIs, a_kIsB, a_kInS, a_kInL, a_kIxS, a_kIxL, a_kLenS, a_kLenL, a_kIntI, a_kIntB, a_kIntS, a_kSlTo, a_kSlFrom, a_kSlL, a_tSl, a_tNoPart, a_cPart, a_cNeg, a_kEqNil, a_cIsI, Ty.isBl, Ty.isInt, Ty.isStr, Ty.isLst, Ty.isTup, a_cTest, a_blK, a_cAndV, a_cOrV, a_cNotV, a_tAnd, a_tOr, a_tNot, a_tYes, a_tIf, a_cApp, a_cJoin1, a_tNil, a_tCons, a_tCall, a_tCB, a_tLst, a_tTup, a_tNext, a_tSeq, a_tDrop, a_tRet, a_tRetN, a_tIfS, a_tAsg, a_gName, a_tJoin, a_cFor, a_cIter, a_cRng1, a_cRng2, a_cZip, a_srcKS, a_srcKL, a_cComp, compσ, L2.start, a_cxK, a_cxCK, CDiv, CPow,
  List.map_cons, List.map_nil, List.length_cons, List.length_nil, List.replicate_succ, List.replicate_zero, List.cons_append, List.nil_append, List.getElem?_cons_zero, List.getElem?_cons_succ, List.set_cons_zero, List.set_cons_succ, Option.getD_some, Option.getD_none, Nat.reduceAdd, Nat.reduceSub, Bool.false_bne, Bool.true_bne, Bool.false_xor, Bool.true_xor, Bool.not_eq_true', decide_eq_true_eq, decide_eq_false_iff_not, Bool.not_true, Bool.not_false, if_true, if_false, true_and, and_true, Int.reduceLT, Int.reduceLE, Nat.reduceLeDiff,  Bool.false_eq_true, a_gCons, a_gNil, a_gSeq, a_cRepl, a_cCount, a_kListS, a_kListL, a_kTupleS, a_cEnum, a_kSum, a_cSortSet, a_cStarts, a_cRng3, a_cEnumL, a_cListRev, a_kSlF, a_cListRng, a_kAny, a_kSorted, a_kNeNil, a_kEqD, a_kMulL, a_gSub, a_rSetL, a_tPar, a_tCallT, a_tRaise, a_cFS, a_jNil, a_jCons, a_cFmtR, a_cIsX, a_cIsXT, a_tTryAs, a_kSlB, a_cDGet, a_cDIn, a_cDPut, a_dNewK, a_cIndex, a_cDGet2, a_cFmtA, a_cJoinW, a_kSlM, a_cSetDef, a_tRetD, a_cItems, a_tBreak, a_kEqDict, a_cFmtI, a_cPopAt, a_one, a_cSortLen, a_kMax, a_kInT, a_tMeth, a_tMake, a_tFld, a_sFld, a_dNewT, a_kTupL, a_kMax2, a_kMin2, a_tChain, a_cListRng2, a_tTest, a_tFrz, a_tThaw, a_cListItems, a_cDPop, a_kSortD, a_kSortP, a_tMethT, a_cFmtB, a_kMulT, ite_not, st_cps, Bool.true_eq_false, Int.zero_add, reduceIte, ite_true, ite_false])
section
variable {P : Program} {w : World} {K : PySem.W.Frag} {mg : Str → Option Value} {base : Heap}
def sp__law_cell_at (K : PySem.W.Frag) : Sp := fun vs H Q _ => match vs with
  | [.ref a, .int k] => ∃ ns : List Int, SqL K H a (ns.map V.int) ∧ 0 ≤ k ∧ Q (.int (cell ns k.toNat)) H
  | _ => False
theorem cell_here {H : Hp} {a : Addr} {ns : List Int} {k : Int} {Q : VK} {E : XK} (hS : SqL K H a (ns.map V.int)) (hk : 0 ≤ k) (q : Q (.int (cell ns k.toNat)) H) : sp__law_cell_at K [.ref a, .int k] H Q E := ⟨ns, hS, hk, q⟩
theorem ok__law_cell_at (T : Top K mg) : Callee P w K mg base 1 "_law_cell_at" ["_law_script", "_law_k"] (sp__law_cell_at K) := by
  refine T.f__law_cell_at.cal sc__law_cell_at (by intro vs H Q E h; unfold sp__law_cell_at at h; split at h <;> first | rfl | exact h.elim) (fun _ _ _ _ _ _ us hl => match us, hl with | [_, _], _ => rfl) (fun f cdv A outer s H vs Q E hr h => ?_)
  unfold sp__law_cell_at at h
  split at h
  case h_2 => exact h.elim
  refine ⟨_, (pss_cons (ps_if (qt_cmp op_ltK (qv 1) (pe_callB (lenE K rfl) rfl T.b_len bb_len (pa_cons (qv 0) pa_nil))) (pss_one (ps_ret (pe_ix (ixE K rfl) (qv 0) (qv 1) (fun _ _ => rfl)))) pss_nil)
      (pss_one (ps_ret pe_int))), ?_⟩
  rename_i a k
  obtain ⟨ns, hS, hk, q⟩ := h
  walk_at "rd"
  refine ⟨_, .inl hS, ?_⟩
  walk_at "rd"
  rw [List.length_map]
  refine ite2 (fun hlt => ?_) (fun hge => ?_)
  · exact ⟨_, _, .inl hS, cell_lt hk hlt, q⟩
  · rw [← cell_ge hge]
    exact q
def sp__law_stream (K : PySem.W.Frag) : Sp := fun vs H Q _ => match vs with
  | [.int c, .int n] => 0 ≤ n ∧ n ≤ 1000 ∧ ∀ p H', H p = none → Same H H' → H' p = some (.lst ((stream c n.toNat).map V.int)) → Q (.ref p) H'
  | _ => False
theorem ok__law_stream (T : Top K mg) : Callee P w K mg base 1 "_law_stream" ["_law_cell", "_law_many"] (sp__law_stream K) := by
  refine T.f__law_stream.cal sc__law_stream (by intro vs H Q E h; unfold sp__law_stream at h; split at h <;> first | rfl | exact h.elim) (fun _ _ _ _ _ _ us hl => match us, hl with | [_, _], _ => rfl) (fun f cdv A outer s H vs Q E hr h => ?_)
  unfold sp__law_stream at h
  split at h
  case h_2 => exact h.elim
  refine ⟨_, (pss_cons (ps_set (i := 2) sc__law_stream.nd rfl (by first | exact Or.inl rfl | exact Or.inr rfl) (pe_lst pa_nil))
      (pss_cons (ps_set (i := 3) sc__law_stream.nd rfl (by first | exact Or.inl rfl | exact Or.inr rfl) (pe_op op_addK (pe_op op_modK (qv 0) pe_int) pe_int))
      (pss_cons (qs_for PassesOwn.never rfl (qi_range1 rfl T.b_range (qv 1)) (pg_name (i := 4) sc__law_stream.nd rfl (by first | exact Or.inl rfl | exact Or.inr rfl)) (pss_cons (ps_set (i := 3) sc__law_stream.nd rfl (by first | exact Or.inl rfl | exact Or.inr rfl) (pe_op op_modK (pe_op op_addK (pe_op op_addK (pe_op op_mulK (qv 3) pe_int) (pe_op op_mulK (pe_op op_mulK pe_int (qv 4)) (qv 4))) pe_int) pe_int))
      (pss_one (ps_expr (qe_append (qv 2) (pe_op op_fdivK (qv 3) pe_int))))))
      (pss_one (ps_ret (qv 2)))))), ?_⟩
  rename_i c n
  obtain ⟨h0, h1, q⟩ := h
  walk_at "rd"
  refine ⟨by decide, fun p hp => ⟨by omega, by omega, ?_⟩⟩
  refine loop_range (fun i σ H' => ∃ k, σ = [some (.int c), some (.int n), some (.ref p), some (.int (num c i)), k] ∧ Same H H' ∧ H' p = some (.lst ((stream c i).map V.int))) ⟨none, rfl, same_new hp _, upd_same⟩ ?_ ?_
  · rintro i σ H1 hi ⟨k, rfl, s1, e1⟩
    walk_at "rd"
    have hb1 := num_lo c i
    have hb2 := num_hi c i
    refine ⟨.inl ⟨by omega, by omega⟩, .inl ⟨by omega, by omega⟩, .inr ⟨by omega, by omega⟩, ?_⟩
    refine ⟨⟨_, e1⟩, _, e1, sizeBig (by simp [stream_len]; omega), ?_⟩
    refine ⟨_, rfl, same_upd s1 hp, ?_⟩
    rw [upd_same, stream_snoc]
    simp [num]
  · rintro σ H1 ⟨k, rfl, s1, e1⟩
    walk_at "rd"
    exact q p H1 hp s1 e1
abbrev sgn (c : Nat) : V := V.str (st [c])
theorem flat_one' {α β : Type} (f : α → β) (l : List α) : (l.flatMap fun x => [f x]) = l.map f := by
  induction l with
  | nil => rfl
  | cons x l ih => rw [List.flatMap_cons, ih]; rfl
def abcL : List Nat := [97, 98, 99, 100, 101, 102, 103, 104, 105, 106, 107, 108, 109, 110, 111, 112, 113, 114, 115, 116, 117, 118, 119, 120, 121, 122]
def abcAt (k : Int) : Nat := (abcL[(k % 26).toNat]?).getD 0
theorem abc_at (k : Int) : atI [97, 98, 99, 100, 101, 102, 103, 104, 105, 106, 107, 108, 109, 110, 111, 112, 113, 114, 115, 116, 117, 118, 119, 120, 121, 122] (k % 26) = some (abcAt k) := by
  obtain ⟨j, hj⟩ : ∃ j : Nat, k % 26 = j := ⟨(k % 26).toNat, by omega⟩
  have h26 : j < 26 := by omega
  have hl : j < abcL.length := h26
  unfold abcAt
  rw [hj, Int.toNat_natCast, List.getElem?_eq_getElem hl]
  exact atI_nat (xs := abcL) (List.getElem?_eq_getElem hl)
def nameBase (c : Int) : List Nat := (stream (c / 3) 8).map abcAt
theorem nameBase_len (c : Int) : (nameBase c).length = 8 := by simp [nameBase, stream_len]
def nameShort (c : Int) : List Nat := (nameBase c).take (1 + c / 3 % 8).toNat
theorem nameShort_len (c : Int) : ((nameShort c).length : Int) = 1 + c / 3 % 8 := by
  unfold nameShort
  rw [List.length_take, nameBase_len]
  omega
def nameA (c : Int) (k : Nat) : List Nat := (nameBase c).take (k + 1)
def nameB (c : Int) (k : Nat) : List Nat := (nameShort c).take (c / 24 % (nameShort c).length).toNat ++ [abcAt (c / 3 + 7 * k)] ++ (nameShort c).drop ((c / 24 % (nameShort c).length).toNat + 1)
def nameL (c : Int) (m : Nat) : List (List Nat) := (List.range m).map fun k => if c % 3 = 1 ∧ m ≤ 8 then nameA c k else nameB c k
def sp__law_names : Sp := fun vs H Q _ => match vs with
  | [.int c, .int m] => 0 ≤ m ∧ m ≤ 100 ∧ ∀ p H', H p = none → Same H H' → H' p = some (.lst ((nameL c m.toNat).map tx)) → Q (.ref p) H'
  | _ => False
theorem ok__law_names (T : Top K mg) : Callee P w K mg base 2 "_law_names" ["_law_cell", "_law_many"] sp__law_names := by
  refine T.f__law_names.cal sc__law_names (by intro vs H Q E h; unfold sp__law_names at h; split at h <;> first | rfl | exact h.elim) (fun _ _ _ _ _ _ us hl => match us, hl with | [_, _], _ => rfl) (fun f cdv A outer s H vs Q E hr h => ?_)
  unfold sp__law_names at h
  split at h
  case h_2 => exact h.elim
  refine ⟨_, (pss_cons (ps_set (i := 2) sc__law_names.nd rfl (by first | exact Or.inl rfl | exact Or.inr rfl) (qs [97, 98, 99, 100, 101, 102, 103, 104, 105, 106, 107, 108, 109, 110, 111, 112, 113, 114, 115, 116, 117, 118, 119, 120, 121, 122]))
      (pss_cons (ps_set (i := 3) sc__law_names.nd rfl (by first | exact Or.inl rfl | exact Or.inr rfl) (joinE K rfl (qe_comp (nt := 1) (fi := [2]) (N' := ["_law_number", "_law_abc"]) rfl (cscope rfl (by decide +kernel)) (cnames (N := ["_law_cell", "_law_many", "_law_abc", "_law_base", "_law_at"]) (sc := defScope s__law_names) rfl rfl (by decide +kernel)) (gk_name (by decide)) (iterE K rfl (pe_fn (ok__law_stream T) (hr.mono (by first | decide | omega)) rfl (pa_cons (pe_op op_fdivK (qv 0) pe_int) (pa_cons pe_int pa_nil)))) (fun _ _ _ _ _ => (pg_name (i := 0) (by show (["_law_number", "_law_abc"] : List Str).Nodup; decide +kernel) rfl (by first | exact Or.inl rfl | exact Or.inr rfl))) (fun _ _ _ _ _ => pif_nil) (fun _ _ _ _ _ => (pe_ix (ixE K rfl) (qv 1) (pe_op op_modK (qv 0) pe_int) (fun _ _ => rfl))))))
      (pss_cons (ps_if (PW.pt (pw_and (qt_cmp op_eqK (pe_op op_modK (qv 0) pe_int) pe_int) (pw_and1 (qt_cmp op_leK (qv 1) pe_int)))) (pss_one (ps_ret (qe_comp (nt := 1) (fi := [3]) (N' := ["_law_k", "_law_base"]) rfl (cscope rfl (by decide +kernel)) (cnames (N := ["_law_cell", "_law_many", "_law_abc", "_law_base", "_law_at"]) (sc := defScope s__law_names) rfl rfl (by decide +kernel)) (gk_name (by decide)) (qi_range1 rfl T.b_range (qv 1)) (fun _ _ _ _ _ => (pg_name (i := 0) (by show (["_law_k", "_law_base"] : List Str).Nodup; decide +kernel) rfl (by first | exact Or.inl rfl | exact Or.inr rfl))) (fun _ _ _ _ _ => pif_nil) (fun _ _ _ _ _ => (pe_slice (slE K rfl) (qv 1) po_none (qo_some (pe_op op_addK (qv 0) pe_int))))))) pss_nil)
      (pss_cons (ps_set (i := 3) sc__law_names.nd rfl (by first | exact Or.inl rfl | exact Or.inr rfl) (pe_slice (slE K rfl) (qv 3) po_none (qo_some (pe_op op_addK pe_int (pe_op op_modK (pe_op op_fdivK (qv 0) pe_int) pe_int)))))
      (pss_cons (ps_set (i := 4) sc__law_names.nd rfl (by first | exact Or.inl rfl | exact Or.inr rfl) (pe_op op_modK (pe_op op_fdivK (qv 0) pe_int) (pe_callB (lenE K rfl) rfl T.b_len bb_len (pa_cons (qv 3) pa_nil))))
      (pss_one (ps_ret (qe_comp (nt := 1) (fi := [3, 2, 4, 0]) (N' := ["_law_k", "_law_base", "_law_abc", "_law_at", "_law_cell"]) rfl (cscope rfl (by decide +kernel)) (cnames (N := ["_law_cell", "_law_many", "_law_abc", "_law_base", "_law_at"]) (sc := defScope s__law_names) rfl rfl (by decide +kernel)) (gk_name (by decide)) (qi_range1 rfl T.b_range (qv 1)) (fun _ _ _ _ _ => (pg_name (i := 0) (by show (["_law_k", "_law_base", "_law_abc", "_law_at", "_law_cell"] : List Str).Nodup; decide +kernel) rfl (by first | exact Or.inl rfl | exact Or.inr rfl))) (fun _ _ _ _ _ => pif_nil) (fun _ _ _ _ _ => (pe_op op_addK (pe_op op_addK (pe_slice (slE K rfl) (qv 1) po_none (qo_some (qv 3))) (pe_ix (ixE K rfl) (qv 2) (pe_op op_modK (pe_op op_addK (pe_op op_fdivK (qv 4) pe_int) (pe_op op_mulK pe_int (qv 0))) pe_int) (fun _ _ => rfl))) (pe_slice (slE K rfl) (qv 1) (qo_some (pe_op op_addK (qv 3) pe_int)) po_none))))))))))), ?_⟩
  rename_i c m
  obtain ⟨h1, h2, q⟩ := h
  walk_at "rd"
  refine ⟨by omega, by omega, fun p H1 hp s1 e1 => .inl ⟨⟨_, SqL.of e1⟩, fun D hD => ?_⟩⟩
  refine comp_list (item := V.int) (xs := stream (c / 3) 8) (h := fun e => [sgn (abcAt e)]) hD (SqL.of e1) (by simp [stream_len]) (fun _ => by simp) ?_ ?_
  · intro e H2 out non he s2 ho hn
    walk_at "rd"
    exact ⟨_, abc_at e, ho _ _ rfl (Same.refl _)⟩
  intro H2 s2 e2
  have eb : (stream (c / 3) 8).flatMap (fun e => [sgn (abcAt e)]) = (nameBase c).map sgn := by
    rw [flat_one' (fun e => sgn (abcAt e))]
    unfold nameBase
    rw [List.map_map]
    rfl
  rw [eb] at e2
  have hb := nameBase_len c
  have hs := nameShort_len c
  have s12 := s1.trans s2
  refine ⟨nameBase c, SqL.of e2, by omega, ?_⟩
  refine ite2 (fun g1 => ite2 (fun g2 => ?a) fun g2 => ?b) fun g1 => ?b'
  case a =>
    have g : c % 3 = 1 ∧ m.toNat ≤ 8 := ⟨g1, by omega⟩
    refine ⟨by omega, by omega, fun D2 hD2 => ?_⟩
    refine comp_range (h := fun k => [tx (nameA c k)]) hD2 (by omega) (fun _ => by simp) ?_ ?_
    · intro k H3 out non hk s3 ho hn
      walk_at "rd"
      refine ⟨by omega, by omega, by omega, ?_⟩
      rw [show ((k : Int) + 1).toNat = k + 1 by omega]
      exact ho _ _ rfl (Same.refl _)
    · intro H3 s3 e3
      refine q D2 H3 (s12.free hD2) (s12.trans s3) ?_
      rw [e3, flat_one' (fun k => tx (nameA c k))]
      unfold nameL
      rw [List.map_map]
      simp only [if_pos g]
      rfl
  case' b => have g : ¬ (c % 3 = 1 ∧ m.toNat ≤ 8) := by omega
  case' b' => have g : ¬ (c % 3 = 1 ∧ m.toNat ≤ 8) := by omega
  all_goals (
    have hsn : (nameBase c).take (1 + c / 3 % 8).toNat = nameShort c := rfl
    rw [hsn]
    have hat : 0 ≤ c / 24 % ((nameShort c).length : Int) := Int.emod_nonneg _ (by omega)
    have hat2 : c / 24 % ((nameShort c).length : Int) < (nameShort c).length := Int.emod_lt_of_pos _ (by omega)
    refine ⟨by omega, by omega, by omega, by omega, by omega, by omega, by omega, fun D2 hD2 => ?_⟩
    refine comp_range (h := fun k => [tx (nameB c k)]) hD2 (by omega) (fun _ => by simp) ?_ ?_
    · intro k H3 out non hk s3 ho hn
      walk_at "rd"
      refine ⟨by omega, by omega, by omega, .inr ⟨by omega, by omega⟩, _, abc_at _, by rw [List.length_take]; omega, by omega, by omega, by omega, by simp only [List.length_append, List.length_take, List.length_drop, List.length_singleton]; omega, ?_⟩
      rw [show (c / 24 % ((nameShort c).length : Int) + 1).toNat = (c / 24 % ((nameShort c).length : Int)).toNat + 1 by omega]
      exact ho _ _ rfl (Same.refl _)
    · intro H3 s3 e3
      refine q D2 H3 (s12.free hD2) (s12.trans s3) ?_
      rw [e3, flat_one' (fun k => tx (nameB c k))]
      unfold nameL
      rw [List.map_map]
      simp only [if_neg g]
      rfl)
def textOf (v : V) (w : Int) (l : List Nat) : Bool := match v with
  | .str a => decide ((a.cps.toList.length : Int) = w) && a.cps.toList.all fun c => decide (c ∈ l)
  | _ => false
def Known (H : Hp) (v : V) : Prop := match v with
  | .non => True
  | .bl _ => True
  | .int _ => True
  | .str a => a.cps.toList.length ≤ 1000
  | .ref p => (∃ xs, H p = some (.lst xs)) ∨ (∃ xs, H p = some (.tup xs))
  | _ => False
theorem Known.same {H H' : Hp} {v : V} (k : Known H v) (s : Same H H') : Known H' v := by
  cases v <;> try exact k
  rcases k with ⟨xs, h⟩ | ⟨xs, h⟩
  · exact .inl ⟨xs, s _ _ h⟩
  · exact .inr ⟨xs, s _ _ h⟩
def sp_is_text_of : Sp := fun vs H Q _ => match vs with
  | [v, .int w, .str l] => Known H v ∧ Q (.bl (textOf v w l.cps.toList)) H
  | _ => False
theorem ok_is_text_of (T : Top K mg) : Callee P w K mg base 1 "is_text_of" ["thing", "width", "signs"] sp_is_text_of := by
  refine T.f_is_text_of.cal sc_is_text_of (by intro vs H Q E h; unfold sp_is_text_of at h; split at h <;> first | rfl | exact h.elim) (fun _ _ _ _ _ _ us hl => match us, hl with | [_, _, _], _ => rfl) (fun f cdv A outer s H vs Q E hr h => ?_)
  unfold sp_is_text_of at h
  split at h
  case h_2 => exact h.elim
  refine ⟨_, (pss_cons (ps_if (PW.pt (pw_or (pt_not (qt_val (qe_isinst .str rfl T.b_isinstance (qv 0) rfl T.b_str bb_str))) (pw_or1 (qt_cmp op_neK (pe_callB (lenE K rfl) rfl T.b_len bb_len (pa_cons (qv 0) pa_nil)) (qv 1))))) (pss_one (ps_ret pe_bl)) pss_nil)
      (pss_cons (qs_for PassesOwn.never rfl (iterE K rfl (qv 0)) (pg_name (i := 3) sc_is_text_of.nd rfl (by first | exact Or.inl rfl | exact Or.inr rfl)) (pss_one (ps_if (qt_cmp (notinE K rfl) (qv 3) (qv 2)) (pss_one (ps_ret pe_bl)) pss_nil)))
      (pss_one (ps_ret pe_bl)))), ?_⟩
  rename_i v n z
  obtain ⟨l, rfl⟩ : ∃ x, z = st x := ⟨_, (st_eta z).symm⟩
  obtain ⟨hk, q⟩ := h
  simp only [st_cps] at q
  walk_at "rd"
  cases v with
  | str a =>
    obtain ⟨x, rfl⟩ : ∃ x, a = st x := ⟨_, (st_eta a).symm⟩
    walk_at "rd"
    have hk' : x.length ≤ 1000 := hk
    refine ⟨by omega, ite2 (fun g1 => ?_) fun g1 => ?_⟩
    · refine loop_str (fun i σ H' => ∃ k, σ = [some (.str (st x)), some (.int n), some (.str (st l)), k] ∧ H' = H ∧ (x.take i).all (fun c => decide (c ∈ l)) = true) ⟨none, rfl, rfl, rfl⟩ ?_ ?_
      · rintro i c σ H1 hc ⟨k, rfl, rfl, e1⟩
        walk_at "rd"
        refine ite2 (fun g2 => ⟨_, rfl, ?_⟩) fun g2 => ?_
        · rw [List.take_succ, hc, List.all_append, e1]
          simp [g2]
        · have e : textOf (.str (st x)) n l = false := by
            simp only [textOf, st_cps, Bool.and_eq_false_iff]
            refine .inr ?_
            rw [Bool.eq_false_iff]
            intro z
            rw [List.all_eq_true] at z
            exact g2 (of_decide_eq_true (z c (List.mem_of_getElem? hc)))
          rw [e] at q
          exact q
      · rintro σ H1 ⟨k, rfl, rfl, e1⟩
        walk_at "rd"
        rw [List.take_length] at e1
        have e : textOf (.str (st x)) n l = true := by
          simp only [textOf, st_cps, Bool.and_eq_true]
          exact ⟨decide_eq_true g1, e1⟩
        rw [e] at q
        exact q
    · have e : textOf (.str (st x)) n l = false := by
        simp only [textOf, st_cps, Bool.and_eq_false_iff]
        exact .inl (decide_eq_false g1)
      rw [e] at q
      exact q
  | ref p =>
    rcases hk with hk | hk
    · exact .inl ⟨hk, q⟩
    · exact .inr ⟨hk, q⟩
  | non => exact q
  | bl b => exact q
  | int i => exact q
  | _ => exact hk.elim
def wayStep (s : List Nat) (a : Int × Option (List Nat)) (w : List Nat × List Nat) : Int × Option (List Nat) := if (w.1.length : Int) > a.1 ∧ w.1 <+: s then ((w.1.length : Int), some w.2) else a
def wayL (ws : List (List Nat × List Nat)) (s : List Nat) : Int × Option (List Nat) := ws.foldl (wayStep s) (-1, none)
def doorAt (ws : List (List Nat × List Nat)) (s : List Nat) (n : Nat) : Option (List Nat) := (ws.find? fun w => decide (w.1 = s.take n)).map Prod.snd
def doorD (ws : List (List Nat × List Nat)) (s : List Nat) : Nat → Option (List Nat)
  | 0 => none
  | n + 1 => match doorAt ws s n with
    | some d => some d
    | none => doorD ws s n
theorem take_pre {b s : List Nat} {n : Nat} (h : n ≤ s.length) : b = s.take n ↔ b <+: s ∧ b.length = n := by
  constructor
  · rintro rfl
    exact ⟨List.take_prefix _ _, by rw [List.length_take]; omega⟩
  · rintro ⟨h1, rfl⟩
    exact List.prefix_iff_eq_take.mp h1
theorem doorAt_snoc (ws : List (List Nat × List Nat)) (w : List Nat × List Nat) (s : List Nat) (n : Nat) : doorAt (ws ++ [w]) s n = (doorAt ws s n).or (if w.1 = s.take n then some w.2 else none) := by
  unfold doorAt
  rw [List.find?_append]
  cases h : ws.find? fun w => decide (w.1 = s.take n) with
  | some x => simp
  | none =>
    by_cases q : w.1 = s.take n
    · simp [q]
    · simp [q]
def WayOk (ws : List (List Nat × List Nat)) (s : List Nat) (a : Int × Option (List Nat)) : Prop :=
  (a = (-1, none) ∧ ∀ n, n ≤ s.length → doorAt ws s n = none) ∨
  ∃ (m : Nat) (d : List Nat), a = ((m : Int), some d) ∧ m ≤ s.length ∧ doorAt ws s m = some d ∧ ∀ n, m < n → n ≤ s.length → doorAt ws s n = none
theorem wayOk_snoc {ws : List (List Nat × List Nat)} {s : List Nat} {a : Int × Option (List Nat)} {w : List Nat × List Nat} (h : WayOk ws s a) : WayOk (ws ++ [w]) s (wayStep s a w) := by
  unfold wayStep
  by_cases hp : w.1 <+: s
  · have hl : w.1.length ≤ s.length := hp.length_le
    have he : w.1 = s.take w.1.length := List.prefix_iff_eq_take.mp hp
    have other : ∀ n, n ≤ s.length → n ≠ w.1.length → ¬ w.1 = s.take n := fun n h1 h2 q => h2 ((take_pre h1).mp q).2.symm
    rcases h with ⟨rfl, h⟩ | ⟨m, d, rfl, hm, hd, h⟩
    · rw [if_pos ⟨by show (-1 : Int) < _; omega, hp⟩]
      refine .inr ⟨w.1.length, w.2, rfl, hl, ?_, fun n h1 h2 => ?_⟩
      · rw [doorAt_snoc, h _ hl, if_pos he]; rfl
      · rw [doorAt_snoc, h _ h2, if_neg (other n h2 (by omega))]; rfl
    · by_cases g : (w.1.length : Int) > (m : Int)
      · rw [if_pos ⟨g, hp⟩]
        refine .inr ⟨w.1.length, w.2, rfl, hl, ?_, fun n h1 h2 => ?_⟩
        · rw [doorAt_snoc, h _ (by omega) hl, if_pos he]; rfl
        · rw [doorAt_snoc, h _ (by omega) h2, if_neg (other n h2 (by omega))]; rfl
      · rw [if_neg (fun q => g q.1)]
        refine .inr ⟨m, d, rfl, hm, ?_, fun n h1 h2 => ?_⟩
        · rw [doorAt_snoc, hd]; rfl
        · rw [doorAt_snoc, h n h1 h2, if_neg (other n h2 (by omega))]; rfl
  · rw [if_neg (fun q => hp q.2)]
    have no : ∀ n, ¬ w.1 = s.take n := fun n q => hp (q ▸ List.take_prefix _ _)
    rcases h with ⟨rfl, h⟩ | ⟨m, d, rfl, hm, hd, h⟩
    · exact .inl ⟨rfl, fun n hn => by rw [doorAt_snoc, h n hn, if_neg (no n)]; rfl⟩
    · exact .inr ⟨m, d, rfl, hm, by rw [doorAt_snoc, hd]; rfl, fun n h1 h2 => by rw [doorAt_snoc, h n h1 h2, if_neg (no n)]; rfl⟩
theorem wayOk_take (ws : List (List Nat × List Nat)) (s : List Nat) : ∀ i, WayOk (ws.take i) s (wayL (ws.take i) s)
  | 0 => .inl ⟨rfl, fun _ _ => rfl⟩
  | i + 1 => by
    have ih := wayOk_take ws s i
    rw [List.take_add_one]
    cases e : ws[i]? with
    | none => simpa using ih
    | some w =>
      unfold wayL at ih ⊢
      rw [Option.toList_some, List.foldl_append]
      exact wayOk_snoc ih
theorem door_none {ws : List (List Nat × List Nat)} {s : List Nat} : ∀ k, (∀ n, n < k → doorAt ws s n = none) → doorD ws s k = none
  | 0, _ => rfl
  | k + 1, h => by
    rw [doorD, h k (by omega)]
    exact door_none k fun n hn => h n (by omega)
theorem door_some {ws : List (List Nat × List Nat)} {s : List Nat} {m : Nat} {d : List Nat} (hd : doorAt ws s m = some d) : ∀ k, m < k → (∀ n, m < n → n < k → doorAt ws s n = none) → doorD ws s k = some d
  | 0, h, _ => absurd h (by omega)
  | k + 1, h, q => by
    rw [doorD]
    by_cases e : m = k
    · subst e; rw [hd]
    · rw [q k (by omega) (by omega)]
      exact door_some hd k (by omega) fun n h1 h2 => q n h1 (by omega)
theorem way_door (ws : List (List Nat × List Nat)) (s : List Nat) : (wayL ws s).2 = doorD ws s (s.length + 1) := by
  have h := wayOk_take ws s ws.length
  rw [List.take_length] at h
  rcases h with ⟨e, h⟩ | ⟨m, d, e, hm, hd, h⟩
  · rw [e, door_none _ fun n hn => h n (by omega)]
  · rw [e, door_some hd _ (by omega) fun n h1 h2 => h n h1 (by omega)]
abbrev Way := List Nat × List Nat
def WayAt (H : Hp) (x : Way) (v : V) : Prop := ∃ t, v = .ref t ∧ H t = some (.tup [tx x.1, tx x.2])
def Ways (H : Hp) (p : Addr) (ws : List Way) : Prop := ∃ vs, H p = some (.lst vs) ∧ Paired (WayAt H) ws vs
theorem ways_keep {H H' : Hp} (k : ∀ t vs, H t = some (.tup vs) → H' t = some (.tup vs)) {ws : List Way} {vs : List V} (h : Paired (WayAt H) ws vs) : Paired (WayAt H') ws vs :=
  L2.Paired.mapP h fun _ _ ⟨t, e, q⟩ => ⟨t, e, k _ _ q⟩
theorem Ways.same {H H' : Hp} {p : Addr} {ws : List Way} (h : Ways H p ws) (s : Same H H') : Ways H' p ws := by
  obtain ⟨vs, e, pr⟩ := h
  exact ⟨vs, s _ _ e, ways_keep (fun t us q => s _ _ q) pr⟩
def wayD (x : Way) : D := .t [.f (tx x.1), .f (tx x.2)]
theorem ways_deep {H : Hp} {p : Addr} {ws : List Way} (h : Ways H p ws) : Deep K H 2 (.ref p) (.l (ws.map wayD)) := by
  obtain ⟨vs, e, pr⟩ := h
  refine .inr (.inl ⟨p, vs, ws.map wayD, rfl, rfl, SqL.of e, ?_⟩)
  clear e
  induction pr with
  | nil => exact .nil
  | cons r _ ih =>
    obtain ⟨t, rfl, q⟩ := r
    exact .cons (.inr (.inr ⟨t, _, _, rfl, rfl, SqT.of q, .cons (deep_flat 0 rfl) (.cons (deep_flat 0 rfl) .nil)⟩)) ih
theorem eqDs_refl_way : ∀ ws : List Way, eqDs (ws.map wayD) (ws.map wayD) = true
  | [] => by simp [eqDs]
  | x :: ws => by
    rw [List.map_cons, eqDs, eqDs_refl_way ws]
    simp [wayD, eqD, eqDs, eqV]
def optV : Option (List Nat) → V
  | none => .non
  | some d => tx d
def sp_way_found (K : PySem.W.Frag) : Sp := fun vs H Q _ => match vs with
  | [.ref p, .str s] => ∃ ws : List Way, Ways H p ws ∧ (∀ x ∈ ws, x.1.length ≤ 1000) ∧ ∀ H', Same H H' → Q (optV (wayL ws s.cps.toList).2) H'
  | _ => False
theorem ok_way_found (T : Top K mg) : Callee P w K mg base 1 "way_found" ["ways", "signs"] (sp_way_found K) := by
  refine T.f_way_found.cal sc_way_found (by intro vs H Q E h; unfold sp_way_found at h; split at h <;> first | rfl | exact h.elim) (fun _ _ _ _ _ _ us hl => match us, hl with | [_, _], _ => rfl) (fun f cdv A outer s H vs Q E hr h => ?_)
  unfold sp_way_found at h
  split at h
  case h_2 => exact h.elim
  refine ⟨_, (pss_cons (ps_set (i := 2) sc_way_found.nd rfl (by first | exact Or.inl rfl | exact Or.inr rfl) (qe_neg pe_int))
      (pss_cons (ps_set (i := 3) sc_way_found.nd rfl (by first | exact Or.inl rfl | exact Or.inr rfl) pe_non)
      (pss_cons (qs_for PassesOwn.never rfl (iterE K rfl (qv 0)) (tupE K rfl rfl (n := 2) (pgs_cons (pg_name (i := 4) sc_way_found.nd rfl (by first | exact Or.inl rfl | exact Or.inr rfl)) (pgs_cons (pg_name (i := 5) sc_way_found.nd rfl (by first | exact Or.inl rfl | exact Or.inr rfl)) pgs_nil))) (pss_one (ps_if (PW.pt (pw_and (qt_cmp op_gtK (pe_callB (lenE K rfl) rfl T.b_len bb_len (pa_cons (qv 4) pa_nil)) (qv 2)) (pw_and1 (qt_val (qe_starts (qv 1) (qv 4)))))) (pss_cons (ps_set (i := 2) sc_way_found.nd rfl (by first | exact Or.inl rfl | exact Or.inr rfl) (pe_callB (lenE K rfl) rfl T.b_len bb_len (pa_cons (qv 4) pa_nil)))
      (pss_one (ps_set (i := 3) sc_way_found.nd rfl (by first | exact Or.inl rfl | exact Or.inr rfl) (qv 5)))) pss_nil)))
      (pss_one (ps_ret (qv 3)))))), ?_⟩
  rename_i p s
  obtain ⟨l, rfl⟩ : ∃ x, s = st x := ⟨_, (st_eta s).symm⟩
  obtain ⟨ws, ⟨vs, e0, pr⟩, hw, q⟩ := h
  simp only [st_cps] at q
  walk_at "rd"
  refine .inl ⟨⟨_, SqL.of e0⟩, ?_⟩
  have hl := pr.length
  refine loop_list (xs := vs) (fun i σ H' => ∃ u v, σ = [some (.ref p), some (.str (st l)), some (.int (wayL (ws.take i) l).1), some (optV (wayL (ws.take i) l).2), u, v] ∧ Same H H') ⟨none, none, rfl, Same.refl _⟩ (fun i σ H' _ ⟨_, _, _, z⟩ => SqL.of (z _ _ e0)) ?_ ?_
  · rintro i x σ H1 hx ⟨u, v, rfl, s1⟩
    have hi : i < vs.length := (List.getElem?_eq_some_iff.mp hx).1
    have hiw : i < ws.length := by omega
    obtain ⟨y, hy, t, ey, et⟩ := paired_at pr (List.getElem?_eq_getElem hiw)
    obtain rfl : x = .ref t := by rw [hy] at hx; rw [← Option.some.inj hx, ey]
    have st1 : SqT K H1 t [tx ws[i].1, tx ws[i].2] := SqT.of (s1 _ _ et)
    have hwi := hw ws[i] (List.getElem_mem hiw)
    have step : wayL (ws.take (i + 1)) l = wayStep l (wayL (ws.take i) l) ws[i] := by
      unfold wayL
      rw [List.take_add_one, List.getElem?_eq_getElem hiw, Option.toList_some, List.foldl_append]
      rfl
    rw [step]
    generalize wayL (ws.take i) l = a
    unfold wayStep
    refine ⟨t, [_, _], rfl, st1, rfl, _, [_], rfl, _, [], rfl, rfl, ?_⟩
    walk_at "rd"
    refine ⟨by omega, ite2 (fun g1 => ite2 (fun g2 => ⟨by omega, ?_⟩) fun g2 => ?_) fun g1 => ?_⟩
    · rw [if_pos ⟨g1, g2⟩]
      exact ⟨_, _, rfl, s1⟩
    · rw [if_neg fun z => g2 z.2]
      exact ⟨_, _, rfl, s1⟩
    · rw [if_neg fun z => g1 z.1]
      exact ⟨_, _, rfl, s1⟩
  · rintro σ H1 ⟨u, v, rfl, s1⟩
    walk_at "rd"
    rw [← hl, List.take_length]
    exact q H1 s1
def dk (L : List Way) : List (Key × V) := L.map fun x => (Sum.inr (st x.1), tx x.2)
def hasW (L : List Way) (k : List Nat) : Option (List Nat) := (L.find? fun x => decide (x.1 = k)).map Prod.snd
theorem dk_len (L : List Way) : (dk L).length = L.length := by simp [dk]
theorem dk_keys (L : List Way) : (dk L).map (·.1) = (L.map (·.1)).map fun l => Sum.inr (st l) := by simp [dk]
theorem dk_val (L : List Way) (k : List Nat) : valV (dk L) (Sum.inr (st k)) = (hasW L k).map tx := by
  unfold dk hasW valV
  induction L with
  | nil => rfl
  | cons x L ih =>
    rw [List.map_cons, List.find?_cons, List.find?_cons]
    by_cases e : x.1 = k
    · rw [decide_eq_true e, decide_eq_true (by rw [e])]
      rfl
    · rw [decide_eq_false e, decide_eq_false (fun z => e (st_inj.mp (Sum.inr.inj z)))]
      exact ih
theorem dk_put {L : List Way} {k d : List Nat} (h : hasW L k = none) : putK (dk L) (Sum.inr (st k)) (tx d) = dk (L ++ [(k, d)]) := by
  rw [putK_new _ (by rw [dk_val, h]; rfl)]
  simp [dk]
theorem dk_drop (L : List Way) (k : List Nat) : dropK (dk L) (Sum.inr (st k)) = dk (L.filter fun x => decide (x.1 ≠ k)) := by
  unfold dk dropK
  rw [List.filter_map]
  congr 1
  refine List.filter_congr fun x _ => ?_
  exact decide_eq_decide.mpr ⟨fun h e => h (by show Sum.inr (st x.1) = Sum.inr (st k); rw [e]), fun h z => h (st_inj.mp (Sum.inr.inj z))⟩
theorem hasW_mem {L : List Way} {k d : List Nat} (h : hasW L k = some d) : (k, d) ∈ L := by
  unfold hasW at h
  obtain ⟨x, hx, rfl⟩ := Option.map_eq_some_iff.mp h
  have e := List.find?_some hx
  have e : x.1 = k := by simpa using e
  subst e
  exact List.mem_of_find?_eq_some hx
theorem hasW_none {L : List Way} {k : List Nat} : hasW L k = none ↔ k ∉ L.map (·.1) := by
  unfold hasW
  rw [Option.map_eq_none_iff, List.find?_eq_none]
  constructor
  · intro h m
    obtain ⟨x, hx, rfl⟩ := List.mem_map.mp m
    exact h x hx (by simp)
  · intro h x hx e
    exact h (List.mem_map.mpr ⟨x, hx, by simpa using e⟩)
theorem hasW_of {L : List Way} (nd : (L.map (·.1)).Nodup) {x : Way} (hx : x ∈ L) : hasW L x.1 = some x.2 := by
  cases h : hasW L x.1 with
  | none => exact absurd (List.mem_map.mpr ⟨x, hx, rfl⟩) (hasW_none.mp h)
  | some d => rw [← keys_one nd (hasW_mem h) hx rfl]
def belowL (L : List Way) (s : List Nat) : List Way := ((srt (L.map (·.1))).filter fun k => decide (k.take s.length = s)).map fun k => (k, (hasW L k).getD [])
theorem way_uniq : ∀ (l m : List Way), l.Pairwise (fun x y => x.1 < y.1) → m.Pairwise (fun x y => x.1 < y.1) → (∀ x, x ∈ l ↔ x ∈ m) → l = m
  | [], [], _, _, _ => rfl
  | [], y :: m, _, _, h => absurd ((h y).mpr List.mem_cons_self) List.not_mem_nil
  | x :: l, [], _, _, h => absurd ((h x).mp List.mem_cons_self) List.not_mem_nil
  | x :: l, y :: m, hl, hm, h => by
    obtain ⟨l1, l2⟩ := List.pairwise_cons.mp hl
    obtain ⟨m1, m2⟩ := List.pairwise_cons.mp hm
    have e : x = y := by
      rcases List.mem_cons.mp ((h x).mp List.mem_cons_self) with e | e
      · exact e
      · rcases List.mem_cons.mp ((h y).mpr List.mem_cons_self) with e' | e'
        · exact e'.symm
        · exact absurd (lt_tr (m1 x e) (l1 y e')) (lt_ir _)
    subst e
    rw [way_uniq l m l2 m2 fun z => ?_]
    constructor
    · intro hz
      rcases List.mem_cons.mp ((h z).mp (List.mem_cons_of_mem _ hz)) with e | e
      · rw [e] at hz
        exact absurd (l1 x hz) (lt_ir _)
      · exact e
    · intro hz
      rcases List.mem_cons.mp ((h z).mpr (List.mem_cons_of_mem _ hz)) with e | e
      · rw [e] at hz
        exact absurd (m1 x hz) (lt_ir _)
      · exact e
theorem below_sorted (L : List Way) (s : List Nat) : (belowL L s).Pairwise fun x y => x.1 < y.1 := by
  unfold belowL
  exact List.pairwise_map.mpr (((srt_sorted _).sublist List.filter_sublist).imp fun h => h)
theorem below_mem {L : List Way} (nd : (L.map (·.1)).Nodup) (s : List Nat) (x : Way) : x ∈ belowL L s ↔ x ∈ L ∧ x.1.take s.length = s := by
  unfold belowL
  rw [List.mem_map]
  constructor
  · rintro ⟨k, hk, rfl⟩
    obtain ⟨h1, h2⟩ := List.mem_filter.mp hk
    obtain ⟨y, hy, rfl⟩ := List.mem_map.mp (srt_mem.mp h1)
    rw [hasW_of nd hy]
    exact ⟨hy, by simpa using h2⟩
  · rintro ⟨h1, h2⟩
    refine ⟨x.1, List.mem_filter.mpr ⟨srt_mem.mpr (List.mem_map.mpr ⟨x, h1, rfl⟩), by simpa using h2⟩, ?_⟩
    rw [hasW_of nd h1]
    rfl
theorem take_prefix_iff (s k : List Nat) : k.take s.length = s ↔ s <+: k := by
  rw [List.prefix_iff_eq_take]
  exact ⟨fun h => h.symm, fun h => h.symm⟩
theorem below_is {L ws : List Way} (nd : (L.map (·.1)).Nodup) (s : List Nat) (hp : ws.Perm (L.filter fun x => decide (s <+: x.1))) (hs : ws.Pairwise fun x y => x.1 < y.1) : ws = belowL L s := by
  refine way_uniq _ _ hs (below_sorted L s) fun x => ?_
  rw [hp.mem_iff, List.mem_filter, below_mem nd, take_prefix_iff, decide_eq_true_eq]
abbrev clsTr (K : PySem.W.Frag) : Addr := xA K "Tree"
structure TreeAt (K : PySem.W.Frag) (H : Hp) (t d : Addr) (L : List Way) : Prop where
  tr : ∃ dx, H t = some (.ins (clsTr K) dx [("doors", .ref d)])
  ds : H d = some (.dK (dk L))
theorem TreeAt.same {K : PySem.W.Frag} {H H' : Hp} {t d : Addr} {L : List Way} (h : TreeAt K H t d L) (s : Same H H') : TreeAt K H' t d L :=
  ⟨let ⟨dx, e⟩ := h.tr; ⟨dx, s _ _ e⟩, s _ _ h.ds⟩
theorem same_thaw {H H1 : Hp} {d : Addr} {ob : Obj} {kvs : List (Key × V)} (e : H d = some (.dK kvs)) (s : Same (upd H d (.frz ob (.dK kvs))) H1) : Same H (upd H1 d (.dK kvs)) := fun b o q => by
  by_cases z : b = d
  · rw [z, e] at q
    rw [z, upd_same]
    exact q
  · rw [upd_ne z]
    exact s b o (by rw [upd_ne z]; exact q)
theorem ways_of_items {H : Hp} : ∀ {L : List Way} {ts : List Addr}, Paired (fun (kv : Key × V) (t : Addr) => H t = some (.tup [kV kv.1, kv.2])) (dk L) ts → Paired (WayAt H) L (ts.map V.ref)
  | [], _, p => by cases p; exact .nil
  | x :: L, _, p => by
    cases p with
    | cons r t => exact .cons ⟨_, rfl, r⟩ (ways_of_items t)
def sp_is_letter : Sp := fun vs H Q _ => match vs with
  | [v, .int w] => Known H v ∧ Q (.bl (textOf v w [48, 49])) H
  | _ => False
theorem ok_is_letter (T : Top K mg) : Callee P w K mg base 2 "is_letter" ["thing", "width"] sp_is_letter := by
  refine T.f_is_letter.cal sc_is_letter (by intro vs H Q E h; unfold sp_is_letter at h; split at h <;> first | rfl | exact h.elim) (fun _ _ _ _ _ _ us hl => match us, hl with | [_, _], _ => rfl) (fun f cdv A outer s H vs Q E hr h => ?_)
  unfold sp_is_letter at h
  split at h
  case h_2 => exact h.elim
  refine ⟨_, (pss_one (ps_ret (pe_fn (ok_is_text_of T) (hr.mono (by first | decide | omega)) rfl (pa_cons (qv 0) (pa_cons (qv 1) (pa_cons (qs [48, 49]) pa_nil)))))), ?_⟩
  rename_i v w
  obtain ⟨hk, q⟩ := h
  walk_at "rd"
  exact ⟨hk, q⟩
def begOf (v : V) (n : Int) : Bool := match v with
  | .str a => decide ((a.cps.toList.length : Int) ≤ n) && a.cps.toList.all fun c => decide (c ∈ [48, 49])
  | _ => false
def sp_is_beginning : Sp := fun vs H Q _ => match vs with
  | [v, .int n] => Known H v ∧ Q (.bl (begOf v n)) H
  | _ => False
theorem ok_is_beginning (T : Top K mg) : Callee P w K mg base 3 "is_beginning" ["thing", "longest"] sp_is_beginning := by
  refine T.f_is_beginning.cal sc_is_beginning (by intro vs H Q E h; unfold sp_is_beginning at h; split at h <;> first | rfl | exact h.elim) (fun _ _ _ _ _ _ us hl => match us, hl with | [_, _], _ => rfl) (fun f cdv A outer s H vs Q E hr h => ?_)
  unfold sp_is_beginning at h
  split at h
  case h_2 => exact h.elim
  refine ⟨_, (pss_one (ps_ret (qe_and (qe_isinst .str rfl T.b_isinstance (qv 0) rfl T.b_str bb_str) (qe_and (qe_cmp op_leK (pe_callB (lenE K rfl) rfl T.b_len bb_len (pa_cons (qv 0) pa_nil)) (qv 1)) (pe_one (pe_fn (ok_is_letter T) (hr.mono (by first | decide | omega)) rfl (pa_cons (qv 0) (pa_cons (pe_callB (lenE K rfl) rfl T.b_len bb_len (pa_cons (qv 0) pa_nil)) pa_nil)))))))), ?_⟩
  rename_i v n
  obtain ⟨hk, q⟩ := h
  walk_at "rd"
  cases v with
  | str a =>
    obtain ⟨x, rfl⟩ : ∃ x, a = st x := ⟨_, (st_eta a).symm⟩
    walk_at "rd"
    have hk' : x.length ≤ 1000 := hk
    refine ⟨by omega, ite2 (fun g => ⟨by omega, hk, ?_⟩) fun g => ?_⟩
    · have e : textOf (.str (st x)) x.length [48, 49] = begOf (.str (st x)) n := by
        simp only [textOf, begOf, st_cps, g, decide_true]
      rw [e]
      exact q
    · have e : begOf (.str (st x)) n = false := by
        simp only [begOf, st_cps, g, decide_false, Bool.false_and]
      rw [e] at q
      exact q
  | ref p =>
    rcases hk with hk | hk
    · exact .inl ⟨hk, q⟩
    · exact .inr ⟨hk, q⟩
  | non => exact q
  | bl b => exact q
  | int i => exact q
  | _ => exact hk.elim
def sp_Tree____init__ (K : PySem.W.Frag) : Sp := fun vs H Q _ => match vs with
  | [.ref t] => ∃ dx, H t = some (.ins (clsTr K) dx []) ∧ ∀ d H', H d = none → (∀ b u, b ≠ t → H b = some u → H' b = some u) → TreeAt K H' t d [] → Q .non H'
  | _ => False
theorem ok_Tree____init__ (T : Top K mg) : KCal P w K mg base 1 "Tree" ["self"] (sp_Tree____init__ K) := by
  refine T.f_Tree____init__.cal sc_Tree____init__ (by intro vs H Q E h; unfold sp_Tree____init__ at h; split at h <;> first | rfl | exact h.elim) (fun _ _ _ _ _ _ us hl => match us, hl with | [_], _ => rfl) (fun f cdv A outer s H vs Q E hr h => ?_)
  unfold sp_Tree____init__ at h
  split at h
  case h_2 => exact h.elim
  refine ⟨_, (pss_one (ps_fld (qv 0) pe_dnewK rfl)), ?_⟩
  rename_i t
  obtain ⟨dx, e, q⟩ := h
  walk_at "rd"
  refine fun d hd => ⟨t, _, dx, [], rfl, same_new hd _ _ _ e, T.c_Tree.c, T.a_Tree_doors, by decide, ?_⟩
  have dt : d ≠ t := fun z => by rw [z, e] at hd; cases hd
  refine q d _ hd (fun b u hb eb => ?_) ⟨⟨dx, upd_same⟩, ?_⟩
  · rw [upd_ne hb, upd_ne (ne_of_none eb hd)]
    exact eb
  · rw [upd_ne dt, upd_same]
    rfl
def sp_Tree__way_at (K : PySem.W.Frag) : Sp := fun vs H Q _ => match vs with
  | [.ref t, .str s] => ∃ d L, TreeAt K H t d L ∧ (∀ x ∈ L, x.1.length ≤ 1000) ∧ ∀ H', Same H H' → Q (optV (wayL L s.cps.toList).2) H'
  | _ => False
theorem ok_Tree__way_at (T : Top K mg) : MCal P w K mg base 2 "Tree" "way_at" ["self", "signs"] (sp_Tree__way_at K) := by
  refine T.f_Tree__way_at.cal sc_Tree__way_at (by intro vs H Q E h; unfold sp_Tree__way_at at h; split at h <;> first | rfl | exact h.elim) (fun _ _ _ _ _ _ us hl => match us, hl with | [_, _], _ => rfl) (fun f cdv A outer s H vs Q E hr h => ?_)
  unfold sp_Tree__way_at at h
  split at h
  case h_2 => exact h.elim
  refine ⟨_, (pss_one (ps_ret (pe_fn (ok_way_found T) (hr.mono (by first | decide | omega)) rfl (pa_cons (qe_listitems rfl rfl T.b_list (pe_fld (qv 0) rfl)) (pa_cons (qv 1) pa_nil))))), ?_⟩
  rename_i t s
  obtain ⟨s, rfl⟩ : ∃ x, s = st x := ⟨_, (st_eta s).symm⟩
  simp only [st_cps] at h
  obtain ⟨d, L, ⟨⟨dx, e⟩, ed⟩, hl, q⟩ := h
  walk_at "rd"
  refine ⟨t, _, dx, _, .ref d, rfl, e, T.c_Tree.c, T.a_Tree_doors, rfl, dk L, ed, fun p ts H2 hp s2 e2 pr => ?_⟩
  exact ⟨L, ⟨_, e2, ways_of_items pr⟩, hl, fun H3 s3 => q H3 (s2.trans s3)⟩
def sp_Tree__ways_below (K : PySem.W.Frag) : Sp := fun vs H Q _ => match vs with
  | [.ref t, .str s] => ∃ d L, TreeAt K H t d L ∧ (L.map (·.1)).Nodup ∧ L.length < 64 ∧ (∀ x ∈ L, x.1.length ≤ 1000) ∧ s.cps.toList.length ≤ 1000 ∧ ∀ p H' vs, H p = none → Same H H' → H' p = some (.lst vs) → Paired (WayAt H') (belowL L s.cps.toList) vs → Q (.ref p) H'
  | _ => False
theorem ok_Tree__ways_below (T : Top K mg) : MCal P w K mg base 1 "Tree" "ways_below" ["self", "signs"] (sp_Tree__ways_below K) := by
  refine T.f_Tree__ways_below.cal sc_Tree__ways_below (by intro vs H Q E h; unfold sp_Tree__ways_below at h; split at h <;> first | rfl | exact h.elim) (fun _ _ _ _ _ _ us hl => match us, hl with | [_, _], _ => rfl) (fun f cdv A outer s H vs Q E hr h => ?_)
  unfold sp_Tree__ways_below at h
  split at h
  case h_2 => exact h.elim
  refine ⟨_, (pss_one (ps_ret (pe_thaw (pe_callB (call_sortedP K rfl) rfl T.b_sorted bb_sorted (pa_cons (qe_comp (nt := 2) (fi := [1]) (N' := ["beginning", "door", "signs"]) rfl (cscope rfl (by decide +kernel)) (cnames (N := ["self", "signs"]) (sc := defScope s_Tree__ways_below) rfl rfl (by decide +kernel)) (gk_tup2 (by decide) (by decide)) (qi_items (pe_frz (pe_fld (qv 0) rfl))) (fun _ _ _ _ _ => (tupE K rfl rfl (n := 2) (pgs_cons (pg_name (i := 0) (by show (["beginning", "door", "signs"] : List Str).Nodup; decide +kernel) rfl (by first | exact Or.inl rfl | exact Or.inr rfl)) (pgs_cons (pg_name (i := 1) (by show (["beginning", "door", "signs"] : List Str).Nodup; decide +kernel) rfl (by first | exact Or.inl rfl | exact Or.inr rfl)) pgs_nil)))) (fun _ _ _ _ _ => (pif_one (qt_val (qe_starts (qv 0) (qv 2))))) (fun _ _ _ _ _ => (pe_tup (pa_cons (qv 0) (pa_cons (qv 1) pa_nil))))) pa_nil))))), ?_⟩
  rename_i t s
  obtain ⟨s, rfl⟩ : ∃ x, s = st x := ⟨_, (st_eta s).symm⟩
  simp only [st_cps] at h
  obtain ⟨d, L, ⟨⟨dx, e⟩, ed⟩, nd, hl, hk, hs, q⟩ := h
  walk_at "rd"
  refine ⟨t, _, dx, _, .ref d, rfl, e, T.c_Tree.c, T.a_Tree_doors, rfl, dk L, ed, fun ob => ⟨ob, dk L, upd_same, fun D hD => ?_⟩⟩
  refine comp_itemsR (f := fun x : Way => (Sum.inr (st x.1), tx x.2)) (xs := L) (keep := fun x => decide (s <+: x.1)) (R := fun x v H' => WayAt H' x v) hD upd_same (by omega) ?_ ?_ ?_
  · rintro x v H1 H2 acc hd k ⟨t, e, r⟩
    exact ⟨t, e, k _ _ (fun z => by subst z; rw [hd] at r; cases r) r⟩
  · intro x TT H1 out non hx s1 e1 ho hno
    have e1 : H1 TT = some (.tup [tx x.1, tx x.2]) := e1
    walk_at "rd"
    refine ⟨TT, [_, _], rfl, SqT.of e1, rfl, _, [_], rfl, _, [], rfl, rfl, ?_⟩
    walk_at "rd"
    exact ite2 (fun g => ⟨by decide, fun p hp => ho _ _ (decide_eq_true g) (same_new hp _) ⟨p, rfl, upd_same⟩⟩) fun g => hno _ (decide_eq_false g) (Same.refl _)
  · intro H1 vs s1 e1 pr
    have hDd : D ≠ d := fun z => by rw [z, upd_same] at hD; cases hD
    walk_at "rd"
    refine ⟨_, vs, SqL.of e1, pr, ?_, ?_, fun p ws' vs' hp hpm hso pr' => ⟨d, ob, dk L, ?_, ?_⟩⟩
    · exact nd.sublist ((List.filter_sublist (l := L)).map _)
    · have := List.length_filter_le (fun x : Way => decide (s <+: x.1)) L
      omega
    · exact same_new hp _ _ _ (s1 _ _ upd_same)
    · have s2 : Same H (upd (upd H1 p (.lst vs')) d (.dK (dk L))) := same_thaw ed (s1.trans (same_new hp _))
      have hpd : p ≠ d := fun z => by rw [z, s1 _ _ upd_same] at hp; cases hp
      have hp0 : H p = none := by
        cases y : H p with
        | none => rfl
        | some o =>
          have := s1 p o (by rw [upd_ne hpd]; exact y)
          rw [hp] at this
          cases this
      rw [below_is nd s hpm hso] at pr'
      refine q p _ vs' hp0 s2 (by rw [upd_ne hpd, upd_same]) (ways_keep (fun t us h => ?_) pr')
      rw [upd_ne (fun z => by rw [z, s1 _ _ upd_same] at h; cases h)]
      exact same_new hp _ _ _ h
def sp_Tree__told_ways (K : PySem.W.Frag) : Sp := fun vs H Q _ => match vs with
  | [.ref t] => ∃ d L, TreeAt K H t d L ∧ (L.map (·.1)).Nodup ∧ L.length < 64 ∧ (∀ x ∈ L, x.1.length ≤ 1000) ∧ ∀ p H' vs, H p = none → Same H H' → H' p = some (.lst vs) → Paired (WayAt H') (belowL L []) vs → Q (.ref p) H'
  | _ => False
theorem ok_Tree__told_ways (T : Top K mg) : MCal P w K mg base 2 "Tree" "told_ways" ["self"] (sp_Tree__told_ways K) := by
  refine T.f_Tree__told_ways.cal sc_Tree__told_ways (by intro vs H Q E h; unfold sp_Tree__told_ways at h; split at h <;> first | rfl | exact h.elim) (fun _ _ _ _ _ _ us hl => match us, hl with | [_], _ => rfl) (fun f cdv A outer s H vs Q E hr h => ?_)
  unfold sp_Tree__told_ways at h
  split at h
  case h_2 => exact h.elim
  refine ⟨_, (pss_one (ps_ret (pe_metT T.c_Tree (ok_Tree__ways_below T) (hr.mono (by first | decide | omega)) (qv 0) (pa_cons (qs []) pa_nil)))), ?_⟩
  rename_i t
  obtain ⟨d, L, ⟨⟨dx, e⟩, ed⟩, nd, hl, hk, q⟩ := h
  walk_at "rd"
  exact ⟨t, dx, _, rfl, e, rfl, d, L, ⟨⟨dx, e⟩, ed⟩, nd, hl, hk, Nat.zero_le _, q⟩
def sp__law_beginning : Sp := fun vs H Q _ => match vs with
  | [.int c] => ∀ z H', IsLet z → z.length ≤ 48 → Same H H' → Q (tx z) H'
  | _ => False
theorem ok__law_beginning (T : Top K mg) : Callee P w K mg base 2 "_law_beginning" ["_law_cell"] sp__law_beginning := by
  refine T.f__law_beginning.cal sc__law_beginning (by intro vs H Q E h; unfold sp__law_beginning at h; split at h <;> first | rfl | exact h.elim) (fun _ _ _ _ _ _ us hl => match us, hl with | [_], _ => rfl) (fun f cdv A outer s H vs Q E hr h => ?_)
  unfold sp__law_beginning at h
  split at h
  case h_2 => exact h.elim
  refine ⟨_, (pss_cons (ps_set (i := 1) sc__law_beginning.nd rfl (by first | exact Or.inl rfl | exact Or.inr rfl) (pe_op op_modK (qv 0) pe_int))
      (pss_join (ps_if (qt_cmp op_eqK (pe_op op_modK (pe_op op_fdivK (qv 0) pe_int) pe_int) pe_int) (pss_one (ps_set (i := 1) sc__law_beginning.nd rfl (by first | exact Or.inl rfl | exact Or.inr rfl) (pe_op op_modK (pe_op op_fdivK (qv 0) pe_int) pe_int))) pss_nil)
      (pss_cons (ps_set (i := 2) sc__law_beginning.nd rfl (by first | exact Or.inl rfl | exact Or.inr rfl) (joinE K rfl (qe_comp (nt := 1) (fi := []) (N' := ["_law_number"]) rfl (cscope rfl (by decide +kernel)) (cnames (N := ["_law_cell", "_law_size", "_law_signs", "_law_at"]) (sc := defScope s__law_beginning) rfl rfl (by decide +kernel)) (gk_name (by decide)) (iterE K rfl (pe_fn (ok__law_stream T) (hr.mono (by first | decide | omega)) rfl (pa_cons (pe_op op_modK (pe_op op_fdivK (qv 0) pe_int) pe_int) (pa_cons (qv 1) pa_nil)))) (fun _ _ _ _ _ => (pg_name (i := 0) (by show (["_law_number"] : List Str).Nodup; decide +kernel) rfl (by first | exact Or.inl rfl | exact Or.inr rfl))) (fun _ _ _ _ _ => pif_nil) (fun _ _ _ _ _ => (pe_ix (ixE K rfl) (qs [48, 49]) (pe_op op_modK (pe_op op_fdivK (qv 0) pe_int) pe_int) (fun _ _ => rfl))))))
      (pss_join (ps_if (PW.pt (pw_and (qt_cmp op_gtK (qv 1) pe_int) (pw_and1 (qt_cmp op_gtK (pe_op op_modK (pe_op op_fdivK (qv 0) pe_int) pe_int) pe_int)))) (pss_cons (ps_set (i := 3) sc__law_beginning.nd rfl (by first | exact Or.inl rfl | exact Or.inr rfl) (pe_op op_modK (pe_op op_fdivK (qv 0) pe_int) (qv 1)))
      (pss_one (ps_set (i := 2) sc__law_beginning.nd rfl (by first | exact Or.inl rfl | exact Or.inr rfl) (pe_op op_addK (pe_op op_addK (pe_slice (slE K rfl) (qv 2) po_none (qo_some (qv 3))) (pe_ix (ixE K rfl) (qs [49, 48]) (pe_callTy call_intK rfl T.b_int bb_int (pa_cons (pe_ix (ixE K rfl) (qv 2) (qv 3) (fun _ _ => rfl)) pa_nil)) (fun _ _ => rfl))) (pe_slice (slE K rfl) (qv 2) (qo_some (pe_op op_addK (qv 3) pe_int)) po_none))))) pss_nil)
      (pss_one (ps_ret (qv 2))))))), ?_⟩
  rename_i c
  walk_at "rd"
  refine ⟨fun σ' H' => ∃ sz : Int, σ' = [some (.int c), some (.int sz), none, none] ∧ 0 ≤ sz ∧ sz ≤ 48 ∧ H' = H, ?_, ?_⟩
  · have h1 := Int.emod_nonneg c (show (7 : Int) ≠ 0 by decide)
    have h2 := Int.emod_lt_of_pos c (show (0 : Int) < 7 by decide)
    have h3 := Int.emod_nonneg (c / 56) (show (49 : Int) ≠ 0 by decide)
    have h4 := Int.emod_lt_of_pos (c / 56) (show (0 : Int) < 49 by decide)
    refine ite2 (fun _ => ⟨_, rfl, h3, by omega, rfl⟩) fun _ => ⟨_, rfl, h1, by omega, rfl⟩
  rintro σ' H' ⟨sz, rfl, hz0, hz1, rfl⟩
  walk_at "rd"
  refine ⟨by omega, by omega, fun p H2 hp s2 e2 => .inl ⟨⟨_, SqL.of e2⟩, fun D hD => ?_⟩⟩
  refine comp_list (item := V.int) (xs := stream (c / 7 % 3) sz.toNat) (h := fun e => [sgn (bit (e / 8))]) hD (SqL.of e2) (by rw [stream_len]; omega) (fun _ => by simp) ?_ ?_
  · intro e H3 out non he s3 ho hn'
    walk_at "rd"
    exact ⟨_, at01 _, ho _ _ rfl (Same.refl _)⟩
  intro H3 s3 e3
  obtain ⟨B, hBl, hBs, e3⟩ : ∃ B : List Nat, (B.length : Int) = sz ∧ IsLet B ∧ H3 D = some (.lst (B.map sgn)) := by
    refine ⟨(stream (c / 7 % 3) sz.toNat).map fun e => bit (e / 8), by rw [List.length_map, stream_len]; omega, fun x hx => ?_, ?_⟩
    · obtain ⟨e, _, rfl⟩ := List.mem_map.mp hx
      exact bit_or _
    · rw [e3, flat_one' (fun e => sgn (bit (e / 8))), List.map_map]
      rfl
  have s13 := s2.trans s3
  refine ⟨B, SqL.of e3, by omega, fun σ' H'' => ∃ (z : List Nat) (u : Option V), σ' = [some (.int c), some (.int sz), some (tx z), u] ∧ IsLet z ∧ (z.length : Int) = sz ∧ H'' = H3, ?_, ?_⟩
  · refine ite2 (fun g1 => ite2 (fun g2 => ?_) fun g2 => ⟨_, _, rfl, hBs, hBl, rfl⟩) fun g1 => ⟨_, _, rfl, hBs, hBl, rfl⟩
    have a0 : 0 ≤ c / 63 % sz := Int.emod_nonneg _ (by omega)
    have a1 : c / 63 % sz < sz := Int.emod_lt_of_pos _ g1
    obtain ⟨j, hj⟩ : ∃ j : Nat, c / 63 % sz = j := ⟨(c / 63 % sz).toNat, by omega⟩
    rw [hj] at a0 a1 ⊢
    have hjB : j < B.length := by omega
    have hc := hBs B[j] (List.getElem_mem hjB)
    refine ⟨g1, by omega, by omega, by omega, by omega, B[j], atI_nat (List.getElem?_eq_getElem hjB), by omega, by omega, 97 - B[j], ?_, ?_, by omega, by omega, by omega, ?_, _, _, rfl, ?_, ?_, rfl⟩
    · rcases hc with z | z <;> rw [z] <;> rfl
    · rw [List.length_take]; omega
    · simp only [List.length_append, List.length_take, List.length_drop, List.length_singleton]; omega
    · intro x hx
      rcases List.mem_append.mp hx with hx | hx
      · rcases List.mem_append.mp hx with hx | hx
        · exact hBs x (List.mem_of_mem_take hx)
        · rw [List.mem_singleton.mp hx]; omega
      · exact hBs x (List.mem_of_mem_drop hx)
    · simp only [List.length_append, List.length_take, List.length_drop, List.length_singleton]; omega
  rintro σ' H'' ⟨z, u, rfl, hz, hzl, rfl⟩
  walk_at "rd"
  exact h z H'' hz (by omega) s13
theorem paired_mapl {α β γ : Type} {g : α → γ} {R : γ → β → Prop} : ∀ {l : List α} {m : List β}, Paired (fun x v => R (g x) v) l m → Paired R (l.map g) m
  | _, _, .nil => .nil
  | _, _, .cons r t => .cons r (paired_mapl t)
theorem ins_len (x : List Nat) : ∀ l : List (List Nat), (ins x l).length ≤ l.length + 1
  | [] => Nat.le_refl _
  | y :: l => by
    unfold ins
    have := ins_len x l
    split <;> (try split) <;> simp <;> omega
theorem srt_len : ∀ l : List (List Nat), (srt l).length ≤ l.length
  | [] => Nat.le_refl _
  | x :: l => by
    have h1 := ins_len x (srt l)
    have h2 := srt_len l
    show (ins x (srt l)).length ≤ _
    simp only [List.length_cons]
    omega
theorem mem_has {L : List Way} (nd : (L.map (·.1)).Nodup) (x : Way) : x ∈ L ↔ hasW L x.1 = some x.2 := ⟨hasW_of nd, fun h => hasW_mem h⟩
theorem below_same {L M : List Way} (nl : (L.map (·.1)).Nodup) (nm : (M.map (·.1)).Nodup) (h : ∀ k, hasW L k = hasW M k) (s : List Nat) : belowL L s = belowL M s :=
  way_uniq _ _ (below_sorted L s) (below_sorted M s) fun x => by rw [below_mem nl, below_mem nm, mem_has nl, mem_has nm, h]
theorem has_cons (x : Way) (L : List Way) (k : List Nat) : hasW (x :: L) k = if x.1 = k then some x.2 else hasW L k := by
  unfold hasW
  rw [List.find?_cons]
  by_cases e : x.1 = k
  · rw [decide_eq_true e, if_pos e]; rfl
  · rw [decide_eq_false e, if_neg e]
theorem has_filter (b k : List Nat) : ∀ L : List Way, hasW (L.filter fun x => decide (x.1 ≠ b)) k = if k = b then none else hasW L k
  | [] => by split <;> rfl
  | x :: L => by
    have ih := has_filter b k L
    rw [List.filter_cons, has_cons]
    by_cases e : x.1 = b
    · rw [if_neg (by simp [e]), ih]
      by_cases g : k = b
      · rw [if_pos g, if_pos g]
      · rw [if_neg g, if_neg g, if_neg (fun z => g (by rw [← z, e]))]
    · rw [if_pos (by simp [e]), has_cons, ih]
      by_cases g : k = b
      · rw [if_pos g, if_pos g, if_neg (fun z => e (by rw [z, g]))]
      · rw [if_neg g, if_neg g]
theorem has_snoc' {v : List Nat} (b k : List Nat) : ∀ {L : List Way}, hasW L b = none → hasW (L ++ [(b, v)]) k = if k = b then some v else hasW L k
  | [], _ => by
    rw [List.nil_append, has_cons]
    by_cases g : k = b
    · rw [if_pos g, if_pos g.symm]
    · rw [if_neg g, if_neg (fun z => g z.symm)]
  | x :: L, h => by
    rw [has_cons] at h
    by_cases e : x.1 = b
    · rw [if_pos e] at h; cases h
    · rw [if_neg e] at h
      rw [List.cons_append, has_cons, has_cons, has_snoc' b k h]
      by_cases g : k = b
      · rw [if_pos g, if_pos g, if_neg (fun z => e (by rw [z, g]))]
      · rw [if_neg g, if_neg g]
theorem has_put {v : List Nat} (b k : List Nat) : ∀ {L : List Way}, hasW L b ≠ none → hasW (L.map fun x => if x.1 = b then (x.1, v) else x) k = if k = b then some v else hasW L k
  | [], h => absurd rfl h
  | x :: L, h => by
    rw [List.map_cons, has_cons]
    rw [has_cons] at h
    by_cases e : x.1 = b
    · rw [if_pos e]
      by_cases g : k = b
      · rw [if_pos g, if_pos (by rw [g]; exact e)]
      · have ne : ¬ x.1 = k := fun z => g (by rw [← z, e])
        rw [if_neg g, if_neg ne, has_cons, if_neg ne]
        have gen : ∀ M : List Way, hasW (M.map fun x => if x.1 = b then (x.1, v) else x) k = hasW M k := fun M => by
          induction M with
          | nil => rfl
          | cons y M ih =>
            rw [List.map_cons, has_cons, has_cons, ih]
            by_cases e2 : y.1 = b
            · have ne2 : ¬ y.1 = k := fun z => g (by rw [← z, e2])
              rw [if_pos e2, if_neg ne2, if_neg ne2]
            · rw [if_neg e2]
        exact gen L
    · rw [if_neg e] at h ⊢
      rw [has_put b k h, has_cons]
      by_cases g : k = b
      · rw [if_pos g, if_pos g, if_neg (fun z => e (by rw [z, g]))]
      · rw [if_neg g, if_neg g]
theorem dk_put2 {L : List Way} {k d : List Nat} (h : hasW L k ≠ none) : putK (dk L) (Sum.inr (st k)) (tx d) = dk (L.map fun x => if x.1 = k then (x.1, d) else x) := by
  unfold putK
  rw [valV_any, dk_val]
  cases hw : hasW L k with
  | none => exact absurd hw h
  | some x =>
    rw [if_pos (show (Option.map tx (some x)).isSome = true from rfl)]
    unfold dk
    rw [List.map_map, List.map_map]
    refine List.map_congr_left fun y _ => ?_
    show (if (Sum.inr (st y.1) : Key) = Sum.inr (st k) then ((Sum.inr (st y.1) : Key), tx d) else (Sum.inr (st y.1), tx y.2)) = (Sum.inr (st (if y.1 = k then (y.1, d) else y).1), tx (if y.1 = k then (y.1, d) else y).2)
    by_cases e : y.1 = k
    · rw [if_pos e, if_pos (by rw [e])]
    · rw [if_neg e, if_neg (fun z => e (st_inj.mp (Sum.inr.inj z)))]
theorem put_keys {L : List Way} {k d : List Nat} : (L.map fun x => if x.1 = k then (x.1, d) else x).map (·.1) = L.map (·.1) := by
  rw [List.map_map]
  refine List.map_congr_left fun y _ => ?_
  show (if y.1 = k then (y.1, d) else y).1 = y.1
  split <;> rfl
theorem way_full {L : List Way} {s d : List Nat} (h : hasW L s = some d) : (wayL L s).2 = some d := by
  rw [way_door]
  show (match doorAt L s s.length with | some d => some d | none => doorD L s s.length) = some d
  have : doorAt L s s.length = some d := by
    show hasW L (s.take s.length) = some d
    rw [List.take_length]
    exact h
  rw [this]
def sp_Tree__put_way (K : PySem.W.Frag) : Sp := fun vs H Q E => match vs with
  | [.ref t, v, .str door] => ∃ (d : Addr) (L : List Way), TreeAt K H t d L ∧ L.length ≤ 60 ∧ Known H v ∧ OkR H v ∧
      (begOf v 48 = false → ∀ H', Same H H' → E (.ref (xA K "Misfit")) none H') ∧
      (begOf v 48 = true → ∀ b, v = tx b → (∀ x, hasW L b = some x → ∀ H', Same H H' → E (.ref (xA K "Twice")) none H') ∧ (hasW L b = none → Q .non (upd H d (.dK (dk (L ++ [(b, door.cps.toList)]))))))
  | _ => False
theorem ok_Tree__put_way (T : Top K mg) : MCalX P w K mg base 4 "Tree" "put_way" ["self", "beginning", "door"] (sp_Tree__put_way K) := by
  refine T.f_Tree__put_way.calX sc_Tree__put_way (by intro vs H Q E h; unfold sp_Tree__put_way at h; split at h <;> first | rfl | exact h.elim) (fun _ _ _ _ _ _ us hl => match us, hl with | [_, _, _], _ => rfl) (fun f cdv A outer s H vs Q E hr h => ?_)
  unfold sp_Tree__put_way at h
  split at h
  case h_2 => exact h.elim
  refine ⟨_, (pss_cons (ps_if (pt_not (qt_val (pe_fn (ok_is_beginning T) (hr.mono (by first | decide | omega)) rfl (pa_cons (qv 1) (pa_cons (qe_gint T.g_LONGEST rfl) pa_nil))))) (pss_one (ps_raise rfl raises_fn rfl T.x_Misfit.1 T.x_Misfit.2 (pa_cons (pe_fs (pj_cons (qs [110, 111, 32, 98, 101, 103, 105, 110, 110, 105, 110, 103, 58, 32]) (pj_cons (pe_fmtB hr.gd hr.units0 (qv 1)) pj_nil))) pa_nil))) pss_nil)
      (pss_cons (ps_if (qt_din (hu_of hr) (qv 1) (pe_fld (qv 0) rfl)) (pss_one (ps_raise rfl raises_fn rfl T.x_Twice.1 T.x_Twice.2 (pa_cons (pe_fs (pj_cons (qs [97, 32, 119, 97, 121, 32, 119, 105, 116, 104, 32]) (pj_cons (pe_fmtB hr.gd hr.units0 (qv 1)) (pj_cons (qs [32, 105, 115, 32, 116, 104, 101, 114, 101]) pj_nil)))) pa_nil))) pss_nil)
      (pss_one (qs_dput (hu_of hr) (pe_fld (qv 0) rfl) (qv 1) (qv 2))))), ?_⟩
  rename_i t v door
  obtain ⟨door, rfl⟩ : ∃ x, door = st x := ⟨_, (st_eta door).symm⟩
  simp only [st_cps] at h
  obtain ⟨d, L, ⟨⟨dx, e⟩, ed⟩, hl, hk, hr', q1, q2⟩ := h
  walk_at "rd"
  refine ⟨hk, ?_⟩
  have sz : ∀ n : Nat, n ≤ 300000 → n ≤ sizeLine := fun n hn => Nat.le_trans hn (by decide)
  cases hb : begOf v 48 with
  | false =>
    walk_at "rd"
    refine ⟨by decide, hr', fun z hz => ⟨sz _ ?_, fun z2 => ⟨by decide, q1 hb H (Same.refl _)⟩⟩⟩
    show 14 + z.length ≤ 300000
    omega
  | true =>
    obtain ⟨b, rfl⟩ : ∃ b, v = tx b := by
      unfold begOf at hb
      split at hb
      · rename_i a
        exact ⟨a.cps.toList, congrArg V.str (st_eta a).symm⟩
      · cases hb
    obtain ⟨q3, q4⟩ := q2 hb b rfl
    walk_at "rd"
    refine ⟨t, _, dx, _, .ref d, rfl, e, T.c_Tree.c, T.a_Tree_doors, rfl, _, DGet.k (k := Sum.inr (st b)) ed, ?_⟩
    rw [dk_val]
    cases hw : hasW L b with
    | some x =>
      refine ⟨by decide, hr', fun z hz => ⟨sz _ ?_, sz _ ?_, fun z2 => ⟨by decide, q3 x hw H (Same.refl _)⟩⟩⟩
      · show 11 + z.length ≤ 300000
        omega
      · show 11 + z.length + 9 ≤ 300000
        omega
    | none =>
      refine ⟨t, _, dx, _, .ref d, rfl, e, T.c_Tree.c, T.a_Tree_doors, rfl, _, DPut.k (k := Sum.inr (st b)) ed (by rw [dk_len]; exact sizeBig (by omega)), ?_⟩
      rw [dk_put hw]
      exact q4 hw
def sp_Tree__strike_way (K : PySem.W.Frag) : Sp := fun vs H Q E => match vs with
  | [.ref t, .str b] => ∃ (d : Addr) (L : List Way), TreeAt K H t d L ∧ OkR H (.str b) ∧ (hasW L b.cps.toList = none → ∀ H', Same H H' → E (.ref (xA K "NoWay")) none H') ∧
      (∀ x, hasW L b.cps.toList = some x → Q .non (upd H d (.dK (dk (L.filter fun x => decide (x.1 ≠ b.cps.toList))))))
  | _ => False
theorem ok_Tree__strike_way (T : Top K mg) : MCalX P w K mg base 1 "Tree" "strike_way" ["self", "beginning"] (sp_Tree__strike_way K) := by
  refine T.f_Tree__strike_way.calX sc_Tree__strike_way (by intro vs H Q E h; unfold sp_Tree__strike_way at h; split at h <;> first | rfl | exact h.elim) (fun _ _ _ _ _ _ us hl => match us, hl with | [_, _], _ => rfl) (fun f cdv A outer s H vs Q E hr h => ?_)
  unfold sp_Tree__strike_way at h
  split at h
  case h_2 => exact h.elim
  refine ⟨_, (pss_cons (ps_if (qt_dnotin (hu_of hr) (qv 1) (pe_fld (qv 0) rfl)) (pss_one (ps_raise rfl raises_fn rfl T.x_NoWay.1 T.x_NoWay.2 (pa_cons (pe_fs (pj_cons (qs [110, 111, 32, 119, 97, 121, 32, 119, 105, 116, 104, 32]) (pj_cons (pe_fmtB hr.gd hr.units0 (qv 1)) pj_nil))) pa_nil))) pss_nil)
      (pss_one (ps_expr (qe_dpop (pe_fld (qv 0) rfl) (qv 1) ⟨rfl, rfl, rfl, rfl⟩)))), ?_⟩
  rename_i t b
  obtain ⟨b, rfl⟩ : ∃ x, b = st x := ⟨_, (st_eta b).symm⟩
  simp only [st_cps] at h
  obtain ⟨d, L, ⟨⟨dx, e⟩, ed⟩, hr', q1, q2⟩ := h
  walk_at "rd"
  have sz : ∀ n : Nat, n ≤ 300000 → n ≤ sizeLine := fun n hn => Nat.le_trans hn (by decide)
  refine ⟨t, _, dx, _, .ref d, rfl, e, T.c_Tree.c, T.a_Tree_doors, rfl, _, DGet.k (k := Sum.inr (st b)) ed, ?_⟩
  rw [dk_val]
  cases hw : hasW L b with
  | none =>
    refine ⟨by decide, hr', fun z hz => ⟨sz _ ?_, fun z2 => ⟨by decide, q1 hw H (Same.refl _)⟩⟩⟩
    show 12 + z.length ≤ 300000
    omega
  | some x =>
    have hv : valV (dk L) (Sum.inr (st b)) = some (tx x) := by rw [dk_val, hw]; rfl
    refine ⟨t, _, dx, _, .ref d, rfl, e, T.c_Tree.c, T.a_Tree_doors, rfl, .inl ⟨_, .inl ed⟩, _, Sum.inr (st b), _, ed, rfl, hv, ?_⟩
    rw [dk_drop]
    exact q2 x hw
def misfitT : List Nat := [109, 105, 115, 102, 105, 116]
def twiceT : List Nat := [116, 119, 105, 99, 101]
def wayT : List Nat := [119, 97, 121]
def noneT : List Nat := [110, 111, 110, 101]
def wordsL (b0 b1 b2 : Bool) : List (List Nat) := (if b0 then [misfitT] else []) ++ (if b1 then [twiceT] else []) ++ (if b2 then [wayT] else [])
def sp__law_word (K : PySem.W.Frag) : Sp := fun vs H Q _ => match vs with
  | [.ref ea] => ∃ (c : Str) (b0 b1 b2 : Bool), H ea = some (XO (xA K c) ea) ∧ XCl K (xA K c) ∧ Xm K c "Misfit" b0 ∧ Xm K c "Twice" b1 ∧ Xm K c "NoField" false ∧ Xm K c "NoRule" false ∧ Xm K c "NoWay" b2 ∧
      Xm K c "NoDoor" false ∧ Xm K c "NoHouse" false ∧ Xm K c "NoLine" false ∧ Xm K c "BadWord" false ∧ Xm K c "Unlike" false ∧ Xv K c ∧ (wordsL b0 b1 b2).length ≤ 1 ∧ ∀ H', Same H H' → Q (tx (wordsL b0 b1 b2).flatten) H'
  | _ => False
theorem ok__law_word (T : Top K mg) : CalleeH P w K mg base 1 "_law_word" ["_law_e"] (sp__law_word K) := by
  refine T.f__law_word.calH sc__law_word (by intro vs H Q E h; unfold sp__law_word at h; split at h <;> first | rfl | exact h.elim) (fun _ _ _ _ _ _ us hl => match us, hl with | [_], _ => rfl) (fun f cdv A outer s H vs Q E hr h => ?_)
  unfold sp__law_word at h
  split at h
  case h_2 => exact h.elim
  refine ⟨_, (pss_cons (ps_set (i := 1) sc__law_word.nd rfl (by first | exact Or.inl rfl | exact Or.inr rfl) (pe_lst pa_nil))
      (pss_join (ps_if (qt_val (qe_isiX K rfl rfl rfl T.b_isinstance (qv 0) (qe_cls T.x_Misfit rfl))) (pss_one (ps_expr (qe_append (qv 1) (qs [109, 105, 115, 102, 105, 116])))) pss_nil)
      (pss_join (ps_if (qt_val (qe_isiX K rfl rfl rfl T.b_isinstance (qv 0) (qe_cls T.x_Twice rfl))) (pss_one (ps_expr (qe_append (qv 1) (qs [116, 119, 105, 99, 101])))) pss_nil)
      (pss_join (ps_if (qt_val (qe_isiX K rfl rfl rfl T.b_isinstance (qv 0) (qe_clsT T.t_NoField rfl))) (pss_one (ps_expr (qe_append (qv 1) (qs [102, 105, 101, 108, 100])))) pss_nil)
      (pss_join (ps_if (qt_val (qe_isiX K rfl rfl rfl T.b_isinstance (qv 0) (qe_clsT T.t_NoRule rfl))) (pss_one (ps_expr (qe_append (qv 1) (qs [114, 117, 108, 101])))) pss_nil)
      (pss_join (ps_if (qt_val (qe_isiX K rfl rfl rfl T.b_isinstance (qv 0) (qe_cls T.x_NoWay rfl))) (pss_one (ps_expr (qe_append (qv 1) (qs [119, 97, 121])))) pss_nil)
      (pss_join (ps_if (PW.pt (pw_or (qt_val (qe_isiXT (ds := [.ref (xA K "NoDoor"), .ref (xA K "NoHouse")]) K rfl rfl (Nat.le_of_lt (sizeBig (by simp))) rfl T.b_isinstance (qv 0) (pac_cons (qe_clsT T.t_NoDoor rfl) (pac_cons (qe_clsT T.t_NoHouse rfl) pac_nil)))) (pw_or (qt_val (qe_isiXT (ds := [.ref (xA K "NoLine"), .ref (xA K "BadWord")]) K rfl rfl (Nat.le_of_lt (sizeBig (by simp))) rfl T.b_isinstance (qv 0) (pac_cons (qe_clsT T.t_NoLine rfl) (pac_cons (qe_clsT T.t_BadWord rfl) pac_nil)))) (pw_or1 (qt_val (qe_isiX K rfl rfl rfl T.b_isinstance (qv 0) (qe_clsT T.t_Unlike rfl))))))) (pss_one (ps_expr (qe_append (qv 1) (qs [111, 116, 104, 101, 114])))) pss_nil)
      (pss_join (ps_if (pt_not (qt_val (qe_isiX K rfl rfl rfl T.b_isinstance (qv 0) (qe_ty rfl T.b_ValueError bb_ValueError)))) (pss_one (ps_expr (qe_append (qv 1) (qs [98, 97, 115, 101])))) pss_nil)
      (pss_one (ps_ret (qe_joinW K rfl (qv 1)))))))))))), ?_⟩
  rename_i ea
  obtain ⟨c, b0, b1, b2, e0, xc, m0, m1, m2, m3, m4, m5, m6, m7, m8, m9, v, hw, q⟩ := h
  walk_at "rd"
  refine ⟨by decide, fun p hp => ?_⟩
  have s0 := same_new hp (.lst [])
  have g0 : upd H p (.lst []) p = some (.lst (([] : List (List Nat)).map tx)) := upd_same
  generalize upd H p (.lst []) = H0 at s0 g0 ⊢
  refine ⟨fun σ' H' => σ' = [some (.ref ea), some (.ref p)] ∧ Same H H' ∧ H' p = some (.lst ((([] : List (List Nat)) ++ if b0 then [misfitT] else []).map tx)), ⟨_, b0, s0 _ _ e0, xc, Xn.kit m0 T.x_Misfit, ite2 (fun g => ⟨⟨_, g0⟩, _, g0, sizeBig (by simp), rfl, same_upd s0 hp, by rw [upd_same, if_pos g]; rfl⟩) fun g => ⟨rfl, s0, by rw [if_neg g]; exact g0⟩⟩, ?_⟩
  rintro σ' H1 ⟨rfl, s1, e1⟩
  walk_at "rd"
  have l1 : (([] : List (List Nat)) ++ if b0 then [misfitT] else []).length ≤ 1 := by split <;> simp
  generalize hw1 : ([] : List (List Nat)) ++ (if b0 = true then [misfitT] else []) = w1 at e1 l1 ⊢
  refine ⟨fun σ' H' => σ' = [some (.ref ea), some (.ref p)] ∧ Same H H' ∧ H' p = some (.lst ((w1 ++ if b1 then [twiceT] else []).map tx)), ⟨_, b1, s1 _ _ e0, xc, Xn.kit m1 T.x_Twice, ite2 (fun g => ⟨⟨_, e1⟩, _, e1, sizeBig (by rw [List.length_map]; omega), rfl, same_upd s1 hp, by rw [upd_same, if_pos g, List.map_append]; rfl⟩) fun g => ⟨rfl, s1, by rw [if_neg g, List.append_nil]; exact e1⟩⟩, ?_⟩
  rintro σ' H2 ⟨rfl, s2, e2⟩
  walk_at "rd"
  have l2 : (w1 ++ if b1 then [twiceT] else []).length ≤ 2 := by rw [List.length_append]; split <;> simp <;> omega
  generalize hw2 : w1 ++ (if b1 = true then [twiceT] else []) = w2 at e2 l2 ⊢
  refine ⟨fun σ' H' => σ' = [some (.ref ea), some (.ref p)] ∧ Same H H' ∧ H' p = some (.lst (w2.map tx)), ⟨_, false, s2 _ _ e0, xc, Xt.kit m2 T.t_NoField, ?_⟩, ?_⟩
  · exact ⟨rfl, s2, e2⟩
  clear s2 e2
  rintro σ' H2 ⟨rfl, s2, e2⟩
  walk_at "rd"
  refine ⟨fun σ' H' => σ' = [some (.ref ea), some (.ref p)] ∧ Same H H' ∧ H' p = some (.lst (w2.map tx)), ⟨_, false, s2 _ _ e0, xc, Xt.kit m3 T.t_NoRule, ?_⟩, ?_⟩
  · exact ⟨rfl, s2, e2⟩
  clear s2 e2
  rintro σ' H2 ⟨rfl, s2, e2⟩
  walk_at "rd"
  refine ⟨fun σ' H' => σ' = [some (.ref ea), some (.ref p)] ∧ Same H H' ∧ H' p = some (.lst ((w2 ++ if b2 then [wayT] else []).map tx)), ⟨_, b2, s2 _ _ e0, xc, Xn.kit m4 T.x_NoWay, ite2 (fun g => ⟨⟨_, e2⟩, _, e2, sizeBig (by rw [List.length_map]; omega), rfl, same_upd s2 hp, by rw [upd_same, if_pos g, List.map_append]; rfl⟩) fun g => ⟨rfl, s2, by rw [if_neg g, List.append_nil]; exact e2⟩⟩, ?_⟩
  rintro σ' H3 ⟨rfl, s3, e3⟩
  walk_at "rd"
  have hww : w2 ++ (if b2 = true then [wayT] else []) = wordsL b0 b1 b2 := by rw [← hw2, ← hw1]; rfl
  rw [hww] at e3
  refine ⟨fun σ' H' => σ' = [some (.ref ea), some (.ref p)] ∧ Same H H' ∧ H' p = some (.lst ((wordsL b0 b1 b2).map tx)), ⟨_, false, s3 _ _ e0, xc, by rw [kitAny_no (Xt.kit m5 T.t_NoDoor), kitAny_no (Xt.kit m6 T.t_NoHouse), kitAny_nil], fun p1 hp1 => ?_⟩, ?_⟩
  · walk_at "rd"
    have s4 := s3.trans (same_new hp1 (.tup [V.ref (xA K "NoDoor"), V.ref (xA K "NoHouse")]))
    have e4 := same_new hp1 (.tup [V.ref (xA K "NoDoor"), V.ref (xA K "NoHouse")]) _ _ e3
    refine ⟨_, false, s4 _ _ e0, xc, by rw [kitAny_no (Xt.kit m7 T.t_NoLine), kitAny_no (Xt.kit m8 T.t_BadWord), kitAny_nil], fun p2 hp2 => ?_⟩
    walk_at "rd"
    have s5 := s4.trans (same_new hp2 (.tup [V.ref (xA K "NoLine"), V.ref (xA K "BadWord")]))
    refine ⟨_, false, s5 _ _ e0, xc, Xt.kit m9 T.t_Unlike, ?_⟩
    walk_at "rd"
    exact ⟨s5, same_new hp2 _ _ _ e4⟩
  clear s3 e3
  rintro σ' H3 ⟨rfl, s3, e3⟩
  walk_at "rd"
  refine ⟨fun σ' H' => σ' = [some (.ref ea), some (.ref p)] ∧ Same H H' ∧ H' p = some (.lst ((wordsL b0 b1 b2).map tx)), ⟨_, true, s3 _ _ e0, xc, Xv.kit v, ?_⟩, ?_⟩
  · exact ⟨rfl, s3, e3⟩
  clear s3 e3
  rintro σ' H3 ⟨rfl, s3, e3⟩
  walk_at "rd"
  refine ⟨wordsL b0 b1 b2, SqL.of e3, hw, fun x hx => ?_, q H3 s3⟩
  unfold wordsL at hx
  simp only [List.mem_append, List.mem_ite_nil_right, List.mem_singleton] at hx
  rcases hx with (⟨_, rfl⟩ | ⟨_, rfl⟩) | ⟨_, rfl⟩ <;> decide
def sp__law_put (K : PySem.W.Frag) : Sp := fun vs H Q _ => match vs with
  | [.ref t, v, .str door] => ∃ (d : Addr) (L : List Way), TreeAt K H t d L ∧ L.length ≤ 60 ∧ Known H v ∧ OkR H v ∧
      (begOf v 48 = false → ∀ H', Same H H' → Q (tx misfitT) H') ∧
      (begOf v 48 = true → ∀ b, v = tx b → (∀ x, hasW L b = some x → ∀ H', Same H H' → Q (tx twiceT) H') ∧ (hasW L b = none → Q (tx noneT) (upd H d (.dK (dk (L ++ [(b, door.cps.toList)]))))))
  | _ => False
theorem ok__law_put (T : Top K mg) : Callee P w K mg base 5 "_law_put" ["_law_tree", "_law_beginning_here", "_law_door"] (sp__law_put K) := by
  refine T.f__law_put.cal sc__law_put (by intro vs H Q E h; unfold sp__law_put at h; split at h <;> first | rfl | exact h.elim) (fun _ _ _ _ _ _ us hl => match us, hl with | [_, _, _], _ => rfl) (fun f cdv A outer s H vs Q E hr h => ?_)
  unfold sp__law_put at h
  split at h
  case h_2 => exact h.elim
  refine ⟨_, (pss_cons (ps_set (i := 3) sc__law_put.nd rfl (by first | exact Or.inl rfl | exact Or.inr rfl) (qs [110, 111, 110, 101]))
      (pss_join (ps_tryAs (D := xA K "ThrongError") (i := 4) (fun _ _ => (pss_one (ps_expr (pe_metTr T.c_Tree (ok_Tree__put_way T) (hr.mono (by first | decide | omega)) (qv 0) (pa_cons (qv 1) (pa_cons (qv 2) pa_nil)))))) (fun _ => (pss_one (ps_set (i := 3) sc__law_put.nd rfl (by first | exact Or.inl rfl | exact Or.inr rfl) (pe_fnH (ok__law_word T) ((hr.h.mark _).mono (by first | decide | omega)) rfl (pa_cons (qv 4) pa_nil))))) rfl rfl rfl T.x_ThrongError.1 T.x_ThrongError.2 sc__law_put.nd rfl rfl)
      (pss_one (ps_ret (qv 3))))), ?_⟩
  rename_i t v door
  obtain ⟨door, rfl⟩ : ∃ x, door = st x := ⟨_, (st_eta door).symm⟩
  simp only [st_cps] at h
  obtain ⟨d, L, tr, hl, hk, hr', q1, q2⟩ := h
  obtain ⟨⟨dx, e⟩, ed⟩ := id tr
  walk_at "rd"
  refine ⟨fun σ' H' => ∃ (z : List Nat) (u : Option V), σ' = [some (.ref t), some v, some (.str (st door)), some (tx z), u] ∧ Q (tx z) H', ⟨t, dx, _, rfl, e, rfl, d, L, tr, hl, hk, hr', fun hb H2 s2 => ?_, fun hb b hv => ⟨fun x hw H2 s2 => ?_, fun hw => ?_⟩⟩, ?_⟩
  · refine ⟨_, rfl, T.m_Misfit_ThrongError.caught, fun ea hea => ?_⟩
    refine ⟨"Misfit", true, false, false, upd_same, T.x_Misfit.2, T.m_Misfit_Misfit, T.m_Misfit_Twice, T.m_Misfit_NoField, T.m_Misfit_NoRule, T.m_Misfit_NoWay, T.m_Misfit_NoDoor, T.m_Misfit_NoHouse, T.m_Misfit_NoLine, T.m_Misfit_BadWord, T.m_Misfit_Unlike, T.v_Misfit, by decide, fun H3 s3 => ⟨_, _, rfl, q1 hb H3 (s2.trans ((same_new hea _).trans s3))⟩⟩
  · refine ⟨_, rfl, T.m_Twice_ThrongError.caught, fun ea hea => ?_⟩
    refine ⟨"Twice", false, true, false, upd_same, T.x_Twice.2, T.m_Twice_Misfit, T.m_Twice_Twice, T.m_Twice_NoField, T.m_Twice_NoRule, T.m_Twice_NoWay, T.m_Twice_NoDoor, T.m_Twice_NoHouse, T.m_Twice_NoLine, T.m_Twice_BadWord, T.m_Twice_Unlike, T.v_Twice, by decide, fun H3 s3 => ⟨_, _, rfl, (q2 hb b hv).1 x hw H3 (s2.trans ((same_new hea _).trans s3))⟩⟩
  · exact ⟨noneT, _, rfl, (q2 hb b hv).2 hw⟩
  · rintro σ' H2 ⟨z, u, rfl, hq⟩
    exact hq
def sp__law_struck (K : PySem.W.Frag) : Sp := fun vs H Q _ => match vs with
  | [.ref t, .str b] => ∃ (d : Addr) (L : List Way), TreeAt K H t d L ∧ OkR H (.str b) ∧ (hasW L b.cps.toList = none → ∀ H', Same H H' → Q (tx wayT) H') ∧
      (∀ x, hasW L b.cps.toList = some x → Q (tx noneT) (upd H d (.dK (dk (L.filter fun x => decide (x.1 ≠ b.cps.toList))))))
  | _ => False
theorem ok__law_struck (T : Top K mg) : Callee P w K mg base 2 "_law_struck" ["_law_tree", "_law_beginning_here"] (sp__law_struck K) := by
  refine T.f__law_struck.cal sc__law_struck (by intro vs H Q E h; unfold sp__law_struck at h; split at h <;> first | rfl | exact h.elim) (fun _ _ _ _ _ _ us hl => match us, hl with | [_, _], _ => rfl) (fun f cdv A outer s H vs Q E hr h => ?_)
  unfold sp__law_struck at h
  split at h
  case h_2 => exact h.elim
  refine ⟨_, (pss_cons (ps_set (i := 2) sc__law_struck.nd rfl (by first | exact Or.inl rfl | exact Or.inr rfl) (qs [110, 111, 110, 101]))
      (pss_join (ps_tryAs (D := xA K "ThrongError") (i := 3) (fun _ _ => (pss_one (ps_expr (pe_metTr T.c_Tree (ok_Tree__strike_way T) (hr.mono (by first | decide | omega)) (qv 0) (pa_cons (qv 1) pa_nil))))) (fun _ => (pss_one (ps_set (i := 2) sc__law_struck.nd rfl (by first | exact Or.inl rfl | exact Or.inr rfl) (pe_fnH (ok__law_word T) ((hr.h.mark _).mono (by first | decide | omega)) rfl (pa_cons (qv 3) pa_nil))))) rfl rfl rfl T.x_ThrongError.1 T.x_ThrongError.2 sc__law_struck.nd rfl rfl)
      (pss_one (ps_ret (qv 2))))), ?_⟩
  rename_i t b
  obtain ⟨b, rfl⟩ : ∃ x, b = st x := ⟨_, (st_eta b).symm⟩
  simp only [st_cps] at h
  obtain ⟨d, L, tr, hr', q1, q2⟩ := h
  obtain ⟨⟨dx, e⟩, ed⟩ := id tr
  walk_at "rd"
  refine ⟨fun σ' H' => ∃ (z : List Nat) (u : Option V), σ' = [some (.ref t), some (.str (st b)), some (tx z), u] ∧ Q (tx z) H', ⟨t, dx, _, rfl, e, rfl, d, L, tr, hr', fun hw H2 s2 => ?_, fun x hw => ?_⟩, ?_⟩
  · refine ⟨_, rfl, T.m_NoWay_ThrongError.caught, fun ea hea => ?_⟩
    refine ⟨"NoWay", false, false, true, upd_same, T.x_NoWay.2, T.m_NoWay_Misfit, T.m_NoWay_Twice, T.m_NoWay_NoField, T.m_NoWay_NoRule, T.m_NoWay_NoWay, T.m_NoWay_NoDoor, T.m_NoWay_NoHouse, T.m_NoWay_NoLine, T.m_NoWay_BadWord, T.m_NoWay_Unlike, T.v_NoWay, by decide, fun H3 s3 => ⟨_, _, rfl, q1 hw H3 (s2.trans ((same_new hea _).trans s3))⟩⟩
  · exact ⟨noneT, _, rfl, q2 x hw⟩
  · rintro σ' H2 ⟨z, u, rfl, hq⟩
    exact hq
def sp__law_told (K : PySem.W.Frag) : Sp := fun vs H Q _ => match vs with
  | [.ref t, .ref k] => ∃ (d : Addr) (L M : List Way), TreeAt K H t d L ∧ H k = some (.dK (dk M)) ∧ (L.map (·.1)).Nodup ∧ L.length < 64 ∧ (∀ x ∈ L, x.1.length ≤ 1000) ∧ (M.map (·.1)).Nodup ∧ M.length < 64 ∧ (∀ z, hasW L z = hasW M z) ∧ ∀ H', Same H H' → Q (.bl true) H'
  | _ => False
theorem ok__law_told (T : Top K mg) : Callee P w K mg base 3 "_law_told" ["_law_tree", "_law_known"] (sp__law_told K) := by
  refine T.f__law_told.cal sc__law_told (by intro vs H Q E h; unfold sp__law_told at h; split at h <;> first | rfl | exact h.elim) (fun _ _ _ _ _ _ us hl => match us, hl with | [_, _], _ => rfl) (fun f cdv A outer s H vs Q E hr h => ?_)
  unfold sp__law_told at h
  split at h
  case h_2 => exact h.elim
  refine ⟨_, (pss_one (ps_ret (qe_cmp (eqDE K rfl hr) (pe_metT0 T.c_Tree (ok_Tree__told_ways T) (hr.mono (by first | decide | omega)) (qv 0)) (qe_comp (nt := 1) (fi := [1]) (N' := ["_law_own", "_law_known"]) rfl (cscope rfl (by decide +kernel)) (cnames (N := ["_law_tree", "_law_known"]) (sc := defScope s__law_told) rfl rfl (by decide +kernel)) (gk_name (by decide)) (iterE K rfl (pe_callB (call_sortedD rfl) rfl T.b_sorted bb_sorted (pa_cons (qv 1) pa_nil))) (fun _ _ _ _ _ => (pg_name (i := 0) (by show (["_law_own", "_law_known"] : List Str).Nodup; decide +kernel) rfl (by first | exact Or.inl rfl | exact Or.inr rfl))) (fun _ _ _ _ _ => pif_nil) (fun _ _ _ _ _ => (pe_tup (pa_cons (qv 0) (pa_cons (qe_dget (hu_of hr) (qv 1) (qv 0) (fun _ _ => rfl)) pa_nil)))))))), ?_⟩
  rename_i t k
  obtain ⟨d, L, M, tr, ek, ndL, hlL, hk, nd, hl, hLM, q⟩ := h
  obtain ⟨⟨dx, e⟩, ed⟩ := id tr
  walk_at "rd"
  refine ⟨t, dx, _, rfl, e, rfl, d, L, tr, ndL, hlL, hk, fun p H1 vs hp s1 e1 pr1 => ?_⟩
  have ek1 := s1 _ _ ek
  refine ⟨dk M, M.map (·.1), ek1, dk_keys M, nd, by rw [List.length_map]; exact hl, fun p2 hp2 => .inl ⟨⟨_, SqL.of upd_same⟩, fun D hD => ?_⟩⟩
  have ln : (srt (M.map (·.1))).length ≤ 64 := by
    have := srt_len (M.map (·.1))
    rw [List.length_map] at this
    omega
  refine comp_rel (item := tx) (xs := srt (M.map (·.1))) (keep := fun k => decide (k.take ([] : List Nat).length = [])) (R := fun k v H' => WayAt H' (k, (hasW M k).getD []) v) hD (SqL.of upd_same) (by omega) ?_ ?_ ?_
  · rintro x v H1 H2 acc hd k ⟨t, e, r⟩
    exact ⟨t, e, k _ _ (fun z => by subst z; rw [hd] at r; cases r) r⟩
  · intro x H2 out non hx s2 ho hno
    obtain ⟨y, hy, rfl⟩ := List.mem_map.mp (srt_mem.mp hx)
    have hh := hasW_of nd hy
    have ek2 := s2 _ _ (same_new hp2 _ _ _ ek1)
    walk_at "rd"
    refine ⟨tx y.2, ?_, by decide, fun p' hp' => ho _ _ rfl (same_new hp' _) ⟨p', rfl, ?_⟩⟩
    · have gg := DGet.k (k := Sum.inr (st y.1)) ek2
      rw [dk_val, hh] at gg
      exact gg
    · rw [hh, upd_same]
      rfl
  · intro H2 vs2 s2 e2 pr2
    have s12 := (same_new hp2 _).trans s2
    have pr3 : Paired (WayAt H2) (belowL L []) vs2 := by
      rw [below_same ndL nd hLM]
      unfold belowL
      exact paired_mapl pr2
    have eqd : eqD (.l ((belowL L []).map wayD)) (.l ((belowL L []).map wayD)) = true := by rw [eqD]; exact eqDs_refl_way _
    walk_at "rd"
    refine ⟨2, _, _, by decide, ways_deep ⟨vs, s12 _ _ e1, ways_keep (fun t us z => s12 _ _ z) pr1⟩, ways_deep ⟨vs2, e2, pr3⟩, ?_⟩
    rw [eqd]
    exact q H2 (s1.trans s12)
theorem tx_inj {a b : List Nat} (h : tx a = tx b) : a = b := by
  have := V.str.inj h
  exact st_inj.mp this
def sp__law_bad (K : PySem.W.Frag) : Sp := fun vs H Q _ => match vs with
  | [.int c] => ∀ v H', Known H' v → OkR H' v → begOf v 48 = false → (∀ l, v = tx l → l.length ≤ 100 ∧ ¬ (IsLet l ∧ l.length ≤ 48)) → Same H H' → Q v H'
  | _ => False
theorem ok__law_bad (T : Top K mg) : Callee P w K mg base 2 "_law_bad" ["_law_cell"] (sp__law_bad K) := by
  refine T.f__law_bad.cal sc__law_bad (by intro vs H Q E h; unfold sp__law_bad at h; split at h <;> first | rfl | exact h.elim) (fun _ _ _ _ _ _ us hl => match us, hl with | [_], _ => rfl) (fun f cdv A outer s H vs Q E hr h => ?_)
  unfold sp__law_bad at h
  split at h
  case h_2 => exact h.elim
  refine ⟨_, (pss_cons (ps_set (i := 1) sc__law_bad.nd rfl (by first | exact Or.inl rfl | exact Or.inr rfl) (pe_op op_addK pe_int (pe_op op_modK (pe_op op_fdivK (qv 0) pe_int) pe_int)))
      (pss_cons (ps_set (i := 2) sc__law_bad.nd rfl (by first | exact Or.inl rfl | exact Or.inr rfl) (joinE K rfl (qe_comp (nt := 1) (fi := []) (N' := ["_law_number"]) rfl (cscope rfl (by decide +kernel)) (cnames (N := ["_law_cell", "_law_size", "_law_signs", "_law_at"]) (sc := defScope s__law_bad) rfl rfl (by decide +kernel)) (gk_name (by decide)) (iterE K rfl (pe_fn (ok__law_stream T) (hr.mono (by first | decide | omega)) rfl (pa_cons (pe_op op_fdivK (qv 0) pe_int) (pa_cons (qv 1) pa_nil)))) (fun _ _ _ _ _ => (pg_name (i := 0) (by show (["_law_number"] : List Str).Nodup; decide +kernel) rfl (by first | exact Or.inl rfl | exact Or.inr rfl))) (fun _ _ _ _ _ => pif_nil) (fun _ _ _ _ _ => (pe_ix (ixE K rfl) (qs [48, 49]) (pe_op op_modK (pe_op op_fdivK (qv 0) pe_int) pe_int) (fun _ _ => rfl))))))
      (pss_cons (ps_if (qt_cmp op_eqK (pe_op op_modK (qv 0) pe_int) pe_int) (pss_cons (ps_set (i := 3) sc__law_bad.nd rfl (by first | exact Or.inl rfl | exact Or.inr rfl) (pe_op op_modK (pe_op op_fdivK (qv 0) pe_int) (qv 1)))
      (pss_one (ps_ret (pe_op op_addK (pe_op op_addK (pe_slice (slE K rfl) (qv 2) po_none (qo_some (qv 3))) (pe_ix (ixE K rfl) (pe_lst (pa_cons (qs [45]) (pa_cons (qs [50]) (pa_cons (qs [32]) (pa_cons (qs [10]) (pa_cons (qs [97]) (pa_cons (qs [79]) pa_nil))))))) (pe_op op_modK (pe_op op_fdivK (qv 0) pe_int) pe_int) (fun _ _ => rfl))) (pe_slice (slE K rfl) (qv 2) (qo_some (pe_op op_addK (qv 3) pe_int)) po_none))))) pss_nil)
      (pss_cons (ps_if (qt_cmp op_eqK (pe_op op_modK (qv 0) pe_int) pe_int) (pss_one (ps_ret (pe_slice (slE K rfl) (pe_op op_mulT (qv 2) pe_int) po_none (qo_some (pe_op op_addK pe_int (pe_op op_modK (pe_op op_fdivK (qv 0) pe_int) pe_int)))))) pss_nil)
      (@pss_one _ _ _ (@ps_ret _ _ _ _ (@pe_ix _ _ _ _ _ _ _ (ixE K rfl) (@pe_lst _ _ _ _ (@pa_cons _ _ _ _ _ pe_non (@pa_cons _ _ _ _ _ pe_bl (@pa_cons _ _ _ _ _ pe_int (@pa_cons _ _ _ _ _ pe_int (@pa_cons _ _ _ _ _ pe_int (@pa_cons _ _ _ _ _ (@pe_lst _ _ _ _ (@pa_cons _ _ _ _ _ (qs [48]) (@pa_cons _ _ _ _ _ (qs [49]) (@pa_nil _) (by rfl)) (by rfl))) (@pa_cons _ _ _ _ _ (@pe_tup _ _ _ _ _ (@pa_cons _ _ _ _ _ (qs [48]) (@pa_cons _ _ _ _ _ (qs [49]) (@pa_nil _) (by rfl)) (by rfl))) (@pa_cons _ _ _ _ _ (@pe_lst _ _ _ _ (@pa_nil _)) (@pa_nil _) (by rfl)) (by rfl)) (by rfl)) (by rfl)) (by rfl)) (by rfl)) (by rfl)) (by rfl))) (pe_op op_modK (pe_op op_fdivK (qv 0) pe_int) pe_int) (fun _ _ => rfl)))))))), ?_⟩
  rename_i c
  walk_at "rd"
  have hz0 : 0 ≤ c / 3 % 12 := Int.emod_nonneg _ (by decide)
  have hz1 : c / 3 % 12 < 12 := Int.emod_lt_of_pos _ (by decide)
  refine ⟨by omega, by omega, fun p H1 hp s1 e1 => .inl ⟨⟨_, SqL.of e1⟩, fun D hD => ?_⟩⟩
  refine comp_list (item := V.int) (xs := stream (c / 36) (1 + c / 3 % 12).toNat) (h := fun e => [sgn (bit (e / 4))]) hD (SqL.of e1) (by rw [stream_len]; omega) (fun _ => by simp) ?_ ?_
  · intro e H3 out non he s3 ho hn'
    walk_at "rd"
    exact ⟨_, at01 _, ho _ _ rfl (Same.refl _)⟩
  intro H2 s2 e2
  obtain ⟨B, hBl, hBs, e2⟩ : ∃ B : List Nat, (B.length : Int) = 1 + c / 3 % 12 ∧ IsLet B ∧ H2 D = some (.lst (B.map sgn)) := by
    refine ⟨(stream (c / 36) (1 + c / 3 % 12).toNat).map fun e => bit (e / 4), by rw [List.length_map, stream_len]; omega, fun x hx => ?_, ?_⟩
    · obtain ⟨e, _, rfl⟩ := List.mem_map.mp hx
      exact bit_or _
    · rw [e2, flat_one' (fun e => sgn (bit (e / 4))), List.map_map]
      rfl
  have s02 := s1.trans s2
  have hBc : ∀ x ∈ B, x < 16 ^ 8 := fun x hx => by rcases hBs x hx with z | z <;> rw [z] <;> decide
  refine ⟨B, SqL.of e2, by omega, ite2 (fun g1 => ?_) fun g1 => ite2 (fun g2 => ?_) fun g2 => ?_⟩
  · have a0 : 0 ≤ c / 36 % (1 + c / 3 % 12) := Int.emod_nonneg _ (by omega)
    have a1 : c / 36 % (1 + c / 3 % 12) < 1 + c / 3 % 12 := Int.emod_lt_of_pos _ (by omega)
    obtain ⟨j, hj⟩ : ∃ j : Nat, c / 36 % (1 + c / 3 % 12) = j := ⟨(c / 36 % (1 + c / 3 % 12)).toNat, by omega⟩
    rw [hj] at a0 a1 ⊢
    have hjB : j < B.length := by omega
    refine ⟨by omega, by omega, by omega, by omega, by decide, fun q hq => ?_⟩
    obtain ⟨x, hx, hx1, hx2⟩ : ∃ x : Nat, atI [V.str (st [45]), V.str (st [50]), V.str (st [32]), V.str (st [10]), V.str (st [97]), V.str (st [79])] (c / 5 % 6) = some (V.str (st [x])) ∧ x < 100 ∧ ¬ (x = 48 ∨ x = 49) := by
      obtain ⟨i, hi⟩ : ∃ i : Nat, c / 5 % 6 = i := ⟨(c / 5 % 6).toNat, by omega⟩
      have : i < 6 := by omega
      rw [hi]
      have : i = 0 ∨ i = 1 ∨ i = 2 ∨ i = 3 ∨ i = 4 ∨ i = 5 := by omega
      rcases this with rfl | rfl | rfl | rfl | rfl | rfl
      · exact ⟨45, rfl, by decide, by decide⟩
      · exact ⟨50, rfl, by decide, by decide⟩
      · exact ⟨32, rfl, by decide, by decide⟩
      · exact ⟨10, rfl, by decide, by decide⟩
      · exact ⟨97, rfl, by decide, by decide⟩
      · exact ⟨79, rfl, by decide, by decide⟩
    refine ⟨_, _, .inl (SqL.of upd_same), hx, ?_⟩
    walk_at "rd"
    have et : ((j : Int)).toNat = j := by omega
    have et1 : ((j : Int) + 1).toNat = j + 1 := by omega
    rw [et, et1]
    have hln : (B.take j ++ [x] ++ B.drop (j + 1)).length = B.length := by
      simp only [List.length_append, List.length_take, List.length_drop, List.length_singleton]
      omega
    have hxm : x ∈ B.take j ++ [x] ++ B.drop (j + 1) := List.mem_append_left _ (List.mem_append_right _ List.mem_cons_self)
    have hcs : ∀ y ∈ B.take j ++ [x] ++ B.drop (j + 1), y < 16 ^ 8 := fun y hy => by
      rcases List.mem_append.mp hy with hy | hy
      · rcases List.mem_append.mp hy with hy | hy
        · exact hBc y (List.mem_of_mem_take hy)
        · rw [List.mem_singleton.mp hy]
          exact Nat.lt_trans hx1 (by decide)
      · exact hBc y (List.mem_of_mem_drop hy)
    have hl1 : (B.take j ++ [x]).length + (B.drop (j + 1)).length ≤ 100000 := by
      rw [← List.length_append, hln]
      omega
    refine ⟨by rw [List.length_take]; omega, by omega, by omega, by omega, hl1, ?_⟩
    generalize B.take j ++ [x] ++ B.drop (j + 1) = Z at hln hxm hcs
    refine h (tx Z) _ (show Z.length ≤ 1000 by omega) ⟨hcs, show Z.length ≤ 10000 by omega⟩ ?_ (fun l hl => ?_) (s02.trans (same_new hq _))
    · simp only [begOf, st_cps]
      rw [Bool.and_eq_false_iff]
      refine .inr (Bool.eq_false_iff.mpr fun z => ?_)
      have := List.all_eq_true.mp z x hxm
      simp at this
      exact hx2 this
    · obtain rfl : Z = l := tx_inj hl
      exact ⟨by omega, fun z => hx2 (z.1 x hxm)⟩
  · walk_at "rd"
    refine ⟨by omega, by omega, fun Z hZ hm => ?_⟩
    refine ⟨by omega, by omega, by omega, ?_⟩
    obtain ⟨n, hn⟩ : ∃ n : Nat, 49 + c / 3 % 12 = n := ⟨(49 + c / 3 % 12).toNat, by omega⟩
    rw [hn, Int.toNat_natCast]
    have hl : (Z.take n).length = n := by rw [List.length_take]; omega
    have hcs : ∀ y ∈ Z.take n, y < 16 ^ 8 := fun y hy => hBc y (hm y (List.mem_of_mem_take hy))
    generalize Z.take n = Y at hl hcs
    refine h (tx Y) _ (show Y.length ≤ 1000 by omega) ⟨hcs, show Y.length ≤ 10000 by omega⟩ ?_ (fun l hl' => ?_) s02
    · simp only [begOf, st_cps]
      rw [Bool.and_eq_false_iff]
      exact .inl (decide_eq_false (by omega))
    · obtain rfl : Y = l := tx_inj hl'
      exact ⟨by omega, fun z => by have := z.2; omega⟩
  · walk_at "rd"
    refine ⟨by decide, fun p1 hp1 => ⟨by decide, fun p2 hp2 => ⟨by decide, fun p3 hp3 => ⟨by decide, fun p4 hp4 => ?_⟩⟩⟩⟩
    have sa := same_new hp1 (.lst [V.str (st [48]), V.str (st [49])])
    have sb := same_new hp2 (.tup [V.str (st [48]), V.str (st [49])])
    have sc := same_new hp3 (.lst [])
    have sd := same_new hp4 (.lst [V.non, V.bl true, V.int 0, V.int 1, V.int 101, V.ref p1, V.ref p2, V.ref p3])
    have e1 := ((sb.trans sc).trans sd) _ _ (upd_same : upd H2 p1 (.lst [V.str (st [48]), V.str (st [49])]) p1 = _)
    have e2' := (sc.trans sd) _ _ (upd_same : upd (upd H2 p1 (.lst [V.str (st [48]), V.str (st [49])])) p2 (.tup [V.str (st [48]), V.str (st [49])]) p2 = _)
    have e3 := sd _ _ (upd_same : upd (upd (upd H2 p1 (.lst [V.str (st [48]), V.str (st [49])])) p2 (.tup [V.str (st [48]), V.str (st [49])])) p3 (.lst []) p3 = _)
    have e4 := (upd_same : upd (upd (upd (upd H2 p1 (.lst [V.str (st [48]), V.str (st [49])])) p2 (.tup [V.str (st [48]), V.str (st [49])])) p3 (.lst [])) p4 (.lst [V.non, V.bl true, V.int 0, V.int 1, V.int 101, V.ref p1, V.ref p2, V.ref p3]) p4 = _)
    have S := s02.trans (((sa.trans sb).trans sc).trans sd)
    generalize upd (upd (upd (upd H2 p1 (.lst [V.str (st [48]), V.str (st [49])])) p2 (.tup [V.str (st [48]), V.str (st [49])])) p3 (.lst [])) p4 (.lst [V.non, V.bl true, V.int 0, V.int 1, V.int 101, V.ref p1, V.ref p2, V.ref p3]) = H9 at e1 e2' e3 e4 S ⊢
    clear sa sb sc sd hp1 hp2 hp3 hp4
    obtain ⟨i, hi⟩ : ∃ i : Nat, c / 3 % 8 = i := ⟨(c / 3 % 8).toNat, by omega⟩
    have : i < 8 := by omega
    rw [hi]
    have fin : ∀ v, Known H9 v → OkR H9 v → begOf v 48 = false → (∀ l, v ≠ tx l) → Q v H9 := fun v h1 h2 h3 h4 => h v H9 h1 h2 h3 (fun l hl => absurd hl (h4 l)) S
    have few2 : Few [[48], [49]] := ⟨by decide, by decide⟩
    have few0 : Few [] := ⟨by decide, fun x hx => absurd hx List.not_mem_nil⟩
    have : i = 0 ∨ i = 1 ∨ i = 2 ∨ i = 3 ∨ i = 4 ∨ i = 5 ∨ i = 6 ∨ i = 7 := by omega
    rcases this with rfl | rfl | rfl | rfl | rfl | rfl | rfl | rfl
    · exact ⟨_, _, .inl (SqL.of e4), rfl, fin _ trivial trivial rfl (fun l z => nomatch z)⟩
    · exact ⟨_, _, .inl (SqL.of e4), rfl, fin _ trivial trivial rfl (fun l z => nomatch z)⟩
    · exact ⟨_, _, .inl (SqL.of e4), rfl, fin _ trivial (.inl rfl) rfl (fun l z => nomatch z)⟩
    · exact ⟨_, _, .inl (SqL.of e4), rfl, fin _ trivial (.inr (.inl rfl)) rfl (fun l z => nomatch z)⟩
    · exact ⟨_, _, .inl (SqL.of e4), rfl, fin _ trivial (.inr (.inr rfl)) rfl (fun l z => nomatch z)⟩
    · exact ⟨_, _, .inl (SqL.of e4), rfl, fin _ (.inl ⟨_, e1⟩) ⟨_, few2, .inl e1⟩ rfl (fun l z => nomatch z)⟩
    · exact ⟨_, _, .inl (SqL.of e4), rfl, fin _ (.inr ⟨_, e2'⟩) ⟨_, few2, .inr e2'⟩ rfl (fun l z => nomatch z)⟩
    · exact ⟨_, _, .inl (SqL.of e4), rfl, fin _ (.inl ⟨_, e3⟩) ⟨_, few0, .inl e3⟩ rfl (fun l z => nomatch z)⟩
structure S1 (K : PySem.W.Frag) (H : Hp) (t d k da : Addr) (dl : List (List Nat)) (L M : List Way) : Prop where
  tr : TreeAt K H t d L
  kn : H k = some (.dK (dk M))
  ne : d ≠ k
  ds : H da = some (.lst (dl.map tx))
  nl : (L.map (·.1)).Nodup
  nm : (M.map (·.1)).Nodup
  lm : ∀ z, hasW L z = hasW M z
  sh : ∀ z x, hasW L z = some x → IsLet z ∧ z.length ≤ 48
theorem S1.same {K : PySem.W.Frag} {H H' : Hp} {t d k da : Addr} {dl : List (List Nat)} {L M : List Way} (s : S1 K H t d k da dl L M) (h : Same H H') : S1 K H' t d k da dl L M :=
  ⟨s.tr.same h, h _ _ s.kn, s.ne, h _ _ s.ds, s.nl, s.nm, s.lm, s.sh⟩
theorem S1.short {K : PySem.W.Frag} {H : Hp} {t d k da : Addr} {dl : List (List Nat)} {L M : List Way} (s : S1 K H t d k da dl L M) : ∀ x ∈ L, x.1.length ≤ 1000 := fun x hx => by
  have := (s.sh x.1 x.2 (hasW_of s.nl hx)).2
  omega
theorem told_of {K : PySem.W.Frag} {H : Hp} {t d k da : Addr} {dl : List (List Nat)} {L M : List Way} {Q : VK} {E : XK} (s : S1 K H t d k da dl L M) (h1 : L.length < 64) (h2 : M.length < 64) (q : ∀ H', Same H H' → Q (.bl true) H') : sp__law_told K [.ref t, .ref k] H Q E :=
  ⟨d, L, M, s.tr, s.kn, s.nl, h1, s.short, s.nm, h2, s.lm, q⟩
theorem upd_lst {H : Hp} {d : Addr} {kvs kws : List (Key × V)} (e : H d = some (.dK kvs)) {b : Addr} {o : HO} (h : H b = some o) (n : ∀ x, o ≠ .dK x) : upd H d (.dK kws) b = some o := by
  rw [upd_ne (fun z => by rw [z, e] at h; exact n _ (Option.some.inj h).symm)]
  exact h
theorem S1.tree {K : PySem.W.Frag} {H : Hp} {t d k da : Addr} {dl : List (List Nat)} {L M : List Way} (s : S1 K H t d k da dl L M) (L' : List Way) : TreeAt K (upd H d (.dK (dk L'))) t d L' ∧ upd H d (.dK (dk L')) k = some (.dK (dk M)) ∧ upd H d (.dK (dk L')) da = some (.lst (dl.map tx)) :=
  ⟨⟨let ⟨dx, e⟩ := s.tr.tr; ⟨dx, upd_lst s.tr.ds e (fun _ z => nomatch z)⟩, upd_same⟩, by rw [upd_ne (Ne.symm s.ne)]; exact s.kn, upd_lst s.tr.ds s.ds (fun _ z => nomatch z)⟩
theorem S1.out {K : PySem.W.Frag} {H : Hp} {t d k da : Addr} {dl : List (List Nat)} {L M : List Way} (s : S1 K H t d k da dl L M) {l : List Nat} (h : ¬ (IsLet l ∧ l.length ≤ 48)) : hasW L l = none := by
  cases e : hasW L l with
  | none => rfl
  | some x => exact absurd (s.sh l x e) h
theorem let_ok {H : Hp} {b : List Nat} (h : IsLet b) (hl : b.length ≤ 48) : Known H (tx b) ∧ OkR H (tx b) ∧ begOf (tx b) 48 = true := by
  refine ⟨show b.length ≤ 1000 by omega, ⟨fun c hc => ?_, show b.length ≤ 10000 by omega⟩, ?_⟩
  · rcases h c hc with z | z <;> rw [z] <;> decide
  · simp only [begOf, st_cps, Bool.and_eq_true, decide_eq_true_eq, List.all_eq_true]
    exact ⟨by omega, fun c hc => by rcases h c hc with z | z <;> simp [z]⟩
theorem cut8 (ns : List Int) : ∃ cs : List Int, cutV (ns.map V.int) (some 4) (some 12) = cs.map V.int ∧ cs.length ≤ 8 := by
  refine ⟨_, by unfold cutV; rw [← List.map_drop, ← List.map_take], ?_⟩
  rw [List.length_take]
  have h1 : ∀ n, HT.sIx n n (some 12) - HT.sIx n 0 (some 4) ≤ 8 := fun n => by
    have a : HT.sIx n n (some 12) = min 12 n := HT.sIx_nat n n 12
    have b : HT.sIx n 0 (some 4) = min 4 n := HT.sIx_nat n 0 4
    rw [a, b]
    omega
  have := h1 (ns.map V.int).length
  omega
theorem sq_upd {K : PySem.W.Frag} {H : Hp} {a d : Addr} {xs : List V} {kvs kws : List (Key × V)} (e : H d = some (.dK kvs)) (h : SqL K H a xs) : SqL K (upd H d (.dK kws)) a xs := by
  rcases h with (h | ⟨o, h⟩) | h
  · exact .inl (.inl (upd_lst e h (fun _ z => nomatch z)))
  · exact .inl (.inr ⟨o, upd_lst e h (fun _ z => nomatch z)⟩)
  · exact .inr h
theorem S1.known {K : PySem.W.Frag} {H : Hp} {t d k da a sl : Addr} {dl : List (List Nat)} {L M M' : List Way} {xs ys : List V} (s : S1 K H t d k da dl L M) (e : H sl = some (.lst ys)) (h : SqL K H a xs) :
    (TreeAt K (upd H k (.dK (dk M'))) t d L ∧ upd H k (.dK (dk M')) k = some (.dK (dk M')) ∧ upd H k (.dK (dk M')) da = some (.lst (dl.map tx))) ∧ upd H k (.dK (dk M')) sl = some (.lst ys) ∧ SqL K (upd H k (.dK (dk M'))) a xs :=
  ⟨⟨⟨let ⟨dx, q⟩ := s.tr.tr; ⟨dx, upd_lst s.kn q (fun _ z => nomatch z)⟩, by rw [upd_ne s.ne]; exact s.tr.ds⟩, upd_same, upd_lst s.kn s.ds (fun _ z => nomatch z)⟩, upd_lst s.kn e (fun _ z => nomatch z), sq_upd s.kn h⟩
theorem nodup_snoc {L : List Way} {b v : List Nat} (nd : (L.map (·.1)).Nodup) (h : hasW L b = none) : ((L ++ [(b, v)]).map (·.1)).Nodup := by
  rw [List.map_append, List.nodup_append]
  refine ⟨nd, by simp, fun x hx y hy => ?_⟩
  have hy : y = b := by simpa using hy
  rw [hy]
  exact fun z => hasW_none.mp h (z ▸ hx)
theorem okr_same {H H' : Hp} {v : V} (h : OkR H v) (s : Same H H') : OkR H' v := by
  cases v <;> try exact h
  obtain ⟨ls, f, g | g⟩ := h
  · exact ⟨ls, f, .inl (s _ _ g)⟩
  · exact ⟨ls, f, .inr (s _ _ g)⟩
def othN (σ : St) : Nat := match (σ[7]? : Option (Option V)) with
  | some (some (.str z)) => 50 - z.cps.toList.length
  | _ => 0
theorem mono_din {neg : Bool} {i j : Nat} (σ : St) (H : Hp) (Q Q' : Bool → Hp → Prop) (hq : ∀ b H1, Q b H1 → Q' b H1) (h : cTest (cDIn neg (cVar i) (cVar j)) σ H Q) : cTest (cDIn neg (cVar i) (cVar j)) σ H Q' := by
  simp only [cTest, cDIn, cVar] at h ⊢
  split at h
  · split at h
    · split at h
      · obtain ⟨v, g, z⟩ := h
        exact ⟨v, g, hq _ _ z⟩
      · exact h.elim
    · exact h.elim
  · exact h.elim
theorem cut_txts (l : List (List Nat)) (lo hi : Option Int) : ∃ ks : List (List Nat), cutV (l.map fun x => V.str (st x)) lo hi = ks.map tx ∧ (∀ x ∈ ks, x ∈ l) ∧ ks.length ≤ l.length := by
  have h := cutV_length (l.map fun x => V.str (st x)) lo hi
  rw [List.length_map] at h
  unfold cutV at h ⊢
  rw [← List.map_drop, ← List.map_take] at h ⊢
  exact ⟨_, rfl, fun x hx => List.mem_of_mem_drop (List.mem_of_mem_take hx), by rw [List.length_map] at h; exact h⟩
def sp_law (K : PySem.W.Frag) : Sp := fun vs H Q _ => match vs with
  | [.ref a] => ∃ ns : List Int, SqL K H a (ns.map V.int) ∧ ns.length ≤ 63 ∧ ∀ H', Q (.bl true) H'
  | _ => False
theorem ok_law (T : Top K mg) {f : Addr} {fd : FuncData} (F : Fun K "law" "law" s_law f fd) : FnOk P w K mg base CX0 6 f fd ["_law_script"] (sp_law K) := by
  refine F.ok sc_law (by intro vs H Q E h; unfold sp_law at h; split at h <;> first | rfl | exact h.elim) (fun cdv A outer s H vs Q E hr h => ?_)
  unfold sp_law at h
  split at h
  case h_2 => exact h.elim
  refine ⟨_, (pss_cons (ps_set (i := 1) sc_law.nd rfl (by first | exact Or.inl rfl | exact Or.inr rfl) (pe_fn (ok__law_names T) (hr.mono (by first | decide | omega)) rfl (pa_cons (pe_fn (ok__law_cell_at T) (hr.mono (by first | decide | omega)) rfl (pa_cons (qv 0) (pa_cons pe_int pa_nil))) (pa_cons pe_int pa_nil))))
      (pss_cons (ps_set (i := 2) sc_law.nd rfl (by first | exact Or.inl rfl | exact Or.inr rfl) (pe_mkT T.c_Tree (ok_Tree____init__ T) (hr.mono (by first | decide | omega)) rfl))
      (pss_cons (ps_set (i := 3) sc_law.nd rfl (by first | exact Or.inl rfl | exact Or.inr rfl) pe_dnewK)
      (pss_cons (qs_for PassesOwn.never rfl (iterE K rfl (pe_slice (slE K rfl) (qv 0) (qo_some pe_int) (qo_some pe_int))) (pg_name (i := 4) sc_law.nd rfl (by first | exact Or.inl rfl | exact Or.inr rfl)) (pss_cons (ps_set (i := 5) sc_law.nd rfl (by first | exact Or.inl rfl | exact Or.inr rfl) (pe_fn (ok__law_beginning T) (hr.mono (by first | decide | omega)) rfl (pa_cons (qv 4) pa_nil)))
      (pss_one (ps_if (qt_dnotin (hu_of hr) (qv 5) (qv 3)) (pss_cons (qs_dput (hu_of hr) (qv 3) (qv 5) (pe_ix (ixE K rfl) (qv 1) (pe_op op_modK (pe_op op_fdivK (qv 4) pe_int) pe_int) (fun _ _ => rfl)))
      (pss_one (ps_expr (pe_metT T.c_Tree (ok_Tree__put_way T).calm (hr.mono (by first | decide | omega)) (qv 2) (pa_cons (qv 5) (pa_cons (qe_dget (hu_of hr) (qv 3) (qv 5) (fun _ _ => rfl)) pa_nil)))))) pss_nil))))
      (pss_cons (ps_set (i := 6) sc_law.nd rfl (by first | exact Or.inl rfl | exact Or.inr rfl) (pe_fn (ok__law_bad T) (hr.mono (by first | decide | omega)) rfl (pa_cons (pe_fn (ok__law_cell_at T) (hr.mono (by first | decide | omega)) rfl (pa_cons (qv 0) (pa_cons pe_int pa_nil))) pa_nil)))
      (pss_cons (ps_set (i := 7) sc_law.nd rfl (by first | exact Or.inl rfl | exact Or.inr rfl) (pe_fn (ok__law_beginning T) (hr.mono (by first | decide | omega)) rfl (pa_cons (pe_fn (ok__law_cell_at T) (hr.mono (by first | decide | omega)) rfl (pa_cons (qv 0) (pa_cons pe_int pa_nil))) pa_nil)))
      (pss_cons (ps_while PassesOwn.never (qt_din (hu_of hr) (qv 7) (qv 3)) (pss_one (ps_set (i := 7) sc_law.nd rfl (by first | exact Or.inl rfl | exact Or.inr rfl) (pe_op op_addK (qv 7) (qs [48])))))
      (pss_join (ps_if (PW.pt (pw_or (qt_cmp op_neK (pe_fn (ok__law_put T) (hr.mono (by first | decide | omega)) rfl (pa_cons (qv 2) (pa_cons (qv 6) (pa_cons (pe_ix (ixE K rfl) (qv 1) pe_int (fun _ _ => rfl)) pa_nil)))) (qs [109, 105, 115, 102, 105, 116])) (pw_or1 (pt_not (qt_val (pe_fn (ok__law_told T) (hr.mono (by first | decide | omega)) rfl (pa_cons (qv 2) (pa_cons (qv 3) pa_nil)))))))) (pss_one (ps_ret pe_bl)) pss_nil)
      (pss_join (ps_if (PW.pt (pw_and (qt_val (qe_isinst .str rfl T.b_isinstance (qv 6) rfl T.b_str bb_str)) (pw_and1 (PW.pt (pw_or (qt_cmp op_neK (pe_fn (ok__law_struck T) (hr.mono (by first | decide | omega)) rfl (pa_cons (qv 2) (pa_cons (qv 6) pa_nil))) (qs [119, 97, 121])) (pw_or1 (pt_not (qt_val (pe_fn (ok__law_told T) (hr.mono (by first | decide | omega)) rfl (pa_cons (qv 2) (pa_cons (qv 3) pa_nil))))))))))) (pss_one (ps_ret pe_bl)) pss_nil)
      (pss_join (ps_if (PW.pt (pw_and (qt_cmp op_leK (pe_callB (lenE K rfl) rfl T.b_len bb_len (pa_cons (qv 7) pa_nil)) pe_int) (pw_and1 (PW.pt (pw_or (qt_cmp op_neK (pe_fn (ok__law_struck T) (hr.mono (by first | decide | omega)) rfl (pa_cons (qv 2) (pa_cons (qv 7) pa_nil))) (qs [119, 97, 121])) (pw_or1 (pt_not (qt_val (pe_fn (ok__law_told T) (hr.mono (by first | decide | omega)) rfl (pa_cons (qv 2) (pa_cons (qv 3) pa_nil))))))))))) (pss_one (ps_ret pe_bl)) pss_nil)
      (pss_cons (qs_for PassesOwn.never rfl (iterE K rfl (pe_slice (slE K rfl) (pe_callB (call_sortedD rfl) rfl T.b_sorted bb_sorted (pa_cons (qv 3) pa_nil)) (qo_some (pe_op op_modK (pe_fn (ok__law_cell_at T) (hr.mono (by first | decide | omega)) rfl (pa_cons (qv 0) (pa_cons pe_int pa_nil))) pe_int)) po_none)) (pg_name (i := 5) sc_law.nd rfl (by first | exact Or.inl rfl | exact Or.inr rfl)) (pss_join (ps_if (PW.pt (pw_or (qt_cmp op_neK (pe_fn (ok__law_put T) (hr.mono (by first | decide | omega)) rfl (pa_cons (qv 2) (pa_cons (qv 5) (pa_cons (pe_ix (ixE K rfl) (qv 1) pe_int (fun _ _ => rfl)) pa_nil)))) (qs [116, 119, 105, 99, 101])) (pw_or1 (pt_not (qt_val (pe_fn (ok__law_told T) (hr.mono (by first | decide | omega)) rfl (pa_cons (qv 2) (pa_cons (qv 3) pa_nil)))))))) (pss_one (ps_ret pe_bl)) pss_nil)
      (pss_join (ps_if (PW.pt (pw_or (qt_cmp op_neK (pe_fn (ok__law_struck T) (hr.mono (by first | decide | omega)) rfl (pa_cons (qv 2) (pa_cons (qv 5) pa_nil))) (qs [110, 111, 110, 101])) (pw_or1 (qt_cmp op_neK (pe_fn (ok__law_struck T) (hr.mono (by first | decide | omega)) rfl (pa_cons (qv 2) (pa_cons (qv 5) pa_nil))) (qs [119, 97, 121]))))) (pss_one (ps_ret pe_bl)) pss_nil)
      (pss_join (ps_if (qt_cmp op_neK (pe_fn (ok__law_put T) (hr.mono (by first | decide | omega)) rfl (pa_cons (qv 2) (pa_cons (qv 5) (pa_cons (pe_ix (ixE K rfl) (qv 1) pe_int (fun _ _ => rfl)) pa_nil)))) (qs [110, 111, 110, 101])) (pss_one (ps_ret pe_bl)) pss_nil)
      (pss_one (qs_dput (hu_of hr) (qv 3) (qv 5) (pe_ix (ixE K rfl) (qv 1) pe_int (fun _ _ => rfl))))))))
      (pss_join (ps_if (qt_cmp op_gtK (pe_callB (lenE K rfl) rfl T.b_len bb_len (pa_cons (qv 7) pa_nil)) pe_int) (pss_one (ps_ret (pe_fn (ok__law_told T) (hr.mono (by first | decide | omega)) rfl (pa_cons (qv 2) (pa_cons (qv 3) pa_nil))))) pss_nil)
      (pss_join (ps_if (PW.pt (pw_or (qt_cmp op_neK (pe_fn (ok__law_put T) (hr.mono (by first | decide | omega)) rfl (pa_cons (qv 2) (pa_cons (qv 7) (pa_cons (pe_ix (ixE K rfl) (qv 1) pe_int (fun _ _ => rfl)) pa_nil)))) (qs [110, 111, 110, 101])) (pw_or1 (qt_cmp op_neK (pe_metT T.c_Tree (ok_Tree__way_at T) (hr.mono (by first | decide | omega)) (qv 2) (pa_cons (qv 7) pa_nil)) (pe_ix (ixE K rfl) (qv 1) pe_int (fun _ _ => rfl)))))) (pss_one (ps_ret pe_bl)) pss_nil)
      (pss_one (ps_ret (qe_and (qe_cmp op_eqK (pe_fn (ok__law_struck T) (hr.mono (by first | decide | omega)) rfl (pa_cons (qv 2) (pa_cons (qv 7) pa_nil))) (qs [110, 111, 110, 101])) (qe_and (qe_cmp op_eqK (pe_fn (ok__law_struck T) (hr.mono (by first | decide | omega)) rfl (pa_cons (qv 2) (pa_cons (qv 7) pa_nil))) (qs [119, 97, 121])) (pe_one (pe_fn (ok__law_told T) (hr.mono (by first | decide | omega)) rfl (pa_cons (qv 2) (pa_cons (qv 3) pa_nil))))))))))))))))))))), ?_⟩
  rename_i a
  obtain ⟨ns, hS, hlen, q⟩ := h
  walk_at "rd"
  refine cell_here hS (by decide) ⟨by omega, by omega, fun da H1 hda s1 e1 => ?_⟩
  obtain ⟨dl, hdl, e1⟩ : ∃ dl : List (List Nat), dl.length = 5 ∧ H1 da = some (.lst (dl.map tx)) := ⟨_, by simp [nameL], e1⟩
  have hS1 := s1.seq hS
  have d4 : atI (dl.map tx) 4 = some (tx dl[4]) := atI_nat (j := 4) (by rw [List.getElem?_map, List.getElem?_eq_getElem (by omega)]; rfl)
  generalize dl[4] = D4 at d4
  walk_at "rd"
  refine fun t dx ht hdx nx => ⟨dx, upd_same, fun d H2 hd k2 tr => ⟨rfl, fun k hk => ?_⟩⟩
  have s12 : Same H1 H2 := fun b o z => k2 b o (ne_of_none z ht) (by rw [upd_ne (ne_of_none z ht), upd_ne (ne_of_none z hdx)]; exact z)
  have s23 := same_new hk (.dK [])
  have s13 := s12.trans s23
  have I3 : S1 K (upd H2 k (.dK [])) t d k da dl [] [] := ⟨tr.same s23, upd_same, ne_of_none tr.ds hk, s13 _ _ e1, List.nodup_nil, List.nodup_nil, fun _ => rfl, fun z x h => nomatch h⟩
  have hS3 := s13.seq hS1
  generalize upd H2 k (.dK []) = H3 at I3 hS3
  clear s1 hda ht hdx nx hd k2 tr hk s12 s23 s13 e1 hS1 hS
  obtain ⟨cs, hcs, hcl⟩ := cut8 ns
  refine ⟨_, hS3, fun sl hsl => ?_⟩
  rw [hcs]
  have s4 := same_new hsl (.lst (cs.map V.int))
  have e4 : upd H3 sl (.lst (cs.map V.int)) sl = some (.lst (cs.map V.int)) := upd_same
  have I4 := I3.same s4
  have hS4 := s4.seq hS3
  generalize upd H3 sl (.lst (cs.map V.int)) = H4 at I4 e4 hS4
  clear I3 hS3 s4 hsl hcs
  refine .inl ⟨⟨_, SqL.of e4⟩, ?_⟩
  refine loop_items V.int cs (fun i σ H' => ∃ (L M : List Way) (u4 u5 : Option V), σ = [some (.ref a), some (.ref da), some (.ref t), some (.ref k), u4, u5, none, none] ∧ S1 K H' t d k da dl L M ∧ H' sl = some (.lst (cs.map V.int)) ∧ SqL K H' a (ns.map V.int) ∧ L.length ≤ i ∧ M.length ≤ i)
    ⟨[], [], none, none, rfl, I4, e4, hS4, Nat.zero_le _, Nat.zero_le _⟩ (fun i σ H' _ ⟨_, _, _, _, _, _, z, _⟩ => SqL.of z) ?_ ?_
  · clear I4 e4 hS4
    rintro i c σ H5 hc ⟨L, M, u4, u5, rfl, I5, e5, hS5, l1, l2⟩
    have hi : i < cs.length := (List.getElem?_eq_some_iff.mp hc).1
    walk_at "rd"
    refine fun z H6 iz lz s6 => ?_
    have I6 := I5.same s6
    have e6 := s6 _ _ e5
    have hS6 := s6.seq hS5
    refine ⟨_, DGet.k (k := Sum.inr (st z)) I6.kn, ?_⟩
    rw [dk_val]
    cases hw : hasW M z with
    | some x => exact ⟨L, M, _, _, rfl, I6, e6, hS6, by omega, by omega⟩
    | none =>
      obtain ⟨j, hj, hjd⟩ : ∃ j : Nat, c / 3 % 4 = j ∧ j < dl.length := ⟨(c / 3 % 4).toNat, by omega, by omega⟩
      refine ⟨_, tx dl[j], .inl (SqL.of I6.ds), by rw [hj]; exact atI_nat (by rw [List.getElem?_map, List.getElem?_eq_getElem hjd]; rfl), _, DPut.k (k := Sum.inr (st z)) I6.kn (by rw [dk_len]; exact sizeBig (by omega)), ?_⟩
      rw [dk_put hw]
      have hwL : hasW L z = none := by rw [I6.lm]; exact hw
      obtain ⟨I7, e7, hS7⟩ := I6.known (M' := M ++ [(z, dl[j])]) e6 hS6
      obtain ⟨tr7, kn7, ds7⟩ := I7
      have gg := DGet.k (k := Sum.inr (st z)) kn7
      rw [dk_val, has_snoc' z z hw, if_pos rfl] at gg
      generalize upd H6 k (.dK (dk (M ++ [(z, dl[j])]))) = H7 at tr7 kn7 ds7 e7 hS7 gg
      obtain ⟨dx7, et7⟩ := tr7.tr
      obtain ⟨o1, o2, o3⟩ := let_ok (H := H7) iz lz
      refine ⟨t, dx7, _, rfl, et7, rfl, tx dl[j], gg, d, L, tr7, by omega, o1, o2, fun z => absurd (z.symm.trans o3) (by decide), fun _ b hb => ?_⟩
      obtain rfl : z = b := tx_inj hb
      refine ⟨fun x hx => absurd (hx.symm.trans hwL) (fun z => nomatch z), fun _ => ?_⟩
      refine ⟨L ++ [(z, dl[j])], M ++ [(z, dl[j])], _, _, rfl, ⟨⟨⟨dx7, upd_lst tr7.ds et7 (fun _ z => nomatch z)⟩, upd_same⟩, by rw [upd_ne (Ne.symm I6.ne)]; exact kn7, I6.ne, upd_lst tr7.ds ds7 (fun _ z => nomatch z), nodup_snoc I6.nl hwL, nodup_snoc I6.nm hw, fun y => ?_, fun y x hx => ?_⟩, upd_lst tr7.ds e7 (fun _ z => nomatch z), sq_upd tr7.ds hS7, by simp; omega, by simp; omega⟩
      · rw [has_snoc' z y hwL, has_snoc' z y hw, I6.lm]
      · rw [has_snoc' z y hwL] at hx
        by_cases g : y = z
        · rw [g]
          exact ⟨iz, lz⟩
        · rw [if_neg g] at hx
          exact I6.sh y x hx
  · clear I4 e4 hS4
    rintro σ H5 ⟨L, M, u4, u5, rfl, I5, e5, hS5, l1, l2⟩
    walk_at "rd"
    refine cell_here hS5 (by decide) (fun v H6 kv rv bv lv s6 => ?_)
    have I6 := I5.same s6
    have hS6 := s6.seq hS5
    walk_at "rd"
    refine cell_here hS6 (by decide) (fun z H7 iz lz s7 => ?_)
    have I7 := I6.same s7
    have hS7 := s7.seq hS6
    have kv := kv.same s7
    have rv := okr_same rv s7
    clear I5 I6 hS5 hS6 e5 s6 s7
    walk_at "rd"
    refine while_by (fun σ' H' => ∃ o, σ' = [some (.ref a), some (.ref da), some (.ref t), some (.ref k), u4, u5, some v, some (tx o)] ∧ IsLet o ∧ o.length ≤ 49 ∧ H' = H7) (fun σ' _ => othN σ') ⟨z, rfl, iz, by omega, rfl⟩ ?_ mono_din
    rintro σ' HB ⟨o, rfl, io, lo, rfl⟩
    walk_at "rd"
    refine ⟨_, DGet.k (k := Sum.inr (st o)) I7.kn, ?_⟩
    rw [dk_val]
    cases hw : hasW M o with
    | some x =>
      have ho := (I7.sh o x (by rw [I7.lm]; exact hw)).2
      walk_at "rd"
      refine ⟨by omega, ⟨o ++ [48], rfl, fun y hy => ?_, by simp; omega⟩, ?_⟩
      · rcases List.mem_append.mp hy with hy | hy
        · exact io y hy
        · exact .inl (List.mem_singleton.mp hy)
      · show 50 - (st (o ++ [48])).cps.toList.length < 50 - (st o).cps.toList.length
        simp only [st_cps, List.length_append, List.length_singleton]
        omega
    | none =>
      have hwL : hasW L o = none := by rw [I7.lm]; exact hw
      walk_at "rd"
      refine ⟨fun σ' H' => σ' = [some (.ref a), some (.ref da), some (.ref t), some (.ref k), u4, u5, some v, some (tx o)] ∧ Same HB H', ⟨_, tx D4, .inl (SqL.of I7.ds), d4, d, L, I7.tr, by omega, kv, rv, fun _ H8 s8 => ?_, fun z => absurd (z.symm.trans bv) (by decide)⟩, ?_⟩
      · unfold misfitT
        walk_at "rd"
        refine told_of (I7.same s8) (by omega) (by omega) fun H9 s9 => ?_
        walk_at "rd"
        exact s8.trans s9
      rintro σ' H8 ⟨rfl, s8⟩
      have I8 := I7.same s8
      have hS8 := s8.seq hS7
      have kv8 := kv.same s8
      have rv8 := okr_same rv s8
      clear I7 hS7 kv rv s8
      walk_at "rd"
      refine ⟨fun σ' H' => σ' = [some (.ref a), some (.ref da), some (.ref t), some (.ref k), u4, u5, some v, some (tx o)] ∧ Same H8 H', ?_, ?_⟩
      · cases v with
        | str y =>
          obtain ⟨l, rfl⟩ : ∃ l, y = st l := ⟨_, (st_eta y).symm⟩
          have out := I8.out (lv l rfl).2
          walk_at "rd"
          refine ⟨d, L, I8.tr, rv8, fun _ H9 s9 => ?_, fun x hx => absurd (hx.symm.trans out) (fun z => nomatch z)⟩
          unfold wayT
          walk_at "rd"
          refine told_of (I8.same s9) (by omega) (by omega) fun H10 s10 => ?_
          walk_at "rd"
          exact s9.trans s10
        | ref p =>
          walk_at "rd"
          rcases kv8 with kv8 | kv8
          · exact .inl ⟨kv8, Same.refl _⟩
          · exact .inr ⟨kv8, Same.refl _⟩
        | non => exact ⟨rfl, Same.refl _⟩
        | bl b => exact ⟨rfl, Same.refl _⟩
        | int i => exact ⟨rfl, Same.refl _⟩
        | _ => exact kv8.elim
      rintro σ' H9 ⟨rfl, s9⟩
      have I9 := I8.same s9
      have hS9 := s9.seq hS8
      clear I8 hS8 kv8 rv8 s9
      walk_at "rd"
      refine ⟨fun σ' H' => σ' = [some (.ref a), some (.ref da), some (.ref t), some (.ref k), u4, u5, some v, some (tx o)] ∧ Same H9 H', ⟨by omega, ite2 (fun g => ⟨d, L, I9.tr, (let_ok io (by omega)).2.1, fun _ H10 s10 => ?_, fun x hx => absurd (hx.symm.trans hwL) (fun z => nomatch z)⟩) fun g => ⟨rfl, Same.refl _⟩⟩, ?_⟩
      · unfold wayT
        walk_at "rd"
        refine told_of (I9.same s10) (by omega) (by omega) fun H11 s11 => ?_
        walk_at "rd"
        exact s10.trans s11
      rintro σ' H10 ⟨rfl, s10⟩
      have I10 := I9.same s10
      have hS10 := s10.seq hS9
      clear I9 hS9 s10
      walk_at "rd"
      refine ⟨dk M, M.map (·.1), I10.kn, dk_keys M, I10.nm, by rw [List.length_map]; omega, fun p hp => ?_⟩
      have s11 := same_new hp (.lst ((srt (M.map (·.1))).map fun l => V.str (st l)))
      have e11 : upd H10 p (.lst ((srt (M.map (·.1))).map fun l => V.str (st l))) p = some (.lst ((srt (M.map (·.1))).map fun l => V.str (st l))) := upd_same
      have I11 := I10.same s11
      have hS11 := s11.seq hS10
      generalize upd H10 p (.lst ((srt (M.map (·.1))).map fun l => V.str (st l))) = H11 at e11 I11 hS11
      clear I10 hS10 s11 hp
      refine cell_here hS11 (by decide) ?_
      walk_at "rd"
      refine ⟨_, SqL.of e11, fun p2 hp2 => ?_⟩
      obtain ⟨ks, hks, hkm, hkl⟩ := cut_txts (srt (M.map (·.1))) (some (cell ns (Int.toNat 3) % 4)) none
      rw [hks]
      have hsl := srt_len (M.map (·.1))
      rw [List.length_map] at hsl
      have s12 := same_new hp2 (.lst (ks.map tx))
      have e12 : upd H11 p2 (.lst (ks.map tx)) p2 = some (.lst (ks.map tx)) := upd_same
      have I12 := I11.same s12
      generalize upd H11 p2 (.lst (ks.map tx)) = H12 at e12 I12
      clear I11 hS11 e11 s12 hp2 hks
      refine .inl ⟨⟨_, SqL.of e12⟩, ?_⟩
      refine loop_items tx ks (fun i σ H' => ∃ (L' M' : List Way) (u4' u5' : Option V), σ = [some (.ref a), some (.ref da), some (.ref t), some (.ref k), u4', u5', some v, some (tx o)] ∧ S1 K H' t d k da dl L' M' ∧ H' p2 = some (.lst (ks.map tx)) ∧ (∀ z, (hasW L' z).isSome = (hasW L z).isSome) ∧ L'.length ≤ 8 + i ∧ M'.length ≤ 8)
        ⟨L, M, u4, u5, rfl, I12, e12, fun _ => rfl, by omega, by omega⟩ (fun i σ H' _ ⟨_, _, _, _, _, _, z, _⟩ => SqL.of z) ?_ ?_
      · rintro i b σ H13 hb ⟨L', M', u4', u5', rfl, I, e, hsome, l1', l2'⟩
        have hi : i < ks.length := (List.getElem?_eq_some_iff.mp hb).1
        obtain ⟨x, hx⟩ : ∃ x, hasW L' b = some x := by
          have h1 : (hasW L b).isSome = true := by
            rw [I12.lm]
            obtain ⟨y, hy, e⟩ := List.mem_map.mp (srt_mem.mp (hkm b (List.mem_of_getElem? hb)))
            rw [← e, hasW_of I12.nm hy]
            rfl
          rw [← hsome] at h1
          exact Option.isSome_iff_exists.mp h1
        obtain ⟨ib, lb⟩ := I.sh b x hx
        have hxM : hasW M' b ≠ none := by rw [← I.lm, hx]; exact fun z => nomatch z
        walk_at "rd"
        obtain ⟨o1, o2, o3⟩ := let_ok (H := H13) ib lb
        refine ⟨fun σ' H' => σ' = [some (.ref a), some (.ref da), some (.ref t), some (.ref k), u4', some (tx b), some v, some (tx o)] ∧ Same H13 H', ⟨_, tx D4, .inl (SqL.of I.ds), d4, d, L', I.tr, by omega, o1, o2, fun z => absurd (z.symm.trans o3) (by decide), fun _ b' hb' => ?_⟩, ?_⟩
        · obtain rfl : b = b' := tx_inj hb'
          refine ⟨fun y hy H14 s14 => ?_, fun hn => absurd (hn.symm.trans hx) (fun z => nomatch z)⟩
          unfold twiceT
          walk_at "rd"
          refine told_of (I.same s14) (by omega) (by omega) fun H15 s15 => ?_
          walk_at "rd"
          exact s14.trans s15
        rintro σ' H14 ⟨rfl, s14⟩
        have I14 := I.same s14
        have e14 := s14 _ _ e
        clear I e s14 o1 o2
        walk_at "rd"
        have f1 : hasW (L'.filter fun x => decide (x.1 ≠ b)) b = none := by rw [has_filter, if_pos rfl]
        refine ⟨fun σ' H' => σ' = [some (.ref a), some (.ref da), some (.ref t), some (.ref k), u4', some (tx b), some v, some (tx o)] ∧ TreeAt K H' t d (L'.filter fun x => decide (x.1 ≠ b)) ∧ H' k = some (.dK (dk M')) ∧ H' da = some (.lst (dl.map tx)) ∧ H' p2 = some (.lst (ks.map tx)),
          ⟨d, L', I14.tr, (let_ok ib lb).2.1, fun hn => absurd (hn.symm.trans hx) (fun z => nomatch z), fun y hy => ?_⟩, ?_⟩
        · unfold noneT
          walk_at "rd"
          obtain ⟨m1, m2, m3⟩ := I14.tree (L'.filter fun x => decide (x.1 ≠ b))
          have m4 := upd_lst (kws := dk (L'.filter fun x => decide (x.1 ≠ b))) I14.tr.ds e14 (fun _ z => nomatch z)
          refine ⟨d, _, m1, (let_ok ib lb).2.1, fun _ H15 s15 => ?_, fun y hy => absurd (hy.symm.trans f1) (fun z => nomatch z)⟩
          unfold wayT
          walk_at "rd"
          exact ⟨m1.same s15, s15 _ _ m2, s15 _ _ m3, s15 _ _ m4⟩
        rintro σ' H15 ⟨rfl, m1, m2, m3, m4⟩
        have l3 : (L'.filter fun x => decide (x.1 ≠ b)).length ≤ L'.length := List.length_filter_le ..
        have nf : ((L'.filter fun x => decide (x.1 ≠ b)).map (·.1)).Nodup := I14.nl.sublist ((List.filter_sublist (l := L')).map _)
        have hf : ∀ z, hasW (L'.filter fun x => decide (x.1 ≠ b)) z = if z = b then none else hasW L' z := fun z => has_filter b z L'
        generalize (L'.filter fun x => decide (x.1 ≠ b)) = L1 at f1 m1 l3 nf hf
        walk_at "rd"
        obtain ⟨o1, o2, o3⟩ := let_ok (H := H15) ib lb
        refine ⟨fun σ' H' => σ' = [some (.ref a), some (.ref da), some (.ref t), some (.ref k), u4', some (tx b), some v, some (tx o)] ∧ TreeAt K H' t d (L1 ++ [(b, D4)]) ∧ H' k = some (.dK (dk M')) ∧ H' da = some (.lst (dl.map tx)) ∧ H' p2 = some (.lst (ks.map tx)),
          ⟨_, tx D4, .inl (SqL.of m3), d4, d, L1, m1, by omega, o1, o2, fun z => absurd (z.symm.trans o3) (by decide), fun _ b' hb' => ?_⟩, ?_⟩
        · obtain rfl : b = b' := tx_inj hb'
          refine ⟨fun y hy => absurd (hy.symm.trans f1) (fun z => nomatch z), fun _ => ?_⟩
          unfold noneT
          walk_at "rd"
          obtain ⟨dx5, et5⟩ := m1.tr
          exact ⟨⟨⟨dx5, upd_lst m1.ds et5 (fun _ z => nomatch z)⟩, upd_same⟩, by rw [upd_ne (Ne.symm I14.ne)]; exact m2, upd_lst m1.ds m3 (fun _ z => nomatch z), upd_lst m1.ds m4 (fun _ z => nomatch z)⟩
        clear m1 m2 m3 m4 o1 o2
        rintro σ' H16 ⟨rfl, m1, m2, m3, m4⟩
        walk_at "rd"
        refine ⟨_, tx D4, .inl (SqL.of m3), d4, _, DPut.k (k := Sum.inr (st b)) m2 (by rw [dk_len]; exact sizeBig (by omega)), ?_⟩
        rw [dk_put2 hxM]
        obtain ⟨dx6, et6⟩ := m1.tr
        refine ⟨L1 ++ [(b, D4)], _, _, _, rfl, ⟨⟨⟨dx6, upd_lst m2 et6 (fun _ z => nomatch z)⟩, by rw [upd_ne I14.ne]; exact m1.ds⟩, upd_same, I14.ne, upd_lst m2 m3 (fun _ z => nomatch z), nodup_snoc nf f1, by rw [put_keys]; exact I14.nm, fun z => ?_, fun z y hz => ?_⟩, upd_lst m2 m4 (fun _ z => nomatch z), fun z => ?_, by simp; omega, by rw [List.length_map]; exact l2'⟩
        · rw [has_snoc' b z f1, has_put b z hxM, hf, I14.lm]
          by_cases g : z = b
          · rw [if_pos g, if_pos g]
          · rw [if_neg g, if_neg g, if_neg g]
        · rw [has_snoc' b z f1] at hz
          by_cases g : z = b
          · rw [g]
            exact ⟨ib, lb⟩
          · rw [if_neg g, hf, if_neg g] at hz
            exact I14.sh z y hz
        · rw [has_snoc' b z f1, ← hsome]
          by_cases g : z = b
          · rw [if_pos g, g, hx]
            rfl
          · rw [if_neg g, hf, if_neg g]
      · rintro σ H13 ⟨L', M', u4', u5', rfl, I, e, hsome, l1', l2'⟩
        have hoL : hasW L' o = none := by
          have := hsome o
          rw [hwL] at this
          exact Option.isSome_eq_false_iff.mp this |> Option.isNone_iff_eq_none.mp
        walk_at "rd"
        refine ⟨fun σ' H' => σ' = [some (.ref a), some (.ref da), some (.ref t), some (.ref k), u4', u5', some v, some (tx o)] ∧ H' = H13 ∧ o.length ≤ 48, ⟨by omega, ite2 (fun g => told_of I (by omega) (by omega) fun H14 s14 => q H14) fun g => ⟨rfl, rfl, by omega⟩⟩, ?_⟩
        rintro σ' HC ⟨rfl, rfl, lo48⟩
        walk_at "rd"
        obtain ⟨o1, o2, o3⟩ := let_ok (H := HC) io lo48
        have h9 : hasW (L' ++ [(o, D4)]) o = some D4 := by rw [has_snoc' o o hoL, if_pos rfl]
        have sh9 : ∀ x ∈ L' ++ [(o, D4)], x.1.length ≤ 1000 := fun x hx => by
          rcases List.mem_append.mp hx with hx | hx
          · exact I.short x hx
          · rw [List.mem_singleton.mp hx]
            show o.length ≤ 1000
            omega
        refine ⟨fun σ' H' => σ' = [some (.ref a), some (.ref da), some (.ref t), some (.ref k), u4', u5', some v, some (tx o)] ∧ TreeAt K H' t d (L' ++ [(o, D4)]) ∧ H' k = some (.dK (dk M')) ∧ H' da = some (.lst (dl.map tx)), ⟨_, tx D4, .inl (SqL.of I.ds), d4, d, L', I.tr, by omega, o1, o2, fun z => absurd (z.symm.trans o3) (by decide), fun _ b' hb' => ?_⟩, ?_⟩
        · obtain rfl : o = b' := tx_inj hb'
          refine ⟨fun y hy => absurd (hy.symm.trans hoL) (fun z => nomatch z), fun _ => ?_⟩
          unfold noneT
          walk_at "rd"
          obtain ⟨m1, m2, m3⟩ := I.tree (L' ++ [(o, D4)])
          obtain ⟨dx7, et7⟩ := m1.tr
          refine ⟨t, dx7, _, rfl, et7, rfl, d, _, m1, sh9, fun H14 s14 => ?_⟩
          simp only [st_cps]
          rw [way_full h9]
          unfold optV
          refine ⟨_, tx D4, .inl (SqL.of (s14 _ _ m3)), d4, ?_⟩
          walk_at "rd"
          exact ⟨m1.same s14, s14 _ _ m2, s14 _ _ m3⟩
        rintro σ' H14 ⟨rfl, m1, m2, m3⟩
        walk_at "rd"
        have l9 : ((L' ++ [(o, D4)]).filter fun x => decide (x.1 ≠ o)).length ≤ (L' ++ [(o, D4)]).length := List.length_filter_le ..
        rw [List.length_append, List.length_singleton] at l9
        have nf : (((L' ++ [(o, D4)]).filter fun x => decide (x.1 ≠ o)).map (·.1)).Nodup := (nodup_snoc I.nl hoL).sublist ((List.filter_sublist (l := L' ++ [(o, D4)])).map _)
        have hf : ∀ z, hasW ((L' ++ [(o, D4)]).filter fun x => decide (x.1 ≠ o)) z = hasW L' z := fun z => by
          rw [has_filter, has_snoc' o z hoL]
          by_cases g : z = o
          · rw [if_pos g, g, hoL]
          · rw [if_neg g, if_neg g]
        refine ⟨d, _, m1, (let_ok io lo48).2.1, fun hn => absurd (hn.symm.trans h9) (fun z => nomatch z), fun y hy => ?_⟩
        unfold noneT
        walk_at "rd"
        have f1 := hf o
        rw [hoL] at f1
        generalize ((L' ++ [(o, D4)]).filter fun x => decide (x.1 ≠ o)) = L10 at l9 nf hf f1
        obtain ⟨dx7, et7⟩ := m1.tr
        have IZ : S1 K (upd H14 d (.dK (dk L10))) t d k da dl L10 M' := ⟨⟨⟨dx7, upd_lst m1.ds et7 (fun _ z => nomatch z)⟩, upd_same⟩, by rw [upd_ne (Ne.symm I.ne)]; exact m2, I.ne, upd_lst m1.ds m3 (fun _ z => nomatch z), nf, I.nm, fun z => (hf z).trans (I.lm z), fun z x hz => I.sh z x (by rw [← hf]; exact hz)⟩
        refine ⟨d, L10, IZ.tr, (let_ok io lo48).2.1, fun _ H15 s15 => ?_, fun y hy => absurd (hy.symm.trans f1) (fun z => nomatch z)⟩
        unfold wayT
        walk_at "rd"
        exact told_of (IZ.same s15) (by omega) (by omega) fun H16 s16 => q H16
end
theorem all_mk {K : PySem.W.Frag} {h : Heap} {mg : Str → Option Value} (X : K.In h) (G : h.Ns mainGlobals mg)
    {C_Tree : Addr} (n_Tree : PySem.W.nsIn K mainGlobals "Tree" = some (some (.ref C_Tree))) (pg_Tree : PySem.W.plainGet K C_Tree Str.empty = true) (hd_Tree : PySem.W.hasDictIn K C_Tree = true) (po_Tree : PySem.W.plainOver K C_Tree = true) (sa_Tree : PySem.W.findIn K (.ref C_Tree) "__setattr__" = some (some (.builtin "object.__setattr__"))) (mk_Tree : PySem.W.makesIn K C_Tree = true) (kc_Tree : PySem.W.keepIn K (.ref C_Tree) = true)
    (at_Tree_doors : PySem.W.findIn K (.ref C_Tree) "doors" = some none)
    {f0 : Addr} {od0 an0 : Option Addr} {sl0 : Array (Option Value)} {oc0 kV0 dc0 pm0 cd0 ct0 : Value}
    {f1 : Addr} {od1 an1 : Option Addr} {sl1 : Array (Option Value)} {oc1 kV1 dc1 pm1 cd1 ct1 : Value}
    {f2 : Addr} {od2 an2 : Option Addr} {sl2 : Array (Option Value)} {oc2 kV2 dc2 pm2 cd2 ct2 : Value}
    {f3 : Addr} {od3 an3 : Option Addr} {sl3 : Array (Option Value)} {oc3 kV3 dc3 pm3 cd3 ct3 : Value}
    {f4 : Addr} {od4 an4 : Option Addr} {sl4 : Array (Option Value)} {oc4 kV4 dc4 pm4 cd4 ct4 : Value}
    {f5 : Addr} {od5 an5 : Option Addr} {sl5 : Array (Option Value)} {oc5 kV5 dc5 pm5 cd5 ct5 : Value}
    {f6 : Addr} {od6 an6 : Option Addr} {sl6 : Array (Option Value)} {oc6 kV6 dc6 pm6 cd6 ct6 : Value}
    {f7 : Addr} {od7 an7 : Option Addr} {sl7 : Array (Option Value)} {oc7 kV7 dc7 pm7 cd7 ct7 : Value}
    {f8 : Addr} {od8 an8 : Option Addr} {sl8 : Array (Option Value)} {oc8 kV8 dc8 pm8 cd8 ct8 : Value}
    {f9 : Addr} {od9 an9 : Option Addr} {sl9 : Array (Option Value)} {oc9 kV9 dc9 pm9 cd9 ct9 : Value}
    {f10 : Addr} {od10 an10 : Option Addr} {sl10 : Array (Option Value)} {oc10 kV10 dc10 pm10 cd10 ct10 : Value}
    {f11 : Addr} {od11 an11 : Option Addr} {sl11 : Array (Option Value)} {oc11 kV11 dc11 pm11 cd11 ct11 : Value}
    {f12 : Addr} {od12 an12 : Option Addr} {sl12 : Array (Option Value)} {oc12 kV12 dc12 pm12 cd12 ct12 : Value}
    {f13 : Addr} {od13 an13 : Option Addr} {sl13 : Array (Option Value)} {oc13 kV13 dc13 pm13 cd13 ct13 : Value}
    {f14 : Addr} {od14 an14 : Option Addr} {sl14 : Array (Option Value)} {oc14 kV14 dc14 pm14 cd14 ct14 : Value}
    {f15 : Addr} {od15 an15 : Option Addr} {sl15 : Array (Option Value)} {oc15 kV15 dc15 pm15 cd15 ct15 : Value}
    {f16 : Addr} {od16 an16 : Option Addr} {sl16 : Array (Option Value)} {oc16 kV16 dc16 pm16 cd16 ct16 : Value}
    {f17 : Addr} {od17 an17 : Option Addr} {sl17 : Array (Option Value)} {oc17 kV17 dc17 pm17 cd17 ct17 : Value}
    {f18 : Addr} {od18 an18 : Option Addr} {sl18 : Array (Option Value)} {oc18 kV18 dc18 pm18 cd18 ct18 : Value}
    {f19 : Addr} {od19 an19 : Option Addr} {sl19 : Array (Option Value)} {oc19 kV19 dc19 pm19 cd19 ct19 : Value}
    (a0 : PySem.W.nsIn K mainGlobals "is_letter" = some (some (.ref f0))) (l0 : K.lookup f0 = some ⟨oc0, od0, .func (PySem.W.fnOf "is_letter" "is_letter" (defArgs s_is_letter) (defBody s_is_letter) (defScope s_is_letter) .none kV0 dc0 pm0 an0 cd0 ct0), sl0⟩) (c0 : PySem.W.codeIn K cd0 "is_letter" = true) (k0 : PySem.W.keepIn K (.ref f0) = true)
    (a1 : PySem.W.nsIn K mainGlobals "is_text_of" = some (some (.ref f1))) (l1 : K.lookup f1 = some ⟨oc1, od1, .func (PySem.W.fnOf "is_text_of" "is_text_of" (defArgs s_is_text_of) (defBody s_is_text_of) (defScope s_is_text_of) .none kV1 dc1 pm1 an1 cd1 ct1), sl1⟩) (c1 : PySem.W.codeIn K cd1 "is_text_of" = true) (k1 : PySem.W.keepIn K (.ref f1) = true)
    (a2 : PySem.W.nsIn K mainGlobals "way_found" = some (some (.ref f2))) (l2 : K.lookup f2 = some ⟨oc2, od2, .func (PySem.W.fnOf "way_found" "way_found" (defArgs s_way_found) (defBody s_way_found) (defScope s_way_found) .none kV2 dc2 pm2 an2 cd2 ct2), sl2⟩) (c2 : PySem.W.codeIn K cd2 "way_found" = true) (k2 : PySem.W.keepIn K (.ref f2) = true)
    (a3 : PySem.W.nsIn K mainGlobals "is_beginning" = some (some (.ref f3))) (l3 : K.lookup f3 = some ⟨oc3, od3, .func (PySem.W.fnOf "is_beginning" "is_beginning" (defArgs s_is_beginning) (defBody s_is_beginning) (defScope s_is_beginning) .none kV3 dc3 pm3 an3 cd3 ct3), sl3⟩) (c3 : PySem.W.codeIn K cd3 "is_beginning" = true) (k3 : PySem.W.keepIn K (.ref f3) = true)
    (a4 : PySem.W.nsIn K mainGlobals "_law_cell_at" = some (some (.ref f4))) (l4 : K.lookup f4 = some ⟨oc4, od4, .func (PySem.W.fnOf "_law_cell_at" "_law_cell_at" (defArgs s__law_cell_at) (defBody s__law_cell_at) (defScope s__law_cell_at) .none kV4 dc4 pm4 an4 cd4 ct4), sl4⟩) (c4 : PySem.W.codeIn K cd4 "_law_cell_at" = true) (k4 : PySem.W.keepIn K (.ref f4) = true)
    (a5 : PySem.W.nsIn K mainGlobals "_law_stream" = some (some (.ref f5))) (l5 : K.lookup f5 = some ⟨oc5, od5, .func (PySem.W.fnOf "_law_stream" "_law_stream" (defArgs s__law_stream) (defBody s__law_stream) (defScope s__law_stream) .none kV5 dc5 pm5 an5 cd5 ct5), sl5⟩) (c5 : PySem.W.codeIn K cd5 "_law_stream" = true) (k5 : PySem.W.keepIn K (.ref f5) = true)
    (a6 : PySem.W.nsIn K mainGlobals "_law_names" = some (some (.ref f6))) (l6 : K.lookup f6 = some ⟨oc6, od6, .func (PySem.W.fnOf "_law_names" "_law_names" (defArgs s__law_names) (defBody s__law_names) (defScope s__law_names) .none kV6 dc6 pm6 an6 cd6 ct6), sl6⟩) (c6 : PySem.W.codeIn K cd6 "_law_names" = true) (k6 : PySem.W.keepIn K (.ref f6) = true)
    (a7 : PySem.W.nsIn K mainGlobals "_law_beginning" = some (some (.ref f7))) (l7 : K.lookup f7 = some ⟨oc7, od7, .func (PySem.W.fnOf "_law_beginning" "_law_beginning" (defArgs s__law_beginning) (defBody s__law_beginning) (defScope s__law_beginning) .none kV7 dc7 pm7 an7 cd7 ct7), sl7⟩) (c7 : PySem.W.codeIn K cd7 "_law_beginning" = true) (k7 : PySem.W.keepIn K (.ref f7) = true)
    (a8 : PySem.W.nsIn K mainGlobals "_law_word" = some (some (.ref f8))) (l8 : K.lookup f8 = some ⟨oc8, od8, .func (PySem.W.fnOf "_law_word" "_law_word" (defArgs s__law_word) (defBody s__law_word) (defScope s__law_word) .none kV8 dc8 pm8 an8 cd8 ct8), sl8⟩) (c8 : PySem.W.codeIn K cd8 "_law_word" = true) (k8 : PySem.W.keepIn K (.ref f8) = true)
    (a9 : PySem.W.nsIn K mainGlobals "_law_bad" = some (some (.ref f9))) (l9 : K.lookup f9 = some ⟨oc9, od9, .func (PySem.W.fnOf "_law_bad" "_law_bad" (defArgs s__law_bad) (defBody s__law_bad) (defScope s__law_bad) .none kV9 dc9 pm9 an9 cd9 ct9), sl9⟩) (c9 : PySem.W.codeIn K cd9 "_law_bad" = true) (k9 : PySem.W.keepIn K (.ref f9) = true)
    (a10 : PySem.W.nsIn K mainGlobals "_law_put" = some (some (.ref f10))) (l10 : K.lookup f10 = some ⟨oc10, od10, .func (PySem.W.fnOf "_law_put" "_law_put" (defArgs s__law_put) (defBody s__law_put) (defScope s__law_put) .none kV10 dc10 pm10 an10 cd10 ct10), sl10⟩) (c10 : PySem.W.codeIn K cd10 "_law_put" = true) (k10 : PySem.W.keepIn K (.ref f10) = true)
    (a11 : PySem.W.nsIn K mainGlobals "_law_struck" = some (some (.ref f11))) (l11 : K.lookup f11 = some ⟨oc11, od11, .func (PySem.W.fnOf "_law_struck" "_law_struck" (defArgs s__law_struck) (defBody s__law_struck) (defScope s__law_struck) .none kV11 dc11 pm11 an11 cd11 ct11), sl11⟩) (c11 : PySem.W.codeIn K cd11 "_law_struck" = true) (k11 : PySem.W.keepIn K (.ref f11) = true)
    (a12 : PySem.W.nsIn K mainGlobals "_law_told" = some (some (.ref f12))) (l12 : K.lookup f12 = some ⟨oc12, od12, .func (PySem.W.fnOf "_law_told" "_law_told" (defArgs s__law_told) (defBody s__law_told) (defScope s__law_told) .none kV12 dc12 pm12 an12 cd12 ct12), sl12⟩) (c12 : PySem.W.codeIn K cd12 "_law_told" = true) (k12 : PySem.W.keepIn K (.ref f12) = true)
    (a13 : PySem.W.nsIn K mainGlobals "law" = some (some (.ref f13))) (l13 : K.lookup f13 = some ⟨oc13, od13, .func (PySem.W.fnOf "law" "law" (defArgs s_law) (defBody s_law) (defScope s_law) .none kV13 dc13 pm13 an13 cd13 ct13), sl13⟩) (c13 : PySem.W.codeIn K cd13 "law" = true) (k13 : PySem.W.keepIn K (.ref f13) = true)
    (a14 : PySem.W.findIn K (.ref C_Tree) "__init__" = some (some (.ref f14))) (l14 : K.lookup f14 = some ⟨oc14, od14, .func (PySem.W.fnOf "__init__" "Tree.__init__" (defArgs s_Tree____init__) (defBody s_Tree____init__) (defScope s_Tree____init__) .none kV14 dc14 pm14 an14 cd14 ct14), sl14⟩) (c14 : PySem.W.codeIn K cd14 "Tree.__init__" = true) (k14 : PySem.W.keepIn K (.ref f14) = true) (w14 : PySem.W.isFn K (.ref f14) = true)
    (a15 : PySem.W.findIn K (.ref C_Tree) "put_way" = some (some (.ref f15))) (l15 : K.lookup f15 = some ⟨oc15, od15, .func (PySem.W.fnOf "put_way" "Tree.put_way" (defArgs s_Tree__put_way) (defBody s_Tree__put_way) (defScope s_Tree__put_way) .none kV15 dc15 pm15 an15 cd15 ct15), sl15⟩) (c15 : PySem.W.codeIn K cd15 "Tree.put_way" = true) (k15 : PySem.W.keepIn K (.ref f15) = true) (w15 : PySem.W.isFn K (.ref f15) = true)
    (a16 : PySem.W.findIn K (.ref C_Tree) "strike_way" = some (some (.ref f16))) (l16 : K.lookup f16 = some ⟨oc16, od16, .func (PySem.W.fnOf "strike_way" "Tree.strike_way" (defArgs s_Tree__strike_way) (defBody s_Tree__strike_way) (defScope s_Tree__strike_way) .none kV16 dc16 pm16 an16 cd16 ct16), sl16⟩) (c16 : PySem.W.codeIn K cd16 "Tree.strike_way" = true) (k16 : PySem.W.keepIn K (.ref f16) = true) (w16 : PySem.W.isFn K (.ref f16) = true)
    (a17 : PySem.W.findIn K (.ref C_Tree) "way_at" = some (some (.ref f17))) (l17 : K.lookup f17 = some ⟨oc17, od17, .func (PySem.W.fnOf "way_at" "Tree.way_at" (defArgs s_Tree__way_at) (defBody s_Tree__way_at) (defScope s_Tree__way_at) .none kV17 dc17 pm17 an17 cd17 ct17), sl17⟩) (c17 : PySem.W.codeIn K cd17 "Tree.way_at" = true) (k17 : PySem.W.keepIn K (.ref f17) = true) (w17 : PySem.W.isFn K (.ref f17) = true)
    (a18 : PySem.W.findIn K (.ref C_Tree) "told_ways" = some (some (.ref f18))) (l18 : K.lookup f18 = some ⟨oc18, od18, .func (PySem.W.fnOf "told_ways" "Tree.told_ways" (defArgs s_Tree__told_ways) (defBody s_Tree__told_ways) (defScope s_Tree__told_ways) .none kV18 dc18 pm18 an18 cd18 ct18), sl18⟩) (c18 : PySem.W.codeIn K cd18 "Tree.told_ways" = true) (k18 : PySem.W.keepIn K (.ref f18) = true) (w18 : PySem.W.isFn K (.ref f18) = true)
    (a19 : PySem.W.findIn K (.ref C_Tree) "ways_below" = some (some (.ref f19))) (l19 : K.lookup f19 = some ⟨oc19, od19, .func (PySem.W.fnOf "ways_below" "Tree.ways_below" (defArgs s_Tree__ways_below) (defBody s_Tree__ways_below) (defScope s_Tree__ways_below) .none kV19 dc19 pm19 an19 cd19 ct19), sl19⟩) (c19 : PySem.W.codeIn K cd19 "Tree.ways_below" = true) (k19 : PySem.W.keepIn K (.ref f19) = true) (w19 : PySem.W.isFn K (.ref f19) = true)
    (z_isinstance : PySem.W.nsIn K mainGlobals "isinstance" = some none)
    (z_str : PySem.W.nsIn K mainGlobals "str" = some none)
    (z_len : PySem.W.nsIn K mainGlobals "len" = some none)
    (z_range : PySem.W.nsIn K mainGlobals "range" = some none)
    (z_int : PySem.W.nsIn K mainGlobals "int" = some none)
    (z_ValueError : PySem.W.nsIn K mainGlobals "ValueError" = some none)
    (z_sorted : PySem.W.nsIn K mainGlobals "sorted" = some none)
    (z_list : PySem.W.nsIn K mainGlobals "list" = some none)
    {tk_LONGEST : Tok} (n_LONGEST : PySem.W.nsIn K mainGlobals "LONGEST" = some (some (.int 48 tk_LONGEST)))
    {C_Misfit : Addr} (n_Misfit : PySem.W.nsIn K mainGlobals "Misfit" = some (some (.ref C_Misfit))) (q_Misfit : PySem.W.excIn K C_Misfit bmV "ValueError.__new__" = true) (t_Misfit : PySem.W.typeIn K (.ref C_Misfit) = some (.type "type")) (b_Misfit : PySem.W.mroIn K C_Misfit (.type "BaseException") = some true) (g_Misfit : PySem.W.findIn K (.ref C_Misfit) "__getattribute__" = some (some (.builtin "BaseException.__getattribute__"))) (h_Misfit : PySem.W.findIn K (.ref C_Misfit) "__getattr__" = some none) (a_Misfit : PySem.W.findIn K (.ref C_Misfit) "__class__" = some (some (.builtin "object.__class__"))) (o_Misfit : PySem.W.mroIn K C_Misfit (.type "object") = some true)
    {C_Twice : Addr} (n_Twice : PySem.W.nsIn K mainGlobals "Twice" = some (some (.ref C_Twice))) (q_Twice : PySem.W.excIn K C_Twice bmV "ValueError.__new__" = true) (t_Twice : PySem.W.typeIn K (.ref C_Twice) = some (.type "type")) (b_Twice : PySem.W.mroIn K C_Twice (.type "BaseException") = some true) (g_Twice : PySem.W.findIn K (.ref C_Twice) "__getattribute__" = some (some (.builtin "BaseException.__getattribute__"))) (h_Twice : PySem.W.findIn K (.ref C_Twice) "__getattr__" = some none) (a_Twice : PySem.W.findIn K (.ref C_Twice) "__class__" = some (some (.builtin "object.__class__"))) (o_Twice : PySem.W.mroIn K C_Twice (.type "object") = some true)
    {C_NoWay : Addr} (n_NoWay : PySem.W.nsIn K mainGlobals "NoWay" = some (some (.ref C_NoWay))) (q_NoWay : PySem.W.excIn K C_NoWay bmV "ValueError.__new__" = true) (t_NoWay : PySem.W.typeIn K (.ref C_NoWay) = some (.type "type")) (b_NoWay : PySem.W.mroIn K C_NoWay (.type "BaseException") = some true) (g_NoWay : PySem.W.findIn K (.ref C_NoWay) "__getattribute__" = some (some (.builtin "BaseException.__getattribute__"))) (h_NoWay : PySem.W.findIn K (.ref C_NoWay) "__getattr__" = some none) (a_NoWay : PySem.W.findIn K (.ref C_NoWay) "__class__" = some (some (.builtin "object.__class__"))) (o_NoWay : PySem.W.mroIn K C_NoWay (.type "object") = some true)
    {C_ThrongError : Addr} (n_ThrongError : PySem.W.nsIn K mainGlobals "ThrongError" = some (some (.ref C_ThrongError))) (q_ThrongError : PySem.W.excIn K C_ThrongError bmV "ValueError.__new__" = true) (t_ThrongError : PySem.W.typeIn K (.ref C_ThrongError) = some (.type "type")) (b_ThrongError : PySem.W.mroIn K C_ThrongError (.type "BaseException") = some true) (g_ThrongError : PySem.W.findIn K (.ref C_ThrongError) "__getattribute__" = some (some (.builtin "BaseException.__getattribute__"))) (h_ThrongError : PySem.W.findIn K (.ref C_ThrongError) "__getattr__" = some none) (a_ThrongError : PySem.W.findIn K (.ref C_ThrongError) "__class__" = some (some (.builtin "object.__class__"))) (o_ThrongError : PySem.W.mroIn K C_ThrongError (.type "object") = some true)
    {C_NoField : Addr} (n_NoField : PySem.W.nsIn K mainGlobals "NoField" = some (some (.ref C_NoField))) (t_NoField : PySem.W.typeIn K (.ref C_NoField) = some (.type "type")) (b_NoField : PySem.W.mroIn K C_NoField (.type "BaseException") = some true)
    {C_NoRule : Addr} (n_NoRule : PySem.W.nsIn K mainGlobals "NoRule" = some (some (.ref C_NoRule))) (t_NoRule : PySem.W.typeIn K (.ref C_NoRule) = some (.type "type")) (b_NoRule : PySem.W.mroIn K C_NoRule (.type "BaseException") = some true)
    {C_NoDoor : Addr} (n_NoDoor : PySem.W.nsIn K mainGlobals "NoDoor" = some (some (.ref C_NoDoor))) (t_NoDoor : PySem.W.typeIn K (.ref C_NoDoor) = some (.type "type")) (b_NoDoor : PySem.W.mroIn K C_NoDoor (.type "BaseException") = some true)
    {C_NoHouse : Addr} (n_NoHouse : PySem.W.nsIn K mainGlobals "NoHouse" = some (some (.ref C_NoHouse))) (t_NoHouse : PySem.W.typeIn K (.ref C_NoHouse) = some (.type "type")) (b_NoHouse : PySem.W.mroIn K C_NoHouse (.type "BaseException") = some true)
    {C_NoLine : Addr} (n_NoLine : PySem.W.nsIn K mainGlobals "NoLine" = some (some (.ref C_NoLine))) (t_NoLine : PySem.W.typeIn K (.ref C_NoLine) = some (.type "type")) (b_NoLine : PySem.W.mroIn K C_NoLine (.type "BaseException") = some true)
    {C_BadWord : Addr} (n_BadWord : PySem.W.nsIn K mainGlobals "BadWord" = some (some (.ref C_BadWord))) (t_BadWord : PySem.W.typeIn K (.ref C_BadWord) = some (.type "type")) (b_BadWord : PySem.W.mroIn K C_BadWord (.type "BaseException") = some true)
    {C_Unlike : Addr} (n_Unlike : PySem.W.nsIn K mainGlobals "Unlike" = some (some (.ref C_Unlike))) (t_Unlike : PySem.W.typeIn K (.ref C_Unlike) = some (.type "type")) (b_Unlike : PySem.W.mroIn K C_Unlike (.type "BaseException") = some true)
    (sgt : PySem.W.specialIn K (.builtin "object.__class__") "__get__" = some (some (.builtin "getset_descriptor.__get__"))) (stk : PySem.W.takesIn K (.builtin "object.__class__") = some true)
    (v_Misfit : PySem.W.mroIn K C_Misfit (.type "ValueError") = some true)
    (m_Misfit_Misfit : PySem.W.mroIn K C_Misfit (.ref C_Misfit) = some true)
    (m_Misfit_Twice : PySem.W.mroIn K C_Misfit (.ref C_Twice) = some false) (d_Misfit_Twice : C_Misfit ≠ C_Twice)
    (m_Misfit_NoField : PySem.W.mroIn K C_Misfit (.ref C_NoField) = some false) (d_Misfit_NoField : C_Misfit ≠ C_NoField)
    (m_Misfit_NoRule : PySem.W.mroIn K C_Misfit (.ref C_NoRule) = some false) (d_Misfit_NoRule : C_Misfit ≠ C_NoRule)
    (m_Misfit_NoWay : PySem.W.mroIn K C_Misfit (.ref C_NoWay) = some false) (d_Misfit_NoWay : C_Misfit ≠ C_NoWay)
    (m_Misfit_ThrongError : PySem.W.mroIn K C_Misfit (.ref C_ThrongError) = some true)
    (m_Misfit_NoDoor : PySem.W.mroIn K C_Misfit (.ref C_NoDoor) = some false) (d_Misfit_NoDoor : C_Misfit ≠ C_NoDoor)
    (m_Misfit_NoHouse : PySem.W.mroIn K C_Misfit (.ref C_NoHouse) = some false) (d_Misfit_NoHouse : C_Misfit ≠ C_NoHouse)
    (m_Misfit_NoLine : PySem.W.mroIn K C_Misfit (.ref C_NoLine) = some false) (d_Misfit_NoLine : C_Misfit ≠ C_NoLine)
    (m_Misfit_BadWord : PySem.W.mroIn K C_Misfit (.ref C_BadWord) = some false) (d_Misfit_BadWord : C_Misfit ≠ C_BadWord)
    (m_Misfit_Unlike : PySem.W.mroIn K C_Misfit (.ref C_Unlike) = some false) (d_Misfit_Unlike : C_Misfit ≠ C_Unlike)
    (v_Twice : PySem.W.mroIn K C_Twice (.type "ValueError") = some true)
    (m_Twice_Misfit : PySem.W.mroIn K C_Twice (.ref C_Misfit) = some false) (d_Twice_Misfit : C_Twice ≠ C_Misfit)
    (m_Twice_Twice : PySem.W.mroIn K C_Twice (.ref C_Twice) = some true)
    (m_Twice_NoField : PySem.W.mroIn K C_Twice (.ref C_NoField) = some false) (d_Twice_NoField : C_Twice ≠ C_NoField)
    (m_Twice_NoRule : PySem.W.mroIn K C_Twice (.ref C_NoRule) = some false) (d_Twice_NoRule : C_Twice ≠ C_NoRule)
    (m_Twice_NoWay : PySem.W.mroIn K C_Twice (.ref C_NoWay) = some false) (d_Twice_NoWay : C_Twice ≠ C_NoWay)
    (m_Twice_ThrongError : PySem.W.mroIn K C_Twice (.ref C_ThrongError) = some true)
    (m_Twice_NoDoor : PySem.W.mroIn K C_Twice (.ref C_NoDoor) = some false) (d_Twice_NoDoor : C_Twice ≠ C_NoDoor)
    (m_Twice_NoHouse : PySem.W.mroIn K C_Twice (.ref C_NoHouse) = some false) (d_Twice_NoHouse : C_Twice ≠ C_NoHouse)
    (m_Twice_NoLine : PySem.W.mroIn K C_Twice (.ref C_NoLine) = some false) (d_Twice_NoLine : C_Twice ≠ C_NoLine)
    (m_Twice_BadWord : PySem.W.mroIn K C_Twice (.ref C_BadWord) = some false) (d_Twice_BadWord : C_Twice ≠ C_BadWord)
    (m_Twice_Unlike : PySem.W.mroIn K C_Twice (.ref C_Unlike) = some false) (d_Twice_Unlike : C_Twice ≠ C_Unlike)
    (v_NoWay : PySem.W.mroIn K C_NoWay (.type "ValueError") = some true)
    (m_NoWay_Misfit : PySem.W.mroIn K C_NoWay (.ref C_Misfit) = some false) (d_NoWay_Misfit : C_NoWay ≠ C_Misfit)
    (m_NoWay_Twice : PySem.W.mroIn K C_NoWay (.ref C_Twice) = some false) (d_NoWay_Twice : C_NoWay ≠ C_Twice)
    (m_NoWay_NoField : PySem.W.mroIn K C_NoWay (.ref C_NoField) = some false) (d_NoWay_NoField : C_NoWay ≠ C_NoField)
    (m_NoWay_NoRule : PySem.W.mroIn K C_NoWay (.ref C_NoRule) = some false) (d_NoWay_NoRule : C_NoWay ≠ C_NoRule)
    (m_NoWay_NoWay : PySem.W.mroIn K C_NoWay (.ref C_NoWay) = some true)
    (m_NoWay_ThrongError : PySem.W.mroIn K C_NoWay (.ref C_ThrongError) = some true)
    (m_NoWay_NoDoor : PySem.W.mroIn K C_NoWay (.ref C_NoDoor) = some false) (d_NoWay_NoDoor : C_NoWay ≠ C_NoDoor)
    (m_NoWay_NoHouse : PySem.W.mroIn K C_NoWay (.ref C_NoHouse) = some false) (d_NoWay_NoHouse : C_NoWay ≠ C_NoHouse)
    (m_NoWay_NoLine : PySem.W.mroIn K C_NoWay (.ref C_NoLine) = some false) (d_NoWay_NoLine : C_NoWay ≠ C_NoLine)
    (m_NoWay_BadWord : PySem.W.mroIn K C_NoWay (.ref C_BadWord) = some false) (d_NoWay_BadWord : C_NoWay ≠ C_BadWord)
    (m_NoWay_Unlike : PySem.W.mroIn K C_NoWay (.ref C_Unlike) = some false) (d_NoWay_Unlike : C_NoWay ≠ C_Unlike)
    : Top K mg where
  c_Tree := clst_mk X G n_Tree pg_Tree hd_Tree po_Tree sa_Tree
  a_Tree_doors := noattr_mk n_Tree at_Tree_doors
  f_is_letter := ⟨_, _, fun_mk (st := s_is_letter) l0 c0 k0, PySem.W.mg_of X G a0⟩
  f_is_text_of := ⟨_, _, fun_mk (st := s_is_text_of) l1 c1 k1, PySem.W.mg_of X G a1⟩
  f_way_found := ⟨_, _, fun_mk (st := s_way_found) l2 c2 k2, PySem.W.mg_of X G a2⟩
  f_is_beginning := ⟨_, _, fun_mk (st := s_is_beginning) l3 c3 k3, PySem.W.mg_of X G a3⟩
  f__law_cell_at := ⟨_, _, fun_mk (st := s__law_cell_at) l4 c4 k4, PySem.W.mg_of X G a4⟩
  f__law_stream := ⟨_, _, fun_mk (st := s__law_stream) l5 c5 k5, PySem.W.mg_of X G a5⟩
  f__law_names := ⟨_, _, fun_mk (st := s__law_names) l6 c6 k6, PySem.W.mg_of X G a6⟩
  f__law_beginning := ⟨_, _, fun_mk (st := s__law_beginning) l7 c7 k7, PySem.W.mg_of X G a7⟩
  f__law_word := ⟨_, _, fun_mk (st := s__law_word) l8 c8 k8, PySem.W.mg_of X G a8⟩
  f__law_bad := ⟨_, _, fun_mk (st := s__law_bad) l9 c9 k9, PySem.W.mg_of X G a9⟩
  f__law_put := ⟨_, _, fun_mk (st := s__law_put) l10 c10 k10, PySem.W.mg_of X G a10⟩
  f__law_struck := ⟨_, _, fun_mk (st := s__law_struck) l11 c11 k11, PySem.W.mg_of X G a11⟩
  f__law_told := ⟨_, _, fun_mk (st := s__law_told) l12 c12 k12, PySem.W.mg_of X G a12⟩
  f_law := ⟨_, _, fun_mk (st := s_law) l13 c13 k13, PySem.W.mg_of X G a13⟩
  f_Tree____init__ := mkt_mk n_Tree mk_Tree kc_Tree a14 w14 (fun_mk (st := s_Tree____init__) l14 c14 k14)
  f_Tree__put_way := metht_mk n_Tree a15 w15 k15 (fun_mk (st := s_Tree__put_way) l15 c15 k15)
  f_Tree__strike_way := metht_mk n_Tree a16 w16 k16 (fun_mk (st := s_Tree__strike_way) l16 c16 k16)
  f_Tree__way_at := metht_mk n_Tree a17 w17 k17 (fun_mk (st := s_Tree__way_at) l17 c17 k17)
  f_Tree__told_ways := metht_mk n_Tree a18 w18 k18 (fun_mk (st := s_Tree__told_ways) l18 c18 k18)
  f_Tree__ways_below := metht_mk n_Tree a19 w19 k19 (fun_mk (st := s_Tree__ways_below) l19 c19 k19)
  b_isinstance := PySem.W.mg_none_of X G z_isinstance
  b_str := PySem.W.mg_none_of X G z_str
  b_len := PySem.W.mg_none_of X G z_len
  b_range := PySem.W.mg_none_of X G z_range
  b_int := PySem.W.mg_none_of X G z_int
  b_ValueError := PySem.W.mg_none_of X G z_ValueError
  b_sorted := PySem.W.mg_none_of X G z_sorted
  b_list := PySem.W.mg_none_of X G z_list
  g_LONGEST := ⟨_, PySem.W.mg_of X G n_LONGEST⟩
  x_Misfit := xn_mk X G n_Misfit q_Misfit t_Misfit b_Misfit g_Misfit h_Misfit a_Misfit o_Misfit sgt stk
  x_Twice := xn_mk X G n_Twice q_Twice t_Twice b_Twice g_Twice h_Twice a_Twice o_Twice sgt stk
  x_NoWay := xn_mk X G n_NoWay q_NoWay t_NoWay b_NoWay g_NoWay h_NoWay a_NoWay o_NoWay sgt stk
  x_ThrongError := xn_mk X G n_ThrongError q_ThrongError t_ThrongError b_ThrongError g_ThrongError h_ThrongError a_ThrongError o_ThrongError sgt stk
  t_NoField := xt_mk X G n_NoField t_NoField b_NoField
  t_NoRule := xt_mk X G n_NoRule t_NoRule b_NoRule
  t_NoDoor := xt_mk X G n_NoDoor t_NoDoor b_NoDoor
  t_NoHouse := xt_mk X G n_NoHouse t_NoHouse b_NoHouse
  t_NoLine := xt_mk X G n_NoLine t_NoLine b_NoLine
  t_BadWord := xt_mk X G n_BadWord t_BadWord b_BadWord
  t_Unlike := xt_mk X G n_Unlike t_Unlike b_Unlike
  v_Misfit := xv_mk n_Misfit v_Misfit
  m_Misfit_Misfit := xm_mk n_Misfit n_Misfit m_Misfit_Misfit (fun z => nomatch z)
  m_Misfit_Twice := xm_mk n_Misfit n_Twice m_Misfit_Twice (fun _ => d_Misfit_Twice)
  m_Misfit_NoField := xm_mk n_Misfit n_NoField m_Misfit_NoField (fun _ => d_Misfit_NoField)
  m_Misfit_NoRule := xm_mk n_Misfit n_NoRule m_Misfit_NoRule (fun _ => d_Misfit_NoRule)
  m_Misfit_NoWay := xm_mk n_Misfit n_NoWay m_Misfit_NoWay (fun _ => d_Misfit_NoWay)
  m_Misfit_ThrongError := xm_mk n_Misfit n_ThrongError m_Misfit_ThrongError (fun z => nomatch z)
  m_Misfit_NoDoor := xm_mk n_Misfit n_NoDoor m_Misfit_NoDoor (fun _ => d_Misfit_NoDoor)
  m_Misfit_NoHouse := xm_mk n_Misfit n_NoHouse m_Misfit_NoHouse (fun _ => d_Misfit_NoHouse)
  m_Misfit_NoLine := xm_mk n_Misfit n_NoLine m_Misfit_NoLine (fun _ => d_Misfit_NoLine)
  m_Misfit_BadWord := xm_mk n_Misfit n_BadWord m_Misfit_BadWord (fun _ => d_Misfit_BadWord)
  m_Misfit_Unlike := xm_mk n_Misfit n_Unlike m_Misfit_Unlike (fun _ => d_Misfit_Unlike)
  v_Twice := xv_mk n_Twice v_Twice
  m_Twice_Misfit := xm_mk n_Twice n_Misfit m_Twice_Misfit (fun _ => d_Twice_Misfit)
  m_Twice_Twice := xm_mk n_Twice n_Twice m_Twice_Twice (fun z => nomatch z)
  m_Twice_NoField := xm_mk n_Twice n_NoField m_Twice_NoField (fun _ => d_Twice_NoField)
  m_Twice_NoRule := xm_mk n_Twice n_NoRule m_Twice_NoRule (fun _ => d_Twice_NoRule)
  m_Twice_NoWay := xm_mk n_Twice n_NoWay m_Twice_NoWay (fun _ => d_Twice_NoWay)
  m_Twice_ThrongError := xm_mk n_Twice n_ThrongError m_Twice_ThrongError (fun z => nomatch z)
  m_Twice_NoDoor := xm_mk n_Twice n_NoDoor m_Twice_NoDoor (fun _ => d_Twice_NoDoor)
  m_Twice_NoHouse := xm_mk n_Twice n_NoHouse m_Twice_NoHouse (fun _ => d_Twice_NoHouse)
  m_Twice_NoLine := xm_mk n_Twice n_NoLine m_Twice_NoLine (fun _ => d_Twice_NoLine)
  m_Twice_BadWord := xm_mk n_Twice n_BadWord m_Twice_BadWord (fun _ => d_Twice_BadWord)
  m_Twice_Unlike := xm_mk n_Twice n_Unlike m_Twice_Unlike (fun _ => d_Twice_Unlike)
  v_NoWay := xv_mk n_NoWay v_NoWay
  m_NoWay_Misfit := xm_mk n_NoWay n_Misfit m_NoWay_Misfit (fun _ => d_NoWay_Misfit)
  m_NoWay_Twice := xm_mk n_NoWay n_Twice m_NoWay_Twice (fun _ => d_NoWay_Twice)
  m_NoWay_NoField := xm_mk n_NoWay n_NoField m_NoWay_NoField (fun _ => d_NoWay_NoField)
  m_NoWay_NoRule := xm_mk n_NoWay n_NoRule m_NoWay_NoRule (fun _ => d_NoWay_NoRule)
  m_NoWay_NoWay := xm_mk n_NoWay n_NoWay m_NoWay_NoWay (fun z => nomatch z)
  m_NoWay_ThrongError := xm_mk n_NoWay n_ThrongError m_NoWay_ThrongError (fun z => nomatch z)
  m_NoWay_NoDoor := xm_mk n_NoWay n_NoDoor m_NoWay_NoDoor (fun _ => d_NoWay_NoDoor)
  m_NoWay_NoHouse := xm_mk n_NoWay n_NoHouse m_NoWay_NoHouse (fun _ => d_NoWay_NoHouse)
  m_NoWay_NoLine := xm_mk n_NoWay n_NoLine m_NoWay_NoLine (fun _ => d_NoWay_NoLine)
  m_NoWay_BadWord := xm_mk n_NoWay n_BadWord m_NoWay_BadWord (fun _ => d_NoWay_BadWord)
  m_NoWay_Unlike := xm_mk n_NoWay n_Unlike m_NoWay_Unlike (fun _ => d_NoWay_Unlike)
theorem law_bind {P : Program} {w : World} {K : PySem.W.Frag} {mg : Str → Option Value} (T : Top K mg) : ∃ f fd, (∀ base : Heap, FnOk P w K mg base CX0 6 f fd ["_law_script"] (sp_law K)) ∧ (∀ (s : Shared) (u : Value), BindsTo s fd ⟨[u], []⟩ [("_law_script", u)]) ∧ mg "law" = some (.ref f) := by
  obtain ⟨f, fd, F, m⟩ := T.f_law
  refine ⟨f, fd, fun base => ok_law T F, ?_, m⟩
  obtain ⟨oc, od, kV, doc, pm, an, cdv, ct, osl, rfl, lk, hcd⟩ := F.ex
  exact fun s u => .of_eq rfl
theorem walk {l : PySem.W.OpenLaw} {q : Program} {loose : List Str} {XP : (Str → Option Value) → Heap → Prop} {α : Type} {Yf : Shared → α} {Ya : World → α} {d : DefRec} {K : Params → PySem.W.Frag} (hn : l.most = some 63) (hdf : d.params.defaults = [])
    (hY : ∀ (w : World) (s : Shared), Yf s = Ya w → (K w.params).In s.heap ∧ 0 < s.toks)
    (F : ∀ (w : World) (mg : Str → Option Value) (fa : Addr) (h : Heap), (K w.params).In h → h.Ns mainGlobals mg → mg d.name = some (.ref fa) →
      ∃ fd : FuncData, (∀ (s : Shared) (u : Value), BindsTo s fd ⟨[u], []⟩ [("_law_script", u)]) ∧ ∀ base : Heap, (K w.params).In base → base.Ns mainGlobals mg → FnOk l.prog w (K w.params) mg base CX0 6 fa fd ["_law_script"] (sp_law (K w.params))) :
    PySem.W.WalkX q loose XP Yf Ya l.row.toRowW d [] (fun f vs => PySem.call f vs) :=
  L2.walk_ofX (n := 63) (k := 6) (x := "_law_script") (CX := fun _ => CX0) (sp := fun w => sp_law (K w.params)) hn (by decide) hdf ⟨rfl, by decide, by decide, rfl⟩ hY F (fun _ _ a ns hl _ hS => ⟨ns, hS, hl, fun _ => rfl⟩) fun _ _ _ _ _ z => z
end Law
open PySem PySem.W PyProof.Rows
set_option maxRecDepth 100000 in
set_option maxHeartbeats 0 in
theorem PySem.Challenge.cw_throng_k25_tree_refuses_holds : PySem.Challenge.rw_throng_k25_tree_refuses.Holds := by
  w_on; o_law; z_head; (case hw => w_witness2)
  k_fill
  refine Law.walk (l := PySem.Challenge.rw_throng_k25_tree_refuses) rfl rfl (fun w s Y => L2.z_pos Y (fun _ => rfl) (by decide)) ?F
  case F =>
    intro w mg fa h KX G hmg
    have T : Law.Top (L2.KOf KX) mg := by
      dsimp only [L2.KOf]
      refine' Law.all_mk KX G ?n_Tree ?pg_Tree ?hd_Tree ?po_Tree ?sa_Tree ?mk_Tree ?kc_Tree ?at_Tree_doors ?a0 ?l0 ?c0 ?k0 ?a1 ?l1 ?c1 ?k1 ?a2 ?l2 ?c2 ?k2 ?a3 ?l3 ?c3 ?k3 ?a4 ?l4 ?c4 ?k4 ?a5 ?l5 ?c5 ?k5 ?a6 ?l6 ?c6 ?k6 ?a7 ?l7 ?c7 ?k7 ?a8 ?l8 ?c8 ?k8 ?a9 ?l9 ?c9 ?k9 ?a10 ?l10 ?c10 ?k10 ?a11 ?l11 ?c11 ?k11 ?a12 ?l12 ?c12 ?k12 ?a13 ?l13 ?c13 ?k13 ?a14 ?l14 ?c14 ?k14 ?w14 ?a15 ?l15 ?c15 ?k15 ?w15 ?a16 ?l16 ?c16 ?k16 ?w16 ?a17 ?l17 ?c17 ?k17 ?w17 ?a18 ?l18 ?c18 ?k18 ?w18 ?a19 ?l19 ?c19 ?k19 ?w19 ?z_isinstance ?z_str ?z_len ?z_range ?z_int ?z_ValueError ?z_sorted ?z_list ?n_LONGEST ?n_Misfit ?q_Misfit ?t_Misfit ?b_Misfit ?g_Misfit ?h_Misfit ?a_Misfit ?o_Misfit ?n_Twice ?q_Twice ?t_Twice ?b_Twice ?g_Twice ?h_Twice ?a_Twice ?o_Twice ?n_NoWay ?q_NoWay ?t_NoWay ?b_NoWay ?g_NoWay ?h_NoWay ?a_NoWay ?o_NoWay ?n_ThrongError ?q_ThrongError ?t_ThrongError ?b_ThrongError ?g_ThrongError ?h_ThrongError ?a_ThrongError ?o_ThrongError ?n_NoField ?t_NoField ?b_NoField ?n_NoRule ?t_NoRule ?b_NoRule ?n_NoDoor ?t_NoDoor ?b_NoDoor ?n_NoHouse ?t_NoHouse ?b_NoHouse ?n_NoLine ?t_NoLine ?b_NoLine ?n_BadWord ?t_BadWord ?b_BadWord ?n_Unlike ?t_Unlike ?b_Unlike ?sgt ?stk ?v_Misfit ?m_Misfit_Misfit ?m_Misfit_Twice ?d_Misfit_Twice ?m_Misfit_NoField ?d_Misfit_NoField ?m_Misfit_NoRule ?d_Misfit_NoRule ?m_Misfit_NoWay ?d_Misfit_NoWay ?m_Misfit_ThrongError ?m_Misfit_NoDoor ?d_Misfit_NoDoor ?m_Misfit_NoHouse ?d_Misfit_NoHouse ?m_Misfit_NoLine ?d_Misfit_NoLine ?m_Misfit_BadWord ?d_Misfit_BadWord ?m_Misfit_Unlike ?d_Misfit_Unlike ?v_Twice ?m_Twice_Misfit ?d_Twice_Misfit ?m_Twice_Twice ?m_Twice_NoField ?d_Twice_NoField ?m_Twice_NoRule ?d_Twice_NoRule ?m_Twice_NoWay ?d_Twice_NoWay ?m_Twice_ThrongError ?m_Twice_NoDoor ?d_Twice_NoDoor ?m_Twice_NoHouse ?d_Twice_NoHouse ?m_Twice_NoLine ?d_Twice_NoLine ?m_Twice_BadWord ?d_Twice_BadWord ?m_Twice_Unlike ?d_Twice_Unlike ?v_NoWay ?m_NoWay_Misfit ?d_NoWay_Misfit ?m_NoWay_Twice ?d_NoWay_Twice ?m_NoWay_NoField ?d_NoWay_NoField ?m_NoWay_NoRule ?d_NoWay_NoRule ?m_NoWay_NoWay ?m_NoWay_ThrongError ?m_NoWay_NoDoor ?d_NoWay_NoDoor ?m_NoWay_NoHouse ?d_NoWay_NoHouse ?m_NoWay_NoLine ?d_NoWay_NoLine ?m_NoWay_BadWord ?d_NoWay_BadWord ?m_NoWay_Unlike ?d_NoWay_Unlike
      (case n_Tree => k_is); (case pg_Tree => k_is); (case hd_Tree => k_is); (case po_Tree => k_is); (case sa_Tree => k_is); (case mk_Tree => k_is); (case kc_Tree => k_is)
      (case at_Tree_doors => k_is)
      (case a0 => k_is); (case l0 => k_is); (case c0 => k_is); (case k0 => k_is)
      (case a1 => k_is); (case l1 => k_is); (case c1 => k_is); (case k1 => k_is)
      (case a2 => k_is); (case l2 => k_is); (case c2 => k_is); (case k2 => k_is)
      (case a3 => k_is); (case l3 => k_is); (case c3 => k_is); (case k3 => k_is)
      (case a4 => k_is); (case l4 => k_is); (case c4 => k_is); (case k4 => k_is)
      (case a5 => k_is); (case l5 => k_is); (case c5 => k_is); (case k5 => k_is)
      (case a6 => k_is); (case l6 => k_is); (case c6 => k_is); (case k6 => k_is)
      (case a7 => k_is); (case l7 => k_is); (case c7 => k_is); (case k7 => k_is)
      (case a8 => k_is); (case l8 => k_is); (case c8 => k_is); (case k8 => k_is)
      (case a9 => k_is); (case l9 => k_is); (case c9 => k_is); (case k9 => k_is)
      (case a10 => k_is); (case l10 => k_is); (case c10 => k_is); (case k10 => k_is)
      (case a11 => k_is); (case l11 => k_is); (case c11 => k_is); (case k11 => k_is)
      (case a12 => k_is); (case l12 => k_is); (case c12 => k_is); (case k12 => k_is)
      (case a13 => k_is); (case l13 => k_is); (case c13 => k_is); (case k13 => k_is)
      (case a14 => k_is); (case l14 => k_is); (case c14 => k_is); (case k14 => k_is); (case w14 => k_is)
      (case a15 => k_is); (case l15 => k_is); (case c15 => k_is); (case k15 => k_is); (case w15 => k_is)
      (case a16 => k_is); (case l16 => k_is); (case c16 => k_is); (case k16 => k_is); (case w16 => k_is)
      (case a17 => k_is); (case l17 => k_is); (case c17 => k_is); (case k17 => k_is); (case w17 => k_is)
      (case a18 => k_is); (case l18 => k_is); (case c18 => k_is); (case k18 => k_is); (case w18 => k_is)
      (case a19 => k_is); (case l19 => k_is); (case c19 => k_is); (case k19 => k_is); (case w19 => k_is)
      (case z_isinstance => k_is)
      (case z_str => k_is)
      (case z_len => k_is)
      (case z_range => k_is)
      (case z_int => k_is)
      (case z_ValueError => k_is)
      (case z_sorted => k_is)
      (case z_list => k_is)
      (case n_LONGEST => k_is)
      (case n_Misfit => k_is); (case q_Misfit => k_exc); (case t_Misfit => k_is); (case b_Misfit => k_is); (case g_Misfit => k_is); (case h_Misfit => k_is); (case a_Misfit => k_is); (case o_Misfit => k_is)
      (case n_Twice => k_is); (case q_Twice => k_exc); (case t_Twice => k_is); (case b_Twice => k_is); (case g_Twice => k_is); (case h_Twice => k_is); (case a_Twice => k_is); (case o_Twice => k_is)
      (case n_NoWay => k_is); (case q_NoWay => k_exc); (case t_NoWay => k_is); (case b_NoWay => k_is); (case g_NoWay => k_is); (case h_NoWay => k_is); (case a_NoWay => k_is); (case o_NoWay => k_is)
      (case n_ThrongError => k_is); (case q_ThrongError => k_exc); (case t_ThrongError => k_is); (case b_ThrongError => k_is); (case g_ThrongError => k_is); (case h_ThrongError => k_is); (case a_ThrongError => k_is); (case o_ThrongError => k_is)
      (case n_NoField => k_is); (case t_NoField => k_is); (case b_NoField => k_is)
      (case n_NoRule => k_is); (case t_NoRule => k_is); (case b_NoRule => k_is)
      (case n_NoDoor => k_is); (case t_NoDoor => k_is); (case b_NoDoor => k_is)
      (case n_NoHouse => k_is); (case t_NoHouse => k_is); (case b_NoHouse => k_is)
      (case n_NoLine => k_is); (case t_NoLine => k_is); (case b_NoLine => k_is)
      (case n_BadWord => k_is); (case t_BadWord => k_is); (case b_BadWord => k_is)
      (case n_Unlike => k_is); (case t_Unlike => k_is); (case b_Unlike => k_is)
      (case sgt => k_is); (case stk => k_is)
      (case v_Misfit => k_is)
      (case m_Misfit_Misfit => k_is)
      (case m_Misfit_Twice => k_is); (case d_Misfit_Twice => decide)
      (case m_Misfit_NoField => k_is); (case d_Misfit_NoField => decide)
      (case m_Misfit_NoRule => k_is); (case d_Misfit_NoRule => decide)
      (case m_Misfit_NoWay => k_is); (case d_Misfit_NoWay => decide)
      (case m_Misfit_ThrongError => k_is)
      (case m_Misfit_NoDoor => k_is); (case d_Misfit_NoDoor => decide)
      (case m_Misfit_NoHouse => k_is); (case d_Misfit_NoHouse => decide)
      (case m_Misfit_NoLine => k_is); (case d_Misfit_NoLine => decide)
      (case m_Misfit_BadWord => k_is); (case d_Misfit_BadWord => decide)
      (case m_Misfit_Unlike => k_is); (case d_Misfit_Unlike => decide)
      (case v_Twice => k_is)
      (case m_Twice_Misfit => k_is); (case d_Twice_Misfit => decide)
      (case m_Twice_Twice => k_is)
      (case m_Twice_NoField => k_is); (case d_Twice_NoField => decide)
      (case m_Twice_NoRule => k_is); (case d_Twice_NoRule => decide)
      (case m_Twice_NoWay => k_is); (case d_Twice_NoWay => decide)
      (case m_Twice_ThrongError => k_is)
      (case m_Twice_NoDoor => k_is); (case d_Twice_NoDoor => decide)
      (case m_Twice_NoHouse => k_is); (case d_Twice_NoHouse => decide)
      (case m_Twice_NoLine => k_is); (case d_Twice_NoLine => decide)
      (case m_Twice_BadWord => k_is); (case d_Twice_BadWord => decide)
      (case m_Twice_Unlike => k_is); (case d_Twice_Unlike => decide)
      (case v_NoWay => k_is)
      (case m_NoWay_Misfit => k_is); (case d_NoWay_Misfit => decide)
      (case m_NoWay_Twice => k_is); (case d_NoWay_Twice => decide)
      (case m_NoWay_NoField => k_is); (case d_NoWay_NoField => decide)
      (case m_NoWay_NoRule => k_is); (case d_NoWay_NoRule => decide)
      (case m_NoWay_NoWay => k_is)
      (case m_NoWay_ThrongError => k_is)
      (case m_NoWay_NoDoor => k_is); (case d_NoWay_NoDoor => decide)
      (case m_NoWay_NoHouse => k_is); (case d_NoWay_NoHouse => decide)
      (case m_NoWay_NoLine => k_is); (case d_NoWay_NoLine => decide)
      (case m_NoWay_BadWord => k_is); (case d_NoWay_BadWord => decide)
      (case m_NoWay_Unlike => k_is); (case d_NoWay_Unlike => decide)
    obtain ⟨f, fd, F, b, m⟩ := Law.law_bind (P := PySem.Challenge.pw_throng_k25_tree_refuses) (w := w) T
    have e0 := hmg.symm.trans m
    cases e0
    exact ⟨fd, b, fun base _ _ => F base⟩
#print axioms PySem.Challenge.cw_throng_k25_tree_refuses_holds
