import PyProof.Rows.All
import Wide.All
import OpenK.AllK
import Wide.FinOn
import Lean
import PyProof.EqAt
import PyProof.EqKinds
import PyProof.TupleCall
import PySem.Challenge.RW_lampfloor_k10_lines
set_option Elab.async false
set_option linter.all false
set_option maxRecDepth 100000
set_option maxHeartbeats 4000000
/-! THE HAND LAYER, for ints, bools, texts, own classes, LISTS and tuples (index, slices, in, append, pop ..), calls, loops. Paste it whole ahead of your own text; what your proof does not reach may be deleted. -/
namespace L2
open PySem PySem.Spec PyProof.Rows

/-- a key: an int or a str -/
abbrev Key := Sum Int Str
def keyIs : Key → Value → Bool
  | .inl k, v => Value.isInt k v
  | .inr x, v => Value.isStrOf x v
def keyH (w : World) : Key → Int
  | .inl k => hashInt k
  | .inr x => hashStr w x
theorem keyIs_shape : ∀ {k : Key} {v : Value}, keyIs k v = true → (∃ i t, k = Sum.inl i ∧ v = Value.int i t) ∨ (∃ x t, k = Sum.inr x ∧ v = Value.str x t)
  | .inl i, v, h => by
    obtain ⟨t, e⟩ := Value.isInt_shape (k := i) (v := v) h
    exact .inl ⟨i, t, rfl, e⟩
  | .inr x, v, h => by
    obtain ⟨t, e⟩ := Value.isStrOf_shape (x := x) (v := v) h
    exact .inr ⟨x, t, rfl, e⟩
theorem keyIs_int (i : Int) (t : Tok) : keyIs (.inl i) (.int i t) = true := by simp [keyIs, Value.isInt]
theorem keyIs_str (x : Str) (t : Tok) : keyIs (.inr x) (.str x t) = true := by simp [keyIs, Value.isStrOf]
theorem key_ll (a b : Int) : decide ((Sum.inl a : Key) = Sum.inl b) = (a == b) := by
  by_cases e : a = b
  · subst e; simp
  · have h : ¬ (Sum.inl a : Key) = Sum.inl b := fun q => e (Sum.inl.inj q)
    rw [decide_eq_false h]
    exact (beq_eq_false_iff_ne.mpr e).symm
theorem key_rr (a b : Str) : decide ((Sum.inr a : Key) = Sum.inr b) = decide (a = b) := by
  by_cases e : a = b
  · subst e; simp
  · have h : ¬ (Sum.inr a : Key) = Sum.inr b := fun q => e (Sum.inr.inj q)
    rw [decide_eq_false h, decide_eq_false e]
theorem key_lr (a : Int) (b : Str) : decide ((Sum.inl a : Key) = Sum.inr b) = false := decide_eq_false (fun q => nomatch q)
theorem key_rl (a : Str) (b : Int) : decide ((Sum.inr a : Key) = Sum.inl b) = false := decide_eq_false (fun q => nomatch q)

def mixKind (prog : Program) (w : World) : PySem.KeyKind prog w Key where
  is := keyIs
  hash := keyH w
  inj := fun v a b ha hb => by
    rcases keyIs_shape ha with ⟨i, t, rfl, rfl⟩ | ⟨x, t, rfl, rfl⟩
    · rcases keyIs_shape hb with ⟨j, u, rfl, e⟩ | ⟨y, u, rfl, e⟩
      · injection e with e1 _; rw [e1]
      · exact nomatch e
    · rcases keyIs_shape hb with ⟨j, u, rfl, e⟩ | ⟨y, u, rfl, e⟩
      · exact nomatch e
      · injection e with e1 _; rw [e1]
  byValue := fun k v h => by
    rcases keyIs_shape h with ⟨i, t, rfl, rfl⟩ | ⟨x, t, rfl, rfl⟩ <;> rfl
  pyHash := fun hv h => by
    rcases keyIs_shape hv with ⟨i, t, rfl, rfl⟩ | ⟨x, t, rfl, rfl⟩
    · exact wpAny_pyHash_int h
    · exact wpAny_pyHash_str h
  eqBool := fun hu hv h => by
    rcases keyIs_shape hu with ⟨i, t, rfl, rfl⟩ | ⟨x, t, rfl, rfl⟩
    · rcases keyIs_shape hv with ⟨j, u, rfl, rfl⟩ | ⟨y, u, rfl, rfl⟩
      · rw [key_ll] at h; exact wpAny_eqBool_int h
      · rw [key_lr] at h; exact SeqAt.EqAt.int_str i t y u _ _ _ _ h
    · rcases keyIs_shape hv with ⟨j, u, rfl, rfl⟩ | ⟨y, u, rfl, rfl⟩
      · rw [key_rl] at h; exact SeqAt.EqAt.str_int x t j u _ _ _ _ h
      · rw [key_rr] at h; exact wpAny_eqBool_str h
  «strs» := fun k x t v h => by
    rcases keyIs_shape h with ⟨i, u, rfl, e⟩ | ⟨y, u, rfl, e⟩
    · exact nomatch e
    · injection e with e1 _
      subst e1
      cases v <;> rfl

theorem mixKind_is (prog : Program) (w : World) (k : Key) (v : Value) : (mixKind prog w).is k v = keyIs k v := rfl
theorem mixKind_int (prog : Program) (w : World) (i : Int) (t : Tok) : (mixKind prog w).is (.inl i) (.int i t) = true := keyIs_int i t
theorem mixKind_str (prog : Program) (w : World) (x : Str) (t : Tok) : (mixKind prog w).is (.inr x) (.str x t) = true := keyIs_str x t
end L2

namespace L2
open PySem PySem.Spec PyProof.Rows

/-- a value, without the heap -/
inductive V where
  | non | bl (b : Bool) | int (i : Int) | str (x : Str) | byt (b : Array UInt8) | flt (b : UInt64) | ref (a : Addr) | ty (n : String)
  deriving DecidableEq

def RelV : V → Value → Prop
  | .non, u => u = Value.none
  | .bl b, u => u = Value.bool b
  | .int i, u => ∃ t, u = Value.int i t
  | .str x, u => ∃ t, u = Value.str x t
  | .byt b, u => ∃ t, u = Value.bytes b t
  | .flt b, u => ∃ t, u = Value.float b t
  | .ref a, u => u = Value.ref a
  | .ty n, u => u = Value.type n

abbrev Vals : List V → List Value → Prop := Paired RelV
theorem Vals.length {xs : List V} {us : List Value} (r : Vals xs us) : xs.length = us.length := Paired.length r
theorem Vals.get : ∀ {xs : List V} {us : List Value} {i : Nat} {x : V}, Vals xs us → xs[i]? = some x → ∃ u, us[i]? = some u ∧ RelV x u
  | _, _, _, _, .nil, e => by simp at e
  | _, _, 0, _, .cons r _, e => by simp at e; subst e; exact ⟨_, rfl, r⟩
  | _, _, i + 1, x, .cons _ t, e => by
    obtain ⟨u, h1, h2⟩ := Vals.get (i := i) (x := x) t (by simpa using e)
    exact ⟨u, by simpa using h1, h2⟩
theorem Vals.set {x : V} {u : Value} (r : RelV x u) : ∀ {xs : List V} {us : List Value} (i : Nat), Vals xs us → Vals (xs.set i x) (us.set i u)
  | _, _, _, .nil => .nil
  | _, _, 0, .cons _ t => .cons r t
  | _, _, i + 1, .cons q t => .cons q (Vals.set r i t)
theorem Vals.append : ∀ {xs ys : List V} {us ws : List Value}, Vals xs us → Vals ys ws → Vals (xs ++ ys) (us ++ ws)
  | _, _, _, _, .nil, s => s
  | _, _, _, _, .cons r t, s => .cons r (Vals.append t s)
theorem Vals.take : ∀ {xs : List V} {us : List Value} (n : Nat), Vals xs us → Vals (xs.take n) (us.take n)
  | _, _, 0, _ => .nil
  | _, _, _ + 1, .nil => .nil
  | _, _, n + 1, .cons r t => .cons r (Vals.take n t)
theorem Vals.drop : ∀ {xs : List V} {us : List Value} (n : Nat), Vals xs us → Vals (xs.drop n) (us.drop n)
  | _, _, 0, r => r
  | _, _, _ + 1, .nil => .nil
  | _, _, n + 1, .cons _ t => Vals.drop n t
theorem Vals.none_of : ∀ {xs : List V} {us : List Value} {i : Nat}, Vals xs us → xs[i]? = none → us[i]? = none := fun {xs us i} r e => by
  have h1 := r.length
  have h2 : xs.length ≤ i := List.getElem?_eq_none_iff.mp e
  exact List.getElem?_eq_none_iff.mpr (by omega)

def RelO : Option V → Option Value → Prop
  | some v, some u => RelV v u
  | none, none => True
  | _, _ => False
def KV {κ : Type} : List (κ × V) → List (κ × Value) → Prop := Paired fun (p : κ × V) (q : κ × Value) => p.1 = q.1 ∧ RelV p.2 q.2

/-- a key of a dict (00_mix): an int or a text -/
def kV : Key → V
  | .inl i => .int i
  | .inr x => .str x

/-- what stands at a tracked address -/
inductive HO where
  /-- a list -/
  | lst (xs : List V)
  /-- a tuple (never changes) -/
  | tup (xs : List V)
  /-- a dict whose keys are ints and texts; one whose keys are tuples of ints and texts (the empty one is both) -/
  | dK (kvs : List (Key × V)) | dT (kvs : List (List Key × V))
  /-- a set of ints: its members, its size -/
  | set (S : Int → Bool) (n : Nat)
  /-- an instance of the class at C, its dict at dx, its attributes -/
  | ins (C dx : Addr) (fs : List (Str × V))
  /-- the dict of the instance at x -/
  | own (x : Addr)
  /-- the dict of an exception -/
  | xd (fs : List (Str × V))
  /-- a bound method, f of x -/
  | met (f x : Addr)
  /-- a range object lo, lo + 1, .. below hi -/
  | rng (lo hi : Int)
  /-- a thing that is known to the object (the script; a dict while a loop walks it): read, never written while it is so -/
  | frz (o : Obj) (u : HO)
  /-- a code object's table -/
  | tbl (ps : Array Value)
  /-- any other thing, by what is true of its one object (a def of one's own: SetO a S n := HO.ext fun h => ..) -/
  | ext (φ : Heap → Prop)

abbrev Hp := Addr → Option HO
def upd (H : Hp) (a : Addr) (o : HO) : Hp := fun b => if b = a then some o else H b
theorem upd_same {H : Hp} {a : Addr} {o : HO} : upd H a o a = some o := by unfold upd; rw [if_pos rfl]
theorem upd_ne {H : Hp} {a b : Addr} {o : HO} (h : b ≠ a) : upd H a o b = H b := by unfold upd; rw [if_neg h]
theorem upd_upd {H : Hp} {a : Addr} {o u : HO} : upd (upd H a o) a u = upd H a u := by
  funext b; unfold upd; split <;> rfl
/-- two objects of different content stand apart -/
theorem ne_of {H : Hp} {a b : Addr} {o u : HO} (h : H a = some o) (h' : H b = some u) (d : o ≠ u) : a ≠ b := by
  intro e; subst e; rw [h] at h'; exact d (Option.some.inj h')
theorem ne_of_none {H : Hp} {a b : Addr} {o : HO} (h : H a = some o) (h' : H b = none) : a ≠ b := by
  intro e; subst e; rw [h] at h'; cases h'

section
variable (P : Program) (w : World)
def ObjOk (H : Hp) (h : Heap) (a : Addr) : HO → Prop
  | .lst xs => xs.length ≤ sizeLine ∧ ∃ (its : List Value) (n : Nat), Vals xs its ∧ h.get? a = some { cls := .type "list", data := .seq its.toArray n }
  | .tup xs => xs.length ≤ sizeLine ∧ ∃ its : List Value, Vals xs its ∧ IsTup h a its.toArray
  | .dK kvs => kvs.length ≤ sizeLine ∧ (a == sysModules) = false ∧ ∃ vs, KV kvs vs ∧ h.DictOf (mixKind P w) a vs
  | .dT kvs => kvs.length ≤ sizeLine ∧ (a == sysModules) = false ∧ ∃ xs : List (List Key × Addr × Value),
      Paired (fun (p : List Key × V) (q : List Key × Addr × Value) => p.1 = q.1 ∧ H q.2.1 = some (.tup (p.1.map kV)) ∧ RelV p.2 q.2.2) kvs xs ∧
      ∃ o es ep, h.get? a = some o ∧ o.ExactDict ∧ o.data = .dict es ep ∧ es.toList = xs.map (entryOfKey (tupleKind (mixKind P w))) ∧ (xs.map (·.1)).Nodup
  | .set S n => h.SetOf (intKind P w) a S n
  | .ins C dx fs => H dx = some (.own a) ∧ fs.length ≤ 1000 ∧ dx ≠ a ∧ h.get? a = some (PySem.W.instObj C dx) ∧
      ∃ mA, h.Ns1 dx mA ∧ (∀ f, RelO (fs.lookup f) (mA f)) ∧ PySem.Within mA (fs.map (·.1))
  | .own _ => ∃ o, h.get? a = some o
  | .xd fs => ∃ mA, h.Ns1 a mA ∧ ∀ f, RelO (fs.lookup f) (mA f)
  | .rng lo hi => ∃ t u v, h.get? a = some { cls := .type "range", data := .fields #[.int lo t, .int hi u, .int 1 v] }
  | .frz o u => h.get? a = some o ∧ ObjOk H h a u
  | .tbl ps => h.get? a = some { cls := .none, data := .fields ps }
  | .met f x => h.get? a = some (PySem.W.methodObj (.ref f) (.ref x))
  | .ext φ => φ h ∧ (∃ o, h.get? a = some o) ∧ ∀ h1 h2 : Heap, φ h1 → (∀ o, h1.get? a = some o → h2.get? a = some o) → φ h2
/-- the abstract heap is held -/
def HOk (H : Hp) (h : Heap) : Prop := ∀ a o, H a = some o → ObjOk P w H h a o
end

section
variable {P : Program} {w : World} {H H' : Hp} {h h' : Heap} {a : Addr} {o : HO}
theorem ObjOk.lt (x : ObjOk P w H h a o) : a < h.objs.size := by
  cases o with
  | lst xs => obtain ⟨_, _, _, _, e⟩ := x; exact Heap.lt_size e
  | tup xs => obtain ⟨_, _, _, p⟩ := x; exact p.lt
  | dK kvs => obtain ⟨_, _, _, _, o, _, _, e, _⟩ := x; exact Heap.lt_size e
  | dT kvs => obtain ⟨_, _, _, _, o, _, _, e, _⟩ := x; exact Heap.lt_size e
  | set S n => obtain ⟨o, _, _, _, e, _⟩ := x; exact Heap.lt_size e
  | ins C dx fs => obtain ⟨_, _, _, e, _⟩ := x; exact Heap.lt_size e
  | own y => obtain ⟨_, e⟩ := x; exact Heap.lt_size e
  | xd fs => obtain ⟨_, ⟨_, _, _, e, _⟩, _⟩ := x; exact Heap.lt_size e
  | rng lo hi => obtain ⟨_, _, _, e⟩ := x; exact Heap.lt_size e
  | frz ob u => obtain ⟨e, _⟩ := x; exact Heap.lt_size e
  | tbl ps => exact Heap.lt_size (show h.get? a = some _ from x)
  | met f y => exact Heap.lt_size (show h.get? a = some _ from x)
  | ext φ => obtain ⟨_, ⟨_, e⟩, _⟩ := x; exact Heap.lt_size e
theorem Paired.mapP {α β : Type} {F G : α → β → Prop} : ∀ {l₁ : List α} {l₂ : List β}, Paired F l₁ l₂ → (∀ a b, F a b → G a b) → Paired G l₁ l₂
  | _, _, .nil, _ => .nil
  | _, _, .cons r t, f => .cons (f _ _ r) (Paired.mapP t f)
theorem Paired.imp' {α β : Type} {F G : α → β → Prop} (f : ∀ a b, F a b → G a b) {l₁ : List α} {l₂ : List β} (r : Paired F l₁ l₂) : Paired G l₁ l₂ := Paired.mapP r f
/-- what an object's description leans on: its own object, its own dict, the tuples -/
theorem ObjOk.stay (x : ObjOk P w H h a o) (k : ∀ b u, (b = a ∨ H b = some (.own a)) → h.get? b = some u → h'.get? b = some u)
    (ho : ∀ b, H b = some (.own a) → H' b = some (.own a)) (ht : ∀ b xs, H b = some (.tup xs) → H' b = some (.tup xs)) : ObjOk P w H' h' a o := by
  induction o with
  | lst xs => obtain ⟨z, its, n, r, e⟩ := x; exact ⟨z, its, n, r, k _ _ (.inl rfl) e⟩
  | tup xs => obtain ⟨z, its, r, ob, e, c⟩ := x; exact ⟨z, its, r, ob, k _ _ (.inl rfl) e, c⟩
  | dK kvs => obtain ⟨z, y, vs, r, ob, es, ep, e, c⟩ := x; exact ⟨z, y, vs, r, ob, es, ep, k _ _ (.inl rfl) e, c⟩
  | dT kvs =>
    obtain ⟨z, y, xs, r, ob, es, ep, e, c⟩ := x
    exact ⟨z, y, xs, Paired.mapP r fun p q z => ⟨z.1, ht _ _ z.2.1, z.2.2⟩, ob, es, ep, k _ _ (.inl rfl) e, c⟩
  | set S n => obtain ⟨ob, es, ep, t, e, c⟩ := x; exact ⟨ob, es, ep, t, k _ _ (.inl rfl) e, c⟩
  | ins C dx fs =>
    obtain ⟨d, z, ne, e, mA, ⟨od, es, ep, e2, c⟩, r⟩ := x
    exact ⟨ho _ d, z, ne, k _ _ (.inl rfl) e, mA, ⟨od, es, ep, k _ _ (.inr d) e2, c⟩, r⟩
  | own y => obtain ⟨ob, e⟩ := x; exact ⟨ob, k _ _ (.inl rfl) e⟩
  | xd fs => obtain ⟨mA, ⟨od, es, ep, e, c⟩, r⟩ := x; exact ⟨mA, ⟨od, es, ep, k _ _ (.inl rfl) e, c⟩, r⟩
  | rng lo hi => obtain ⟨t, u, v, e⟩ := x; exact ⟨t, u, v, k _ _ (.inl rfl) e⟩
  | frz ob u ih => obtain ⟨e, q⟩ := x; exact ⟨k _ _ (.inl rfl) e, ih q⟩
  | tbl ps =>
    have e : h.get? a = some { cls := .none, data := .fields ps } := x
    show h'.get? a = some { cls := .none, data := .fields ps }
    exact k a _ (.inl rfl) e
  | met f y =>
    have e : h.get? a = some (PySem.W.methodObj (.ref f) (.ref y)) := x
    show h'.get? a = some (PySem.W.methodObj (.ref f) (.ref y))
    exact k a _ (.inl rfl) e
  | ext φ => obtain ⟨p, ⟨o, e⟩, st⟩ := x; exact ⟨st _ _ p fun o q => k _ _ (.inl rfl) q, ⟨o, k _ _ (.inl rfl) e⟩, st⟩
theorem HOk.lt (x : HOk P w H h) (e : H a = some o) : a < h.objs.size := (x a o e).lt
theorem HOk.fresh (x : HOk P w H h) (e : h.objs.size ≤ a) : H a = none := by
  cases q : H a with
  | none => rfl
  | some u => exact absurd (Nat.lt_of_lt_of_le (x.lt q) e) (Nat.lt_irrefl _)
/-- every object of the heap is kept -/
theorem HOk.kept (x : HOk P w H h) (k : ∀ b u, h.get? b = some u → h'.get? b = some u) : HOk P w H h' := fun a o e =>
  (x a o e).stay (fun b u _ q => k b u q) (fun _ q => q) fun _ _ q => q
/-- a new object is laid and tracked -/
theorem HOk.laid (x : HOk P w H h) (k : ∀ b u, h.get? b = some u → h'.get? b = some u) (hp : h.objs.size ≤ a) (new : ObjOk P w (upd H a o) h' a o) : HOk P w (upd H a o) h' := fun b u e => by
  have hn := x.fresh hp
  by_cases hb : b = a
  · subst hb; rw [upd_same] at e; cases e; exact new
  · rw [upd_ne hb] at e
    exact (x b u e).stay (fun c v _ q => k c v q) (fun c q => by rw [upd_ne (ne_of_none q hn)]; exact q) fun c xs q => by rw [upd_ne (ne_of_none q hn)]; exact q
end

/-- what may be read as u: it is u, or a known u -/
def Rd (H : Hp) (a : Addr) (u : HO) : Prop := H a = some u ∨ ∃ o, H a = some (.frz o u)
theorem Rd.of {H : Hp} {a : Addr} {u : HO} (h : H a = some u) : Rd H a u := .inl h
theorem Rd.ok {P : Program} {w : World} {H : Hp} {h : Heap} {a : Addr} {u : HO} (r : Rd H a u) (x : HOk P w H h) : ObjOk P w H h a u := by
  rcases r with r | ⟨o, r⟩
  · exact x a u r
  · obtain ⟨_, q⟩ := x a _ r
    exact q
/-- what may be written -/
def Mut : Option HO → Prop
  | some (.lst _) => True
  | some (.dK _) => True
  | some (.dT _) => True
  | some (.set _ _) => True
  | some (.ins _ _ _) => True
  | some (.ext _) => True
  | _ => False
section
variable {P : Program} {w : World} {H : Hp} {h h' : Heap} {x e : Addr} {o' : HO}
/-- the object at e is changed: x itself, or the dict of the instance x -/
theorem HOk.write (ok : HOk P w H h) (mu : Mut (H x)) (he : e = x ∨ H e = some (.own x)) (k : ∀ b u, b ≠ e → h.get? b = some u → h'.get? b = some u) (heo : ∃ u, h'.get? e = some u)
    (new : ObjOk P w (upd H x o') h' x o') : HOk P w (upd H x o') h' := fun b u q => by
  have nown : ∀ c y, H c = some (.own y) → c ≠ x := fun c y r z => by subst z; rw [r] at mu; exact mu
  have ntup : ∀ c xs, H c = some (.tup xs) → c ≠ x := fun c xs r z => by subst z; rw [r] at mu; exact mu
  by_cases hb : b = x
  · subst hb; rw [upd_same] at q; cases q; exact new
  · rw [upd_ne hb] at q
    by_cases hbe : b = e
    · have q' : H b = some (.own x) := by
        rcases he with z | z
        · exact absurd (hbe.trans z) hb
        · rw [hbe]; exact z
      rw [q] at q'; cases q'
      obtain ⟨v, hv⟩ := heo
      exact ⟨v, by rw [hbe]; exact hv⟩
    · refine (ok b u q).stay (fun c v hc r => k c v ?_ r) (fun c r => by rw [upd_ne (nown c b r)]; exact r) fun c xs r => by rw [upd_ne (ntup c xs r)]; exact r
      rcases hc with rfl | hc
      · exact hbe
      · rintro rfl
        rcases he with z | z
        · exact nown c b hc z
        · rw [hc] at z; cases z; exact hb rfl
end

/-! ### kept unless tracked; of the frames at fs (the callers') the slots may change (an exception that passes writes there); of the records at ex (iterators) nothing is said -/
structure Un (fs ex : List Addr) (H H' : Hp) (h h' : Heap) : Prop where
  keep : ∀ b o, h.get? b = some o → H b = none → b ∉ fs → b ∉ ex → h'.get? b = some o
  slot : ∀ b o, h.get? b = some o → H b = none → b ∈ fs → b ∉ ex → ∃ sl, h'.get? b = some { o with slots := sl }
  free : ∀ b o, h.get? b = some o → H b = none → b ∉ ex → H' b = none
  there : ∀ b o, h.get? b = some o → b ∉ ex → ∃ o', h'.get? b = some o'
  tups : ∀ b xs, H b = some (.tup xs) → H' b = some (.tup xs)
  frzs : ∀ b o u, H b = some (.frz o u) → H' b = some (.frz o u)
  tbls : ∀ b ps, H b = some (.tbl ps) → ∃ more, H' b = some (.tbl (ps ++ more))
section
variable {fs fs' ex ex' : List Addr} {H H1 H2 : Hp} {h h1 h2 h' : Heap} {a x e : Addr} {o : HO}
theorem Un.any (u : Un fs ex H H1 h h1) {b : Addr} {ob : Obj} (q : h.get? b = some ob) (n : H b = none) (hx : b ∉ ex) : ∃ sl, h1.get? b = some { ob with slots := sl } := by
  by_cases hb : b ∈ fs
  · exact u.slot b ob q n hb hx
  · exact ⟨ob.slots, u.keep b ob q n hb hx⟩
theorem Un.trans (a : Un fs ex H H1 h h1) (b : Un fs ex H1 H2 h1 h2) : Un fs ex H H2 h h2 where
  keep := fun c ob q n hc hx => b.keep c ob (a.keep c ob q n hc hx) (a.free c ob q n hx) hc hx
  slot := fun c ob q n hc hx => by
    obtain ⟨sl, e1⟩ := a.slot c ob q n hc hx
    obtain ⟨sl', e2⟩ := b.slot c _ e1 (a.free c ob q n hx) hc hx
    exact ⟨sl', e2⟩
  free := fun c ob q n hx => by
    obtain ⟨o', e1⟩ := a.there c ob q hx
    exact b.free c o' e1 (a.free c ob q n hx) hx
  there := fun c ob q hx => by
    obtain ⟨o', e1⟩ := a.there c ob q hx
    exact b.there c o' e1 hx
  tups := fun c xs q => b.tups c xs (a.tups c xs q)
  frzs := fun c ob xs q => b.frzs c ob xs (a.frzs c ob xs q)
  tbls := fun c ps q => by
    obtain ⟨m1, e1⟩ := a.tbls c ps q
    obtain ⟨m2, e2⟩ := b.tbls c _ e1
    exact ⟨m1 ++ m2, by rw [e2, Array.append_assoc]⟩
theorem Un.kept (k : ∀ b u, h.get? b = some u → h'.get? b = some u) : Un fs ex H H h h' :=
  ⟨fun b ob q _ _ _ => k b ob q, fun b ob q _ _ _ => ⟨ob.slots, k b ob q⟩, fun _ _ _ n _ => n, fun b ob q _ => ⟨ob, k b ob q⟩, fun _ _ q => q, fun _ _ _ q => q, fun _ ps q => ⟨#[], by rw [q]; simp⟩⟩
theorem Un.refl : Un fs ex H H h h := Un.kept fun _ _ q => q
theorem Un.laid (k : ∀ b u, h.get? b = some u → h'.get? b = some u) (hp : h.objs.size ≤ a) (hn : H a = none) : Un fs ex H (upd H a o) h h' where
  keep := fun b u q _ _ _ => k b u q
  slot := fun b u q _ _ _ => ⟨u.slots, k b u q⟩
  free := fun b u q n _ => by rw [upd_ne (Nat.ne_of_lt (Nat.lt_of_lt_of_le (Heap.lt_size q) hp))]; exact n
  there := fun b u q _ => ⟨u, k b u q⟩
  tups := fun b xs q => by rw [upd_ne (ne_of_none q hn)]; exact q
  frzs := fun b u xs q => by rw [upd_ne (ne_of_none q hn)]; exact q
  tbls := fun b ps q => ⟨#[], by rw [upd_ne (ne_of_none q hn), q]; simp⟩
theorem Un.write (mu : Mut (H x)) (he : e = x ∨ H e = some (.own x)) (k : ∀ b u, b ≠ e → h.get? b = some u → h'.get? b = some u) (heo : ∃ u, h'.get? e = some u) : Un fs ex H (upd H x o) h h' := by
  have hx : ∀ b, H b = none → b ≠ x := fun b n z => by subst z; rw [n] at mu; exact mu
  have hb : ∀ b, H b = none → b ≠ e := fun b n z => by
    subst z
    rcases he with r | r
    · exact hx b n r
    · rw [n] at r; cases r
  have hm : ∀ b u, H b = some u → ¬ Mut (some u) → b ≠ x := fun b u q nm z => by subst z; rw [q] at mu; exact nm mu
  refine ⟨fun b u q n _ _ => k b u (hb b n) q, fun b u q n _ _ => ⟨u.slots, k b u (hb b n) q⟩, fun b u q n _ => by rw [upd_ne (hx b n)]; exact n, fun b u q _ => ?_,
    fun b xs q => by rw [upd_ne (hm b _ q fun z => z)]; exact q, fun b u xs q => by rw [upd_ne (hm b _ q fun z => z)]; exact q, fun b ps q => ⟨#[], by rw [upd_ne (hm b _ q fun z => z), q]; simp⟩⟩
  by_cases hbe : b = e
  · subst hbe; exact heo
  · exact ⟨u, k b u hbe q⟩
theorem Un.mono (u : Un fs ex H H1 h h1) (hs : ∀ b ∈ fs, b ∈ fs') (hx : ∀ b ∈ ex, b ∈ ex') : Un fs' ex' H H1 h h1 :=
  ⟨fun b ob q n hb he => u.keep b ob q n (fun z => hb (hs b z)) fun z => he (hx b z), fun _ _ q n _ he => u.any q n fun z => he (hx _ z), fun b ob q n he => u.free b ob q n fun z => he (hx b z), fun b ob q he => u.there b ob q fun z => he (hx b z), u.tups, u.frzs, u.tbls⟩
end

/-! ### the heap without what is tracked -/
def trk (h : Heap) (H : Hp) : List Addr := (List.range h.objs.size).filter fun a => (H a).isSome
def hidT (h : Heap) (H : Hp) : Heap := PySem.W.hideAll h (trk h H)
theorem hidT_size (h : Heap) (H : Hp) : (hidT h H).objs.size = h.objs.size := PySem.W.hideAll_size _ _
theorem hidT_get {h : Heap} {H : Hp} {b : Addr} {o : Obj} (e : h.get? b = some o) (n : H b = none) : (hidT h H).get? b = some o :=
  PySem.W.hideAll_get _ e fun hm => by
    have q : (H b).isSome = true := (List.mem_filter.mp hm).2
    rw [n] at q; simp at q
theorem of_hidT {h : Heap} {H : Hp} {b : Addr} {o : Obj} (e : (hidT h H).get? b = some o) : h.get? b = some o ∧ H b = none := by
  have e' : h.get? b = some o := PySem.W.of_hideAll (trk h H) e
  refine ⟨e', ?_⟩
  cases q : H b with
  | none => rfl
  | some x =>
    have hm : b ∈ trk h H := List.mem_filter.mpr ⟨List.mem_range.mpr (Heap.lt_size e'), by simp [q]⟩
    have z : (hidT h H).get? b = none := PySem.W.hideAll_none (trk h H) hm
    rw [z] at e; cases e

/-! ### OpenK's ledger, filled with every new object but one -/
def allNews (g h : Heap) (L : Addr) : List (Addr × Obj) := (List.range h.objs.size).filterMap fun a => if a = L ∨ (g.get? a).isSome = true then none else (h.get? a).map fun o => (a, o)
theorem mem_allNews {g h : Heap} {L a : Addr} {o : Obj} (h1 : a ≠ L) (h2 : g.get? a = none) (h3 : h.get? a = some o) : (a, o) ∈ allNews g h L :=
  List.mem_filterMap.mpr ⟨a, List.mem_range.mpr (Heap.lt_size h3), by simp [h1, h2, h3]⟩
theorem of_mem_allNews {g h : Heap} {L : Addr} {p : Addr × Obj} (hp : p ∈ allNews g h L) : p.1 ≠ L ∧ g.get? p.1 = none ∧ h.get? p.1 = some p.2 := by
  obtain ⟨b, _, e⟩ := List.mem_filterMap.mp hp
  split at e
  · cases e
  · rename_i hn
    cases q : h.get? b with
    | none => rw [q] at e; simp at e
    | some u =>
      rw [q] at e
      simp only [Option.map_some, Option.some.injEq] at e
      subst e
      refine ⟨fun z => hn (.inl z), ?_, q⟩
      show g.get? b = none
      cases r : g.get? b with
      | none => rfl
      | some v => exact (hn (.inr (by simp [r]))).elim
def rest (g h : Heap) (L d : Addr) : List (Addr × Obj) := (allNews g h L).filter fun p => decide (p.1 ≠ d)
theorem rest_ne {g h : Heap} {L d : Addr} : ∀ p ∈ rest g h L d, p.1 ≠ d := fun p hp => of_decide_eq_true (List.mem_filter.mp hp).2
theorem mem_rest {g h : Heap} {L d a : Addr} {o : Obj} (h1 : a ≠ L) (h2 : g.get? a = none) (h3 : h.get? a = some o) (h4 : a ≠ d) : (a, o) ∈ rest g h L d :=
  List.mem_filter.mpr ⟨mem_allNews h1 h2 h3, decide_eq_true h4⟩
theorem news_all {g h : Heap} {L : Addr} : News g L h (allNews g h L) := fun p hp => let ⟨a, b, c⟩ := of_mem_allNews hp; ⟨c, a, b⟩
theorem news_at {g h : Heap} {L d : Addr} {o : Obj} (h1 : d ≠ L) (h2 : g.get? d = none) (h3 : h.get? d = some o) : News g L h ((d, o) :: rest g h L d) := fun p hp => by
  rcases List.mem_cons.mp hp with rfl | hp
  · exact ⟨h3, h1, h2⟩
  · exact news_all p (List.mem_filter.mp hp).1
/-- behind a rule that changed d alone: all else but the frame is kept -/
theorem kept_of_news {g h h' : Heap} {L d : Addr} {m : Str → Option Value} (k : ∀ b o, g.get? b = some o → h.get? b = some o) (F : Fr g L h' m) (N : News g L h' (rest g h L d)) :
    ∀ b o, b ≠ L → b ≠ d → h.get? b = some o → h'.get? b = some o := fun b o h1 h2 e => by
  cases q : g.get? b with
  | some u =>
    have := k b u q
    rw [e] at this; cases this
    exact F.keep b _ q
  | none => exact (N (b, o) (mem_rest h1 q e h2)).1
end L2

namespace L2
open PySem PySem.Spec PyProof.Rows

/-- the module's facts, over the base: the heap at the law's entry without what is tracked there -/
structure Mod (K : PySem.W.Frag) (mg : Str → Option Value) (base : Heap) : Prop where
  kin : K.In base
  glob : base.Ns mainGlobals mg
  blt : ∃ mb, base.Ns builtinsNs mb ∧ ∀ x : Str, x ≠ "__name__" → mb x = bootBuiltins x
  nolimit : base.NoLimit

/-- the context: a def's body (or a comprehension's block) running. base: fixed through the whole law; s₀, H₀: the entry; outer: the frames whose slots others may change (a def's callers); stack: all frames that run;
   ex: iterators that were made ahead of the entry and are walked here (a comprehension's); fn: the names whose cells were made at the entry (a def: all; a comprehension's block: its own); calm: not within an except suite; pn: pins that every state bears; xe: what is wanted of an exception that leaves the code -/
structure Cx where
  prog : Program
  w : World
  K : PySem.W.Frag
  mg : Str → Option Value
  base : Heap
  A : Around
  N : List Str
  s₀ : Shared
  H₀ : Hp
  env : Env
  outer : List Env
  stack : List Env
  ex : List Addr
  fn : Str → Bool
  calm : Bool
  pn : List (Addr × Obj)
  xe : Value → Shared → Prop
/-- the callers' frames -/
def frs (l : List Env) : List Addr := l.filterMap (·.frame)
abbrev Cx.fs (X : Cx) : List Addr := frs X.outer

def Vis (sc : Scope) (x : Str) : Prop := sc.names.lookup x = some .local ∨ sc.names.lookup x = some .cell ∨ sc.names.lookup x = some .free
def Loc (sc : Scope) (x : Str) : Prop := sc.names.lookup x = some .local ∨ sc.names.lookup x = some .cell
def Look (env : Env) (h : Heap) (m : Str → Option Value) (x : Str) (u : Value) : Prop :=
  (env.kindOf x = some .local ∧ m x = some u) ∨ ((env.kindOf x = some .cell ∨ env.kindOf x = some .free) ∧ ∃ c, env.cells.lookup x = some c ∧ h.IsCell c (some u))

structure Cx.Ok (X : Cx) : Prop where
  mod : Mod X.K X.mg X.base
  kind : X.env.scope.kind = .function
  glob : X.env.globals = mainGlobals
  blt : X.env.builtins = builtinsNs
  above : X.s₀.heap.objs.size ≤ X.env.locals
  inj : ∀ x y c, X.env.cells.lookup x = some c → X.env.cells.lookup y = some c → x = y
  has : ∀ x, (X.env.kindOf x = some .cell ∨ X.env.kindOf x = some .free) → ∃ c, X.env.cells.lookup x = some c
  cab : ∀ x c, X.fn x = true → X.env.cells.lookup x = some c → X.s₀.heap.objs.size ≤ c
  hd : X.calm = true → X.A.handled = none
  frames : X.A.frames = some X.stack
  stk : X.stack = X.outer ∨ (X.stack = X.env :: X.outer ∧ X.env.frame = some X.env.locals)
  exf : ∀ b ∈ X.ex, b ≠ X.env.locals ∧ ∀ x c, X.env.cells.lookup x = some c → c ≠ b
  bs : ∀ b o, X.base.get? b = some o → X.s₀.heap.get? b = some o ∧ X.H₀ b = none
  bsz : X.base.objs.size ≤ X.s₀.heap.objs.size
  noex : ∀ b o, X.base.get? b = some o → b ∉ X.ex
  exfs : ∀ b ∈ X.ex, b ∉ X.fs
  funs : X.s₀.heap.FunFrames X.base X.outer
  frf : ∀ b ∈ X.fs, X.H₀ b = none

structure Inv (X : Cx) (pins : List (Addr × Obj)) (σ : List (Option V)) (H : Hp) (s : Shared) : Prop where
  ok : X.Ok
  os : s.os = X.s₀.os
  bare : AllBare s.gens
  base : Un X.fs X.ex X.H₀ H X.s₀.heap s.heap
  loc : ∃ m, s.heap.Ns X.env.locals m ∧ ∀ (i : Nat) (x : Str) (v : V), X.N[i]? = some x → σ[i]? = some (some v) → Vis X.env.scope x → ∃ u, RelV v u ∧ Look X.env s.heap m x u
  cell : ∀ x c, X.env.cells.lookup x = some c → ∃ v, s.heap.IsCell c v
  free : H X.env.locals = none
  freeC : ∀ x c, X.env.cells.lookup x = some c → H c = none
  pin : ∀ p ∈ X.pn ++ pins, s.heap.get? p.1 = some p.2 ∧ H p.1 = none ∧ p.1 ≠ X.env.locals ∧ p.1 ∉ X.fs ∧ ∀ v, p.2.data ≠ .cell v
  hok : HOk X.prog X.w H s.heap
  len : σ.length = X.N.length

section
variable {X : Cx} {pins : List (Addr × Obj)} {σ : List (Option V)} {H H' : Hp} {s : Shared} {h' : Heap}

theorem Cx.Ok.nofr (ok : X.Ok) {b : Addr} {o : Obj} (e : X.base.get? b = some o) : b ∉ X.fs := fun hb => by
  have := (ok.funs.mem hb).1
  rw [e] at this; cases this
theorem Inv.bs (I : Inv X pins σ H s) : ∀ b o, X.base.get? b = some o → s.heap.get? b = some o ∧ H b = none := fun b o e =>
  ⟨I.base.keep b o (I.ok.bs b o e).1 (I.ok.bs b o e).2 (I.ok.nofr e) (I.ok.noex b o e), I.base.free b o (I.ok.bs b o e).1 (I.ok.bs b o e).2 (I.ok.noex b o e)⟩
theorem Inv.bk (I : Inv X pins σ H s) : ∀ b o, X.base.get? b = some o → s.heap.get? b = some o := fun b o e => (I.bs b o e).1
theorem Inv.mod (I : Inv X pins σ H s) : Mod X.K X.mg X.base := I.ok.mod
theorem Inv.kIn (I : Inv X pins σ H s) : X.K.In s.heap := I.ok.mod.kin.keeps I.bk
theorem Inv.nolimit (I : Inv X pins σ H s) : s.heap.NoLimit := I.ok.mod.nolimit.keeps I.bk
/-- the frame over the base: for OpenK's rules (K.In X.base is I.mod.kin) -/
theorem Inv.fr (I : Inv X pins σ H s) : ∃ m, Fr X.base X.env.locals s.heap m :=
  let ⟨m, hn, _⟩ := I.loc
  ⟨m, hn, I.bk, Nat.le_trans I.ok.bsz I.ok.above⟩
theorem Inv.lt (I : Inv X pins σ H s) : X.env.locals < s.heap.objs.size := let ⟨_, hn, _⟩ := I.loc; hn.lt
theorem Inv.sz (I : Inv X pins σ H s) : X.s₀.heap.objs.size ≤ s.heap.objs.size := Nat.le_trans I.ok.above (Nat.le_of_lt I.lt)
theorem Inv.nofs (I : Inv X pins σ H s) {a : Addr} (h : s.heap.objs.size ≤ a) : a ∉ X.fs := fun hb => by
  obtain ⟨_, o, ho, _⟩ := I.ok.funs.mem hb
  exact absurd (Nat.lt_of_lt_of_le (Heap.lt_size ho) (Nat.le_trans I.sz h)) (Nat.lt_irrefl _)
theorem Inv.cne (I : Inv X pins σ H s) : ∀ x c, X.env.cells.lookup x = some c → c ≠ X.env.locals := fun x c e z => by
  obtain ⟨v, o, ho, hd⟩ := I.cell x c e
  obtain ⟨m, ⟨o', es, ep, ho', hd', _⟩, _⟩ := I.loc
  rw [z, ho'] at ho; cases ho; rw [hd'] at hd; cases hd
theorem Inv.funs (I : Inv X pins σ H s) : s.heap.FunFrames X.base X.outer := by
  have all : ∀ (l : List Env), (∀ b ∈ frs l, b ∈ X.fs) → X.s₀.heap.FunFrames X.base l → s.heap.FunFrames X.base l := by
    intro l
    induction l with
    | nil => intro _ _; trivial
    | cons env r ih =>
      intro hs hl
      obtain ⟨hk, ⟨L, o, hf, hn, ho, hd⟩, hr⟩ := hl
      have hL : L ∈ X.fs := hs L (by unfold frs; rw [List.filterMap_cons, hf]; exact List.mem_cons_self)
      obtain ⟨sl, e⟩ := I.base.slot L o ho (I.ok.frf L hL) hL fun z => I.ok.exfs L z hL
      exact ⟨hk, ⟨L, _, hf, hn, e, hd⟩, ih (fun b hb => hs b (by unfold frs; rw [List.filterMap_cons, hf]; exact List.mem_cons_of_mem _ hb)) hr⟩
  exact all X.outer (fun _ hb => hb) I.ok.funs

/-- the frames that run, for a call -/
theorem Inv.stack (I : Inv X pins σ H s) : s.heap.FunFrames X.base X.stack := by
  rcases I.ok.stk with e | ⟨e, hf⟩
  · rw [e]; exact I.funs
  · rw [e]
    obtain ⟨m, hn, _⟩ := I.loc
    refine .cons (by rw [I.ok.kind]; decide) hf hn ?_ I.funs
    exact Heap.get?_none_of_le (Nat.le_trans I.ok.bsz I.ok.above)
theorem Inv.stkSub (I : Inv X pins σ H s) : ∀ b ∈ frs X.stack, b ∈ X.env.locals :: X.fs := fun b hb => by
  rcases I.ok.stk with e | ⟨e, hf⟩
  · rw [e] at hb; exact List.mem_cons_of_mem _ hb
  · rw [e] at hb
    unfold frs at hb
    rw [List.filterMap_cons, hf] at hb
    exact hb
theorem Inv.stkFree (I : Inv X pins σ H s) : ∀ b ∈ frs X.stack, H b = none := fun b hb => by
  rcases List.mem_cons.mp (I.stkSub b hb) with e | hb
  · rw [e]; exact I.free
  · obtain ⟨_, o, ho, _⟩ := I.ok.funs.mem hb
    exact I.base.free b o ho (I.ok.frf b hb) fun z => I.ok.exfs b z hb

/-- THE STEP: the untracked objects but the frame and the records at ch are kept (the callers' frames up to slots), the frame's map is kept, the new abstract heap is held -/
theorem Inv.step {g' : Array GenState} {t' : Nat} {d' : Drawn} {ch : List Addr} (I : Inv X pins σ H s)
    (hch : ∀ b ∈ ch, (b ∈ X.ex ∨ X.s₀.heap.objs.size ≤ b) ∧ b ≠ X.env.locals ∧ (∀ x c, X.env.cells.lookup x = some c → c ≠ b) ∧ ∀ p ∈ X.pn ++ pins, p.1 ≠ b)
    (keep : ∀ b o, b ≠ X.env.locals → b ∉ X.fs → b ∉ ch → s.heap.get? b = some o → H b = none → h'.get? b = some o)
    (slot : ∀ b o, b ≠ X.env.locals → b ∈ X.fs → b ∉ ch → s.heap.get? b = some o → H b = none → ∃ sl, h'.get? b = some { o with slots := sl }) (free : ∀ b o, b ∉ ch → s.heap.get? b = some o → H b = none → H' b = none)
    (there : ∀ b o, b ∉ ch → s.heap.get? b = some o → ∃ o', h'.get? b = some o')
    (tups : ∀ b xs, H b = some (.tup xs) → H' b = some (.tup xs)) (frzs : ∀ b o u, H b = some (.frz o u) → H' b = some (.frz o u)) (tbls : ∀ b ps, H b = some (.tbl ps) → ∃ more, H' b = some (.tbl (ps ++ more)))
    (ns : ∀ m, s.heap.Ns X.env.locals m → h'.Ns X.env.locals m) (hok : HOk X.prog X.w H' h') (hg : AllBare g') :
    Inv X pins σ H' { s with heap := h', gens := g', drawn := d', toks := t' } := by
  have neL : ∀ b o, X.s₀.heap.get? b = some o → b ≠ X.env.locals := fun b o e => Nat.ne_of_lt (Nat.lt_of_lt_of_le (Heap.lt_size e) I.ok.above)
  have neC : ∀ b o, X.s₀.heap.get? b = some o → b ∉ X.ex → b ∉ ch := fun b o e hx hb => by
    rcases (hch b hb).1 with z | z
    · exact hx z
    · exact absurd (Nat.lt_of_lt_of_le (Heap.lt_size e) z) (Nat.lt_irrefl _)
  have cellK : ∀ x c, X.env.cells.lookup x = some c → ∀ v, s.heap.IsCell c v → h'.IsCell c v := fun x c e v ⟨o, ho, hd⟩ => by
    have nch : c ∉ ch := fun z => (hch c z).2.2.1 x c e rfl
    by_cases hc : c ∈ X.fs
    · obtain ⟨sl, q⟩ := slot c o (I.cne x c e) hc nch ho (I.freeC x c e)
      exact ⟨_, q, hd⟩
    · exact ⟨o, keep c o (I.cne x c e) hc nch ho (I.freeC x c e), hd⟩
  refine ⟨I.ok, I.os, hg, ⟨fun b o e n hb hx => ?_, fun b o e n hb hx => ?_, fun b o e n hx => ?_, fun b o e hx => ?_, fun b xs e => tups b xs (I.base.tups b xs e), fun b o xs e => frzs b o xs (I.base.frzs b o xs e), fun b ps e => ?_⟩, ?_, fun x c e => ?_, ?_, fun x c e => ?_, fun p hp => ?_, hok, I.len⟩
  · exact keep b o (neL b o e) hb (neC b o e hx) (I.base.keep b o e n hb hx) (I.base.free b o e n hx)
  · obtain ⟨sl, e1⟩ := I.base.slot b o e n hb hx
    obtain ⟨sl', e2⟩ := slot b _ (neL b o e) hb (neC b o e hx) e1 (I.base.free b o e n hx)
    exact ⟨sl', e2⟩
  · obtain ⟨o', e1⟩ := I.base.there b o e hx
    exact free b o' (neC b o e hx) e1 (I.base.free b o e n hx)
  · obtain ⟨o', e1⟩ := I.base.there b o e hx
    exact there b o' (neC b o e hx) e1
  · obtain ⟨m1, e1⟩ := I.base.tbls b ps e
    obtain ⟨m2, e2⟩ := tbls b _ e1
    exact ⟨m1 ++ m2, by rw [e2, Array.append_assoc]⟩
  · obtain ⟨m, hn, hl⟩ := I.loc
    refine ⟨m, ns m hn, fun i x v e1 e2 e3 => ?_⟩
    obtain ⟨u, r, l⟩ := hl i x v e1 e2 e3
    refine ⟨u, r, ?_⟩
    rcases l with l | ⟨k, c, e, z⟩
    · exact .inl l
    · exact .inr ⟨k, c, e, cellK x c e _ z⟩
  · obtain ⟨v, z⟩ := I.cell x c e
    exact ⟨v, cellK x c e v z⟩
  · obtain ⟨m, ⟨o, _, _, ho, _⟩, _⟩ := I.loc
    exact free _ o (fun z => (hch _ z).2.1 rfl) ho I.free
  · obtain ⟨v, o, ho, hd⟩ := I.cell x c e
    exact free c o (fun z => (hch c z).2.2.1 x c e rfl) ho (I.freeC x c e)
  · obtain ⟨e, n, ne, nf, d⟩ := I.pin p hp
    have nch : p.1 ∉ ch := fun z => (hch p.1 z).2.2.2 p hp rfl
    exact ⟨keep p.1 p.2 ne nf nch e n, free p.1 p.2 nch e n, ne, nf, d⟩
/-- .. where the frame's own object is kept too -/
theorem Inv.un {t' : Nat} (I : Inv X pins σ H s) (u : Un X.fs [] H H' s.heap h') (hok : HOk X.prog X.w H' h') : Inv X pins σ H' { s with heap := h', toks := t' } := by
  obtain ⟨m, ⟨o, es, ep, ho, r⟩, _⟩ := id I.loc
  obtain ⟨sl, hL⟩ := u.any ho I.free (by simp)
  exact I.step (g' := s.gens) (d' := s.drawn) (ch := []) (fun _ z => nomatch z) (fun b o _ hb _ e n => u.keep b o e n hb (by simp)) (fun b o _ hb _ e n => u.slot b o e n hb (by simp)) (fun b o _ e n => u.free b o e n (by simp)) (fun b o _ e => u.there b o e (by simp)) u.tups u.frzs u.tbls (fun m' hm => by
    obtain ⟨o', es', ep', ho', r'⟩ := hm
    rw [ho] at ho'; cases ho'
    exact ⟨_, es', ep', hL, r'⟩) hok I.bare
/-- behind a call (or a comprehension's block): the slots of this frame may have changed too, the records at ch may have turned -/
theorem Inv.call {g' : Array GenState} {t' : Nat} {d' : Drawn} {ch : List Addr} (I : Inv X pins σ H s) (u : Un (frs X.stack) ch H H' s.heap h') (hok : HOk X.prog X.w H' h') (hg : AllBare g')
    (hch : ∀ b ∈ ch, (b ∈ X.ex ∨ X.s₀.heap.objs.size ≤ b) ∧ b ≠ X.env.locals ∧ (∀ x c, X.env.cells.lookup x = some c → c ≠ b) ∧ ∀ p ∈ X.pn ++ pins, p.1 ≠ b) :
    Inv X pins σ H' { s with heap := h', gens := g', drawn := d', toks := t' } := by
  obtain ⟨m, ⟨o, es, ep, ho, r⟩, _⟩ := id I.loc
  obtain ⟨sl, hL⟩ := u.any ho I.free fun z => (hch _ z).2.1 rfl
  exact I.step (ch := ch) hch (fun b o hL hb hc e n => u.keep b o e n (fun z => (List.mem_cons.mp (I.stkSub b z)).elim hL hb) hc) (fun b o _ _ hc e n => u.any e n hc) (fun b o hc e n => u.free b o e n hc) (fun b o hc e => u.there b o e hc) u.tups u.frzs u.tbls (fun m' hm => by
    obtain ⟨o', es', ep', ho', r'⟩ := hm
    rw [ho] at ho'; cases ho'
    exact ⟨_, es', ep', hL, r'⟩) hok hg
/-- an untracked record of ours (an iterator) has turned -/
theorem Inv.turned {t' : Nat} {it : Addr} (I : Inv X pins σ H s) (k : ∀ b o, b ≠ it → s.heap.get? b = some o → h'.get? b = some o) (hn : H it = none) (hL : it ≠ X.env.locals)
    (h1 : it ∈ X.ex ∨ X.s₀.heap.objs.size ≤ it) (h2 : ∀ x c, X.env.cells.lookup x = some c → c ≠ it) (h3 : ∀ p ∈ X.pn ++ pins, p.1 ≠ it) : Inv X pins σ H { s with heap := h', toks := t' } := by
  have nit : ∀ b u, H b = some u → b ≠ it := fun b u e z => by rw [z, hn] at e; cases e
  refine I.step (g' := s.gens) (d' := s.drawn) (ch := [it]) (fun b hb => ?_) (fun b o _ _ hc e _ => k b o (fun z => hc (by simp [z])) e) (fun b o _ _ hc e _ => ⟨o.slots, k b o (fun z => hc (by simp [z])) e⟩) (fun _ _ _ _ n => n)
    (fun b o hc e => ⟨o, k b o (fun z => hc (by simp [z])) e⟩) (fun _ _ e => e) (fun _ _ _ e => e) (fun b ps e => ⟨#[], by rw [e]; simp⟩) (fun m hm => ?_) (fun b u e => ?_) I.bare
  · have e : b = it := by simpa using hb
    subst e
    exact ⟨h1, hL, h2, h3⟩
  · obtain ⟨o, es, ep, ho, r⟩ := hm
    exact ⟨o, es, ep, k _ o (Ne.symm hL) ho, r⟩
  · refine (I.hok b u e).stay (fun c v hc q => k c v ?_ q) (fun _ q => q) fun _ _ q => q
    rcases hc with z | z
    · rw [z]; exact nit b u e
    · exact nit c _ z
theorem Inv.tok (I : Inv X pins σ H s) (t : Nat) : Inv X pins σ H { s with toks := t } := I.un (h' := s.heap) (t' := t) Un.refl I.hok
/-- all objects kept -/
theorem Inv.kept {t' : Nat} (I : Inv X pins σ H s) (k : ∀ b u, s.heap.get? b = some u → h'.get? b = some u) : Inv X pins σ H { s with heap := h', toks := t' } := I.un (Un.kept k) (I.hok.kept k)
/-- a new object laid and tracked -/
theorem Inv.laid {a : Addr} {o : HO} {t' : Nat} (I : Inv X pins σ H s) (k : ∀ b u, s.heap.get? b = some u → h'.get? b = some u) (hp : s.heap.objs.size ≤ a) (new : ObjOk X.prog X.w (upd H a o) h' a o) :
    Inv X pins σ (upd H a o) { s with heap := h', toks := t' } := I.un (Un.laid k hp (I.hok.fresh hp)) (I.hok.laid k hp new)
/-- an object written -/
theorem Inv.write {x e : Addr} {o : HO} {t' : Nat} (I : Inv X pins σ H s) (mu : Mut (H x)) (he : e = x ∨ H e = some (.own x)) (k : ∀ b u, b ≠ e → s.heap.get? b = some u → h'.get? b = some u) (heo : ∃ u, h'.get? e = some u)
    (new : ObjOk X.prog X.w (upd H x o) h' x o) : Inv X pins σ (upd H x o) { s with heap := h', toks := t' } := I.un (Un.write mu he k heo) (I.hok.write mu he k heo new)
/-- forgetting slots, pins -/
theorem Inv.weak {σ' : List (Option V)} (I : Inv X pins σ H s) (hl : σ'.length = σ.length) (w : ∀ (i : Nat) v, σ'[i]? = some (some v) → σ[i]? = some (some v)) : Inv X pins σ' H s :=
  ⟨I.ok, I.os, I.bare, I.base, let ⟨m, hn, hl'⟩ := I.loc; ⟨m, hn, fun i x v e1 e2 e3 => hl' i x v e1 (w i v e2) e3⟩, I.cell, I.free, I.freeC, I.pin, I.hok, hl.trans I.len⟩
theorem Inv.pins_of {pins' : List (Addr × Obj)} (I : Inv X pins σ H s) (h : ∀ p ∈ pins', s.heap.get? p.1 = some p.2 ∧ H p.1 = none ∧ p.1 ≠ X.env.locals ∧ p.1 ∉ X.fs ∧ ∀ v, p.2.data ≠ .cell v) : Inv X pins' σ H s :=
  ⟨I.ok, I.os, I.bare, I.base, I.loc, I.cell, I.free, I.freeC, fun p hp => (List.mem_append.mp hp).elim (fun z => I.pin p (List.mem_append_left _ z)) (h p), I.hok, I.len⟩

theorem nodup_ix {N : List Str} (hN : N.Nodup) {i j : Nat} {x : Str} (a : N[i]? = some x) (b : N[j]? = some x) : i = j := by
  obtain ⟨h1, e1⟩ := List.getElem?_eq_some_iff.mp a
  obtain ⟨h2, e2⟩ := List.getElem?_eq_some_iff.mp b
  exact (List.getElem_inj hN).mp (e1.trans e2.symm)

/-- a name is stored; what changed -/
theorem store_ok2 {M : Model} {A : Around} {E : Value → Shared → Prop} {i : Nat} {x : Str} {v : V} {u : Value} {Q : Unit → Shared → Prop} (I : Inv X pins σ H s) (hN : X.N.Nodup) (hi : X.N[i]? = some x) (hx : Loc X.env.scope x) (r : RelV v u)
    (h : ∀ s', Inv X pins (σ.set i (some v)) H s' → (∃ a, Heap.SameBut a s.heap s'.heap ∧ (a = X.env.locals ∨ X.env.cells.lookup x = some a)) → Q () s') (hf : X.fn x = true ∨ X.env.scope.names.lookup x = some .local := by first | exact .inl rfl | exact .inr rfl | assumption) : wpAny M A (storeName X.env x u) Q E s := by
  obtain ⟨m, hn, hl⟩ := id I.loc
  have hcls : (X.env.scope.kind == .class || (X.env.scope.kind == .module && X.env.locals != X.env.globals)) = false := by rw [I.ok.kind]; rfl
  have hiσ : i < σ.length := by rw [I.len]; exact (List.getElem?_eq_some_iff.mp hi).1
  have cne := I.cne
  have tracked : ∀ {a : Addr} {h' : Heap}, (∃ o, s.heap.get? a = some o ∧ H a = none) → Heap.SameBut a s.heap h' → HOk X.prog X.w H h' := fun {a h'} ha hs b ob e => by
    obtain ⟨_, _, hfree⟩ := ha
    refine (I.hok b ob e).stay (fun c w' hc q => (hs.2 c ?_).trans q) (fun _ q => q) fun _ _ q => q
    rintro rfl
    rcases hc with rfl | hc
    · rw [hfree] at e; cases e
    · rw [hfree] at hc; cases hc
  rcases hx with hk | hk
  · refine wpAny_storeName_local hk hn (fun h' hn' hs => ?_) hcls
    obtain ⟨oL, _, _, hoL, _⟩ := id hn
    refine h _ ⟨I.ok, I.os, I.bare, ⟨fun b o e n hb hx => ?_, fun b o e n hb hx => ?_, I.base.free, fun b o e hx => ?_, I.base.tups, I.base.frzs, I.base.tbls⟩, ⟨_, hn', fun j y v' e1 e2 e3 => ?_⟩, fun y c e => ?_, I.free, I.freeC, fun p hp => ?_, tracked ⟨oL, hoL, I.free⟩ hs, by simpa using I.len⟩ ⟨_, hs, .inl rfl⟩
    · exact (hs.2 b (Nat.ne_of_lt (Nat.lt_of_lt_of_le (Heap.lt_size e) I.ok.above))).trans (I.base.keep b o e n hb hx)
    · obtain ⟨sl, e1⟩ := I.base.slot b o e n hb hx
      exact ⟨sl, (hs.2 b (Nat.ne_of_lt (Nat.lt_of_lt_of_le (Heap.lt_size e) I.ok.above))).trans e1⟩
    · obtain ⟨o', e1⟩ := I.base.there b o e hx
      exact ⟨o', (hs.2 b (Nat.ne_of_lt (Nat.lt_of_lt_of_le (Heap.lt_size e) I.ok.above))).trans e1⟩
    · by_cases hj : j = i
      · subst hj
        rw [hi] at e1; cases e1
        rw [List.getElem?_set_self hiσ] at e2
        cases e2
        exact ⟨u, r, .inl ⟨hk, by simp⟩⟩
      · rw [List.getElem?_set_ne (Ne.symm hj)] at e2
        obtain ⟨u', r', q⟩ := hl j y v' e1 e2 e3
        refine ⟨u', r', ?_⟩
        rcases q with ⟨k, e⟩ | ⟨k, c, e, z⟩
        · refine .inl ⟨k, ?_⟩
          have : y ≠ x := fun e => hj (nodup_ix hN e1 (e ▸ hi))
          simp [this, e]
        · exact .inr ⟨k, c, e, z.sameBut hs (cne y c e)⟩
    · obtain ⟨w', z⟩ := I.cell y c e
      exact ⟨w', z.sameBut hs (cne y c e)⟩
    · obtain ⟨e, n, ne, nf, d⟩ := I.pin p hp
      exact ⟨(hs.2 p.1 ne).trans e, n, ne, nf, d⟩
  · have hfn : X.fn x = true := by
      rcases hf with z | z
      · exact z
      · rw [z] at hk; cases hk
    obtain ⟨c, hc⟩ := I.ok.has x (.inl hk)
    obtain ⟨w', z⟩ := I.cell x c hc
    refine wpAny_storeName_cell I.ok.kind hk hc z (fun h' hc' hs => ?_)
    obtain ⟨oc, hoc, hocd⟩ := id z
    refine h { s with heap := h' } ⟨I.ok, I.os, I.bare, ⟨fun b o e n hb hx => ?_, fun b o e n hb hx => ?_, I.base.free, fun b o e hx => ?_, I.base.tups, I.base.frzs, I.base.tbls⟩, ⟨m, hn.sameBut hs (Ne.symm (cne x c hc)), fun j y v' e1 e2 e3 => ?_⟩, fun y c' e => ?_, I.free, I.freeC, fun p hp => ?_, tracked ⟨oc, hoc, I.freeC x c hc⟩ hs, by simpa using I.len⟩ ⟨c, hs, .inr hc⟩
    · exact (hs.2 b (Nat.ne_of_lt (Nat.lt_of_lt_of_le (Heap.lt_size e) (I.ok.cab x c hfn hc)))).trans (I.base.keep b o e n hb hx)
    · obtain ⟨sl, e1⟩ := I.base.slot b o e n hb hx
      exact ⟨sl, (hs.2 b (Nat.ne_of_lt (Nat.lt_of_lt_of_le (Heap.lt_size e) (I.ok.cab x c hfn hc)))).trans e1⟩
    · obtain ⟨o', e1⟩ := I.base.there b o e hx
      exact ⟨o', (hs.2 b (Nat.ne_of_lt (Nat.lt_of_lt_of_le (Heap.lt_size e) (I.ok.cab x c hfn hc)))).trans e1⟩
    · by_cases hj : j = i
      · subst hj
        rw [hi] at e1; cases e1
        rw [List.getElem?_set_self hiσ] at e2
        cases e2
        exact ⟨u, r, .inr ⟨.inl hk, c, hc, hc'⟩⟩
      · rw [List.getElem?_set_ne (Ne.symm hj)] at e2
        obtain ⟨u', r', q⟩ := hl j y v' e1 e2 e3
        refine ⟨u', r', ?_⟩
        rcases q with q | ⟨k, c', e, z'⟩
        · exact .inl q
        · refine .inr ⟨k, c', e, z'.sameBut hs ?_⟩
          rintro rfl
          exact hj (nodup_ix hN e1 (I.ok.inj _ _ _ e hc ▸ hi))
    · by_cases hcc : c' = c
      · subst hcc; exact ⟨_, hc'⟩
      · obtain ⟨w2, z2⟩ := I.cell y c' e
        exact ⟨w2, z2.sameBut hs hcc⟩
    · obtain ⟨e, n, ne, nf, d⟩ := I.pin p hp
      refine ⟨(hs.2 p.1 ?_).trans e, n, ne, nf, d⟩
      intro q
      rw [q, hoc] at e
      have q' : oc = p.2 := Option.some.inj e
      exact d w' (by rw [← q']; exact hocd)
theorem store_ok {M : Model} {A : Around} {E : Value → Shared → Prop} {i : Nat} {x : Str} {v : V} {u : Value} {Q : Unit → Shared → Prop} (I : Inv X pins σ H s) (hN : X.N.Nodup) (hi : X.N[i]? = some x) (hx : Loc X.env.scope x) (r : RelV v u)
    (h : ∀ s', Inv X pins (σ.set i (some v)) H s' → Q () s') (hf : X.fn x = true ∨ X.env.scope.names.lookup x = some .local := by first | exact .inl rfl | exact .inr rfl | assumption) : wpAny M A (storeName X.env x u) Q E s :=
  store_ok2 I hN hi hx r (fun s' I' _ => h s' I') hf
/-- behind a call or a block, the state as it is -/
theorem Inv.call' {s' : Shared} {ch : List Addr} (I : Inv X pins σ H s) (ho : s'.os = s.os) (u : Un (frs X.stack) ch H H' s.heap s'.heap) (hok : HOk X.prog X.w H' s'.heap) (hg : AllBare s'.gens)
    (hch : ∀ b ∈ ch, (b ∈ X.ex ∨ X.s₀.heap.objs.size ≤ b) ∧ b ≠ X.env.locals ∧ (∀ x c, X.env.cells.lookup x = some c → c ≠ b) ∧ ∀ p ∈ X.pn ++ pins, p.1 ≠ b) : Inv X pins σ H' s' := by
  obtain ⟨h', g', d', t', o'⟩ := s'
  have e : o' = s.os := ho
  subst e
  exact I.call (g' := g') (t' := t') (d' := d') u hok hg hch
end

/-! ### the judgements -/
/-- an exception: its class, its own dict's address (where it has one), the abstract heap behind it -/
abbrev XK := Value → Option Addr → Hp → Prop
abbrev St := List (Option V)
abbrev VK := V → Hp → Prop
/-- an expression's reading; a test's; an argument list's -/
abbrev TE := St → Hp → VK → Prop
abbrev TT := St → Hp → (Bool → Hp → Prop) → Prop
abbrev TA := St → Hp → (List V → Hp → Prop) → Prop
/-- what is wanted behind a statement -/
structure Ends where
  nx : St → Hp → Prop
  rt : VK
  bk : St → Hp → Prop := fun _ _ => False
  ct : St → Hp → Prop := fun _ _ => False
abbrev TS := Ends → St → Hp → Prop

def EP (X : Cx) (pins : List (Addr × Obj)) (σ : St) (Q : VK) (u : Value) (s' : Shared) : Prop := ∃ v H', Inv X pins σ H' s' ∧ RelV v u ∧ Q v H'
def TP (X : Cx) (pins : List (Addr × Obj)) (σ : St) (Q : Bool → Hp → Prop) (b : Bool) (s' : Shared) : Prop := ∃ H', Inv X pins σ H' s' ∧ Q b H'
def AP (X : Cx) (pins : List (Addr × Obj)) (σ : St) (Q : List V → Hp → Prop) (us : List Value) (s' : Shared) : Prop := ∃ vs H', Inv X pins σ H' s' ∧ Vals vs us ∧ Q vs H'
def SP (X : Cx) (pins : List (Addr × Obj)) (D : Ends) (f : Flow) (s' : Shared) : Prop :=
  match f with
  | .next => ∃ σ' H', Inv X pins σ' H' s' ∧ D.nx σ' H'
  | .brk => ∃ σ' H', Inv X pins σ' H' s' ∧ D.bk σ' H'
  | .cont => ∃ σ' H', Inv X pins σ' H' s' ∧ D.ct σ' H'
  | .ret u => ∃ v σ' H', Inv X pins σ' H' s' ∧ RelV v u ∧ D.rt v H'

def PE (X : Cx) (e : Expr) (t : TE) : Prop :=
  ∀ (pins : List (Addr × Obj)) (s : Shared) (σ : St) (H : Hp) (Q : VK), Inv X pins σ H s → t σ H Q → wpAny (model X.prog X.w) X.A (eval e X.env) (EP X pins σ Q) X.xe s
def PT (X : Cx) (e : Expr) (t : TT) : Prop :=
  ∀ (pins : List (Addr × Obj)) (s : Shared) (σ : St) (H : Hp) (Q : Bool → Hp → Prop), Inv X pins σ H s → t σ H Q → wpAny (model X.prog X.w) X.A (isTrue e X.env (eval e X.env)) (TP X pins σ Q) X.xe s
/-- a test whatever its 'whole' is (and, or) -/
def PW (X : Cx) (e : Expr) (t : TT) : Prop :=
  ∀ (whole : Sem Value) (pins : List (Addr × Obj)) (s : Shared) (σ : St) (H : Hp) (Q : Bool → Hp → Prop), Inv X pins σ H s → t σ H Q → wpAny (model X.prog X.w) X.A (isTrue e X.env whole) (TP X pins σ Q) X.xe s
theorem PW.pt {X : Cx} {e : Expr} {t : TT} (h : PW X e t) : PT X e t := h _
/-- an argument list (no star), from the left -/
def PA (X : Cx) (es : List Expr) (t : TA) : Prop :=
  ∀ (pos : Pos) (pins : List (Addr × Obj)) (s : Shared) (σ : St) (H : Hp) (Q : List V → Hp → Prop), Inv X pins σ H s → t σ H Q → wpAny (model X.prog X.w) X.A (spliced (backTo pos (starEach es X.env))) (AP X pins σ Q) X.xe s
def PS (X : Cx) (st : Stmt) (t : TS) : Prop :=
  ∀ (pins : List (Addr × Obj)) (s : Shared) (σ : St) (H : Hp) (D : Ends), Inv X pins σ H s → t D σ H → wpAny (model X.prog X.w) X.A (exec st X.env) (SP X pins D) X.xe s
def PSs (X : Cx) (st : List Stmt) (t : TS) : Prop :=
  ∀ (pins : List (Addr × Obj)) (s : Shared) (σ : St) (H : Hp) (D : Ends), Inv X pins σ H s → t D σ H → wpAny (model X.prog X.w) X.A (execs st X.env) (SP X pins D) X.xe s
/-- weaken the end -/
theorem thn {α : Type} {t : Sem α} {Q Q' : α → Shared → Prop} {M : Model} {A : Around} {E : Value → Shared → Prop} {s : Shared} (h : wpAny M A t Q E s) (hQ : ∀ a s, Q a s → Q' a s) : wpAny M A t Q' E s := wpAny_mono h hQ fun _ _ x => x
end L2

namespace L2
open PySem PySem.Spec PyProof.Rows
section
variable {X : Cx}

/-- two expressions in a row -/
theorem bin {a b : Expr} {ta tb : TE} (ha : PE X a ta) (hb : PE X b tb) {pins : List (Addr × Obj)} {s : Shared} {σ : St} {H : Hp} {R : V → V → Hp → Prop} (I : Inv X pins σ H s) (h : ta σ H fun x H1 => tb σ H1 fun y H2 => R x y H2)
    {α : Type} {Q : α → Shared → Prop} {f : Value → Value → Sem α}
    (hf : ∀ v u s2 x y H2, Inv X pins σ H2 s2 → RelV x v → RelV y u → R x y H2 → wpAny (model X.prog X.w) X.A (f v u) Q X.xe s2) :
    wpAny (model X.prog X.w) X.A (eval a X.env) (fun v s₁ => wpAny (model X.prog X.w) X.A (eval b X.env) (fun u s₂ => wpAny (model X.prog X.w) X.A (f v u) Q X.xe s₂) X.xe s₁) X.xe s := by
  refine thn (ha pins s σ H _ I h) fun v s1 ⟨x, H1, I1, r1, q1⟩ => ?_
  refine thn (hb pins s1 σ H1 _ I1 q1) fun u s2 ⟨y, H2, I2, r2, q2⟩ => ?_
  exact hf v u s2 x y H2 I2 r1 r2 q2

/-! ### names and constants -/
def tVar (i : Nat) : TE := fun σ H Q => ∃ v, σ[i]? = some (some v) ∧ Q v H
def tC (v : V) : TE := fun _ H Q => Q v H
theorem pe_var {i : Nat} {x : Str} {pos : Pos} (hN : X.N[i]? = some x) (hv : Vis X.env.scope x) (hd : (x == ("__debug__" : Str)) = false := by decide) (hcd : (x == ("__classdict__" : Str)) = false := by decide) : PE X (.Name x pos) (tVar i) := by
  intro pins s σ H Q I h
  obtain ⟨v, e, h⟩ := h
  obtain ⟨m, hn, hl⟩ := I.loc
  obtain ⟨u, r, l⟩ := hl i x v hN e hv
  have fin : EP X pins σ Q u s := ⟨v, H, I, r, h⟩
  rcases l with ⟨hk, hm⟩ | ⟨hk, c, hc, hcell⟩
  · exact wpAny_Name (wpAny_loadName_local I.ok.kind hk hn hm fin) hd
  · rcases hk with hk | hk
    · exact wpAny_Name (wpAny_loadName_cell I.ok.kind hk hc hcell fin) hd
    · exact wpAny_Name (wpAny_loadName_free I.ok.kind hk hc hcell fin hcd) hd
theorem pe_int {i j pos} : PE X (.Constant (.int i) j pos) (tC (.int i)) := fun _ _ _ H _ I h => wpAny_Constant_int ⟨.int i, H, I.tok _, ⟨_, rfl⟩, h⟩
theorem pe_bl {b j pos} : PE X (.Constant (.bool b) j pos) (tC (.bl b)) := fun _ _ _ H _ I h => Constant_bool ⟨.bl b, H, I, rfl, h⟩
theorem pe_non {j pos} : PE X (.Constant .none j pos) (tC .non) := fun _ _ _ H _ I h => Constant_none ⟨.non, H, I, rfl, h⟩
theorem pe_str {x j pos} : PE X (.Constant (.str x) j pos) (tC (.str x)) := fun _ _ _ H _ I h => Calls.Constant_str ⟨.str x, H, I.tok _, ⟨_, rfl⟩, h⟩

/-- a global name of the def -/
def Gl (X : Cx) (x : Str) : Prop := X.env.kindOf x = some .globalImplicit
theorem ld_glob {E : Value → Shared → Prop} {pins : List (Addr × Obj)} {s : Shared} {σ : St} {H : Hp} {x : Str} {u : Value} {pos : Pos} {Q : Value → Shared → Prop} (I : Inv X pins σ H s) (hg : Gl X x) (hm : X.mg x = some u) (h : Q u s)
    (hd : (x == ("__debug__" : Str)) = false := by decide) : wpAny (model X.prog X.w) X.A (eval (.Name x pos) X.env) Q E s :=
  Calls.Name_function_global I.ok.kind hg (Calls.loadGlobal_global (by rw [I.ok.glob]; exact I.mod.glob.keeps I.bk) hm h) hd
theorem ld_blt {E : Value → Shared → Prop} {pins : List (Addr × Obj)} {s : Shared} {σ : St} {H : Hp} {x : Str} {u : Value} {pos : Pos} {Q : Value → Shared → Prop} (I : Inv X pins σ H s) (hg : Gl X x) (hm : X.mg x = none) (hv : bootBuiltins x = some u) (h : Q u s)
    (hn : x ≠ "__name__" := by decide) (hd : (x == ("__debug__" : Str)) = false := by decide) : wpAny (model X.prog X.w) X.A (eval (.Name x pos) X.env) Q E s := by
  obtain ⟨mb, h1, h2⟩ := I.mod.blt
  exact Calls.Name_function_global I.ok.kind hg (Calls.loadGlobal_builtin (by rw [I.ok.glob]; exact I.mod.glob.keeps I.bk) hm (by rw [I.ok.blt]; exact h1.keeps I.bk) ((h2 x hn).trans hv) h) hd
/-- a module's constant, a class, a function, as a value -/
theorem pe_glob {x : Str} {v : V} {u : Value} {pos : Pos} (hg : Gl X x) (hm : X.mg x = some u) (r : RelV v u) (hd : (x == ("__debug__" : Str)) = false := by decide) : PE X (.Name x pos) (tC v) :=
  fun _ _ _ H _ I h => ld_glob I hg hm ⟨v, H, I, r, h⟩ hd
theorem pe_bltn {x : Str} {v : V} {u : Value} {pos : Pos} (hg : Gl X x) (hm : X.mg x = none) (hv : bootBuiltins x = some u) (r : RelV v u) (hn : x ≠ "__name__" := by decide) (hd : (x == ("__debug__" : Str)) = false := by decide) : PE X (.Name x pos) (tC v) :=
  fun _ _ _ H _ I h => ld_blt I hg hm hv ⟨v, H, I, r, h⟩ hn hd

/-! ### arithmetic -/
/-- two ints -/
def t2I (ta tb : TE) (k : Int → Int → Hp → Prop) : St → Hp → Prop := fun σ H => ta σ H fun x H1 => tb σ H1 fun y H2 => ∃ i j, x = .int i ∧ y = .int j ∧ k i j H2
def tAdd (ta tb : TE) : TE := fun σ H Q => t2I ta tb (fun i j H2 => Q (.int (i + j)) H2) σ H
def tSub (ta tb : TE) : TE := fun σ H Q => t2I ta tb (fun i j H2 => Q (.int (i - j)) H2) σ H
/-- the left factor below 2^64 -/
def tMul (ta tb : TE) : TE := fun σ H Q => t2I ta tb (fun i j H2 => (-(2 ^ 64) < i ∧ i < 2 ^ 64) ∧ Q (.int (i * j)) H2) σ H
variable {a b : Expr} {ta tb : TE} {pos : Pos}
theorem pe_add (ha : PE X a ta) (hb : PE X b tb) : PE X (.BinOp a .Add b pos) (tAdd ta tb) := by
  intro pins s σ H Q I h
  refine wpAny_BinOp (bin ha hb I h fun v u s2 x y H2 I2 rx ry q => ?_)
  obtain ⟨i, j, rfl, rfl, q⟩ := q
  obtain ⟨t, rfl⟩ := rx
  obtain ⟨t', rfl⟩ := ry
  exact add_int ⟨.int _, H2, I2.tok _, ⟨_, rfl⟩, q⟩
theorem pe_sub (ha : PE X a ta) (hb : PE X b tb) : PE X (.BinOp a .Sub b pos) (tSub ta tb) := by
  intro pins s σ H Q I h
  refine wpAny_BinOp (bin ha hb I h fun v u s2 x y H2 I2 rx ry q => ?_)
  obtain ⟨i, j, rfl, rfl, q⟩ := q
  obtain ⟨t, rfl⟩ := rx
  obtain ⟨t', rfl⟩ := ry
  exact sub_int ⟨.int _, H2, I2.tok _, ⟨_, rfl⟩, q⟩
theorem pe_mul (ha : PE X a ta) (hb : PE X b tb) : PE X (.BinOp a .Mult b pos) (tMul ta tb) := by
  intro pins s σ H Q I h
  refine wpAny_BinOp (bin ha hb I h fun v u s2 x y H2 I2 rx ry q => ?_)
  obtain ⟨i, j, rfl, rfl, ⟨q1, q2⟩, q⟩ := q
  obtain ⟨t, rfl⟩ := rx
  obtain ⟨t', rfl⟩ := ry
  exact mul_int ⟨.int _, H2, I2.tok _, ⟨_, rfl⟩, q⟩ (.of_left (intBits_le_64 q1 q2))

/-! ### comparisons -/
def PC (X : Cx) (op : CmpOp) (a b : Expr) (t : TE) : Prop :=
  ∀ (pins : List (Addr × Obj)) (s : Shared) (σ : St) (H : Hp) (Q : VK), Inv X pins σ H s → t σ H Q →
    wpAny (model X.prog X.w) X.A (eval a X.env) (fun v s₁ => wpAny (model X.prog X.w) X.A (eval b X.env) (fun u s₂ => wpAny (model X.prog X.w) X.A (compareOp op v u) (EP X pins σ Q) X.xe s₂) X.xe s₁) X.xe s
theorem nobehind (b : Expr) {op : CmpOp} (h : op ≠ .In) (h2 : op ≠ .NotIn) : behindInMarks op b = false := by
  have e1 : (op == CmpOp.In) = false := by cases op <;> first | rfl | exact absurd rfl h
  have e2 : (op == CmpOp.NotIn) = false := by cases op <;> first | rfl | exact absurd rfl h2
  cases b <;> simp [behindInMarks, e1, e2]
def tCmp (p : Int → Int → Bool) (ta tb : TE) : TE := fun σ H Q => t2I ta tb (fun i j H2 => Q (.bl (p i j)) H2) σ H
abbrev tLt : TE → TE → TE := tCmp fun i j => decide (i < j)
abbrev tLe : TE → TE → TE := tCmp fun i j => decide (i ≤ j)
abbrev tGt : TE → TE → TE := tCmp fun i j => decide (j < i)
abbrev tGe : TE → TE → TE := tCmp fun i j => decide (j ≤ i)
abbrev tEqI : TE → TE → TE := tCmp fun i j => decide (i = j)
abbrev tNeI : TE → TE → TE := tCmp fun i j => !decide (i = j)
/-- a comparison of two ints, by its rule -/
theorem pc_int {op : CmpOp} {p : Int → Int → Bool} (ha : PE X a ta) (hb : PE X b tb)
    (rule : ∀ (i j : Int) (t u : Tok) (Q : Value → Shared → Prop) (s : Shared), Q (.bool (p i j)) s → wpAny (model X.prog X.w) X.A (compareOp op (.int i t) (.int j u)) Q X.xe s) : PC X op a b (tCmp p ta tb) := by
  intro pins s σ H Q I h
  refine bin ha hb I h fun v u s2 x y H2 I2 rx ry q => ?_
  obtain ⟨i, j, rfl, rfl, q⟩ := q
  obtain ⟨t, rfl⟩ := rx
  obtain ⟨t', rfl⟩ := ry
  exact rule i j t t' _ s2 ⟨.bl _, H2, I2, rfl, q⟩
theorem pc_lt (ha : PE X a ta) (hb : PE X b tb) : PC X .Lt a b (tLt ta tb) := pc_int ha hb fun _ _ _ _ _ _ h => lt_int h
theorem pc_le (ha : PE X a ta) (hb : PE X b tb) : PC X .LtE a b (tLe ta tb) := pc_int ha hb fun _ _ _ _ _ _ h => le_int h
theorem pc_gt (ha : PE X a ta) (hb : PE X b tb) : PC X .Gt a b (tGt ta tb) := pc_int ha hb fun _ _ _ _ _ _ h => gt_int h
theorem pc_ge (ha : PE X a ta) (hb : PE X b tb) : PC X .GtE a b (tGe ta tb) := pc_int ha hb fun _ _ _ _ _ _ h => ge_int h
theorem pc_eqI (ha : PE X a ta) (hb : PE X b tb) : PC X .Eq a b (tEqI ta tb) := pc_int ha hb fun _ _ _ _ _ _ h => eq_int (by rw [Bool.beq_eq_decide_eq]; exact h)
theorem pc_neI (ha : PE X a ta) (hb : PE X b tb) : PC X .NotEq a b (tNeI ta tb) := pc_int ha hb fun _ _ _ _ _ _ h => ne_int (by rw [bne, Bool.beq_eq_decide_eq]; exact h)
/-- is None -/
def tIsN (ta : TE) : TE := fun σ H Q => ta σ H fun x H1 => Q (.bl (decide (x = .non))) H1
def tNotN (ta : TE) : TE := fun σ H Q => ta σ H fun x H1 => Q (.bl (!decide (x = .non))) H1
theorem RelV.none_iff {x : V} {v : Value} (r : RelV x v) : (v == Value.none) = decide (x = .non) := by
  cases x with
  | non => cases r; rfl
  | bl _ => cases r; rfl
  | int _ => obtain ⟨t, rfl⟩ := r; rfl
  | str _ => obtain ⟨t, rfl⟩ := r; rfl
  | byt _ => obtain ⟨t, rfl⟩ := r; rfl
  | flt _ => obtain ⟨t, rfl⟩ := r; rfl
  | ref _ => cases r; rfl
  | ty _ => cases r; rfl
theorem pc_isN {j pos'} (ha : PE X a ta) : PC X .Is a (.Constant .none j pos') (tIsN ta) := by
  intro pins s σ H Q I h
  refine thn (ha pins s σ H _ I h) fun v s1 ⟨x, H1, I1, r1, q1⟩ => ?_
  exact Constant_none (is_none_gen ⟨.bl _, H1, I1, by rw [r1.none_iff]; rfl, q1⟩)
theorem pc_notN {j pos'} (ha : PE X a ta) : PC X .IsNot a (.Constant .none j pos') (tNotN ta) := by
  intro pins s σ H Q I h
  refine thn (ha pins s σ H _ I h) fun v s1 ⟨x, H1, I1, r1, q1⟩ => ?_
  exact Constant_none (isnot_none_gen ⟨.bl _, H1, I1, by rw [r1.none_iff]; rfl, q1⟩)
/-- a comparison as a value, as a test -/
def tB (t : TE) : TT := fun σ H Q => t σ H fun x H1 => ∃ c, x = .bl c ∧ Q c H1
theorem pe_cmp {op : CmpOp} {t : TE} (h : PC X op a b t) (h1 : behindInMarks op b = false := by first | exact nobehind _ (by decide) (by decide) | rfl) : PE X (.Compare a [op] [b] pos) t := fun pins s σ H Q I hw => wpAny_Compare1 (h pins s σ H Q I hw) h1
theorem pt_cmp {op : CmpOp} {t : TE} (h : PC X op a b t) (h1 : behindInMarks op b = false := by first | exact nobehind _ (by decide) (by decide) | rfl) : PT X (.Compare a [op] [b] pos) (tB t) := by
  intro pins s σ H Q I hw
  refine wpAny_isTrue_Compare1 (thn (h pins s σ H _ I hw) fun v s1 h1 => thn h1 fun u s2 h2 => thn h2 fun c s3 ⟨x, H1, I1, r1, q1⟩ => ?_) h1
  obtain ⟨d, rfl, q⟩ := q1
  cases r1
  exact wpAny_truthy_bool ⟨H1, I1, q⟩
/-- an expression whose value is a bool, as a test -/
theorem pt_val {e : Expr} {t : TE} (h : PE X e t) (he : ∀ whole, isTrue e X.env whole = (do let v ← whole; standAt e.pos; holding [v] (truthy v)) := by intro _; rfl) : PT X e (tB t) := by
  intro pins s σ H Q I hw
  refine isTrue_plain (thn (h pins s σ H _ I hw) fun v s1 ⟨x, H1, I1, r1, q1⟩ => ?_) (he _)
  obtain ⟨d, rfl, q⟩ := q1
  cases r1
  exact wpAny_truthy_bool ⟨H1, I1, q⟩

/-! ### and, or, not -/
variable {tA tB' : TT} {rest : List Expr}
def tAnd (t u : TT) : TT := fun σ H Q => t σ H fun c H1 => if c = true then u σ H1 Q else Q false H1
def tOr (t u : TT) : TT := fun σ H Q => t σ H fun c H1 => if c = true then Q true H1 else u σ H1 Q
def tNot (t : TT) : TT := fun σ H Q => t σ H fun c H1 => Q (!c) H1
theorem pw_and1 (ha : PT X a tA) : PW X (.BoolOp .And [a] pos) tA := by
  intro wh pins s σ H Q I h
  refine isTrue_and (thn (ha pins s σ H Q I h) fun c s1 e => ?_)
  cases c with
  | true => exact isTrue_and_nil e
  | false => exact e
theorem pw_or1 (ha : PT X a tA) : PW X (.BoolOp .Or [a] pos) tA := by
  intro wh pins s σ H Q I h
  refine isTrue_or (thn (ha pins s σ H Q I h) fun c s1 e => ?_)
  cases c with
  | false => exact isTrue_or_nil e
  | true => exact e
theorem pw_and (ha : PT X a tA) (hb : PW X (.BoolOp .And (b :: rest) pos) tB') : PW X (.BoolOp .And (a :: b :: rest) pos) (tAnd tA tB') := by
  intro wh pins s σ H Q I h
  refine isTrue_and (thn (ha pins s σ H _ I h) fun c s1 ⟨H1, I1, q1⟩ => ?_)
  cases c with
  | true => exact hb wh pins s1 σ H1 Q I1 q1
  | false => exact ⟨H1, I1, q1⟩
theorem pw_or (ha : PT X a tA) (hb : PW X (.BoolOp .Or (b :: rest) pos) tB') : PW X (.BoolOp .Or (a :: b :: rest) pos) (tOr tA tB') := by
  intro wh pins s σ H Q I h
  refine isTrue_or (thn (ha pins s σ H _ I h) fun c s1 ⟨H1, I1, q1⟩ => ?_)
  cases c with
  | true => exact ⟨H1, I1, q1⟩
  | false => exact hb wh pins s1 σ H1 Q I1 q1
theorem pt_not (ha : PT X a tA) : PT X (.UnaryOp .Not a pos) (tNot tA) := by
  intro pins s σ H Q I h
  exact isTrue_not (ha pins s σ H (fun c H1 => Q (!c) H1) I h)
/-- .. as values (bools) -/
def tAndV (ta tb : TE) : TE := fun σ H Q => ta σ H fun x H1 => ∃ c, x = .bl c ∧ if c = true then tb σ H1 Q else Q (.bl false) H1
def tOrV (ta tb : TE) : TE := fun σ H Q => ta σ H fun x H1 => ∃ c, x = .bl c ∧ if c = true then Q (.bl true) H1 else tb σ H1 Q
def tNotV (ta : TE) : TE := fun σ H Q => ta σ H fun x H1 => ∃ c, x = .bl c ∧ Q (.bl (!c)) H1
theorem pe_one {op} {t : TE} (h : PE X a t) : PE X (.BoolOp op [a] pos) t := fun pins s σ H Q I hw => BoolOp_one (h pins s σ H Q I hw)
theorem pe_and (ha : PE X a ta) (hb : PE X (.BoolOp .And (b :: rest) pos) tb) : PE X (.BoolOp .And (a :: b :: rest) pos) (tAndV ta tb) := by
  intro pins s σ H Q I h
  refine BoolOp_and (thn (ha pins s σ H _ I h) fun v s1 ⟨x, H1, I1, r1, q1⟩ => ?_)
  obtain ⟨c, rfl, q1⟩ := q1
  cases r1
  refine wpAny_truthy_bool ?_
  cases c with
  | true => exact hb pins s1 σ H1 Q I1 q1
  | false => exact ⟨.bl false, H1, I1, rfl, q1⟩
theorem pe_or (ha : PE X a ta) (hb : PE X (.BoolOp .Or (b :: rest) pos) tb) : PE X (.BoolOp .Or (a :: b :: rest) pos) (tOrV ta tb) := by
  intro pins s σ H Q I h
  refine BoolOp_or (thn (ha pins s σ H _ I h) fun v s1 ⟨x, H1, I1, r1, q1⟩ => ?_)
  obtain ⟨c, rfl, q1⟩ := q1
  cases r1
  refine wpAny_truthy_bool ?_
  cases c with
  | false => exact hb pins s1 σ H1 Q I1 q1
  | true => exact ⟨.bl true, H1, I1, rfl, q1⟩
theorem pe_not (ha : PE X a ta) : PE X (.UnaryOp .Not a pos) (tNotV ta) := by
  intro pins s σ H Q I h
  refine UnaryOp_ (thn (ha pins s σ H _ I h) fun v s1 ⟨x, H1, I1, r1, q1⟩ => ?_)
  obtain ⟨c, rfl, q1⟩ := q1
  cases r1
  exact not_of (wpAny_truthy_bool ⟨.bl (!c), H1, I1, rfl, q1⟩)
/-- a if t else b -/
def tIf (t : TT) (ta tb : TE) : TE := fun σ H Q => t σ H fun c H1 => if c = true then ta σ H1 Q else tb σ H1 Q
theorem pe_ifExp {c : Expr} (hc : PT X c tA) (ha : PE X a ta) (hb : PE X b tb) : PE X (.IfExp c a b pos) (tIf tA ta tb) := by
  intro pins s σ H Q I h
  refine wpAny_IfExp (thn (hc pins s σ H _ I h) fun d s1 ⟨H1, I1, q1⟩ => ?_)
  cases d with
  | true => exact ha pins s1 σ H1 Q I1 q1
  | false => exact hb pins s1 σ H1 Q I1 q1
end
end L2

namespace L2
open PySem PySem.Spec PyProof.Rows

/-! ### a list, a tuple that is read: tracked, frozen, or an object of the module -/
def SqL (K : PySem.W.Frag) (H : Hp) (a : Addr) (xs : List V) : Prop :=
  Rd H a (.lst xs) ∨
    ∃ (o : Obj) (its : Array Value) (n : Nat), K.lookup a = some o ∧ o.cls = .type "list" ∧ o.dict = none ∧ o.data = .seq its n ∧ its.size ≤ sizeLine ∧ Vals xs its.toList
def SqT (K : PySem.W.Frag) (H : Hp) (a : Addr) (xs : List V) : Prop :=
  Rd H a (.tup xs) ∨
    ∃ (o : Obj) (its : Array Value) (n : Nat), K.lookup a = some o ∧ o.cls = .type "tuple" ∧ o.data = .seq its n ∧ its.size ≤ sizeLine ∧ Vals xs its.toList
def absV : Value → Option V
  | .none => some .non
  | .bool b => some (.bl b)
  | .int i _ => some (.int i)
  | .str x _ => some (.str x)
  | .bytes b _ => some (.byt b)
  | .float b _ => some (.flt b)
  | .ref a => some (.ref a)
  | .type n => some (.ty n)
  | _ => none
theorem RelV.abs {x : V} {u : Value} (r : RelV x u) : absV u = some x := by
  cases x with
  | non => cases r; rfl
  | bl _ => cases r; rfl
  | int _ => obtain ⟨t, rfl⟩ := r; rfl
  | str _ => obtain ⟨t, rfl⟩ := r; rfl
  | byt _ => obtain ⟨t, rfl⟩ := r; rfl
  | flt _ => obtain ⟨t, rfl⟩ := r; rfl
  | ref _ => cases r; rfl
  | ty _ => cases r; rfl
theorem RelV.inj {x y : V} {u : Value} (r : RelV x u) (q : RelV y u) : x = y := Option.some.inj (r.abs.symm.trans q.abs)
theorem Vals.inj : ∀ {xs ys : List V} {us : List Value}, Vals xs us → Vals ys us → xs = ys
  | _, _, _, .nil, .nil => rfl
  | _, _, _, .cons r t, .cons r' t' => by rw [r.inj r', Vals.inj t t']
section
variable {X : Cx} {pins : List (Addr × Obj)} {σ : St} {H : Hp} {s : Shared} {a : Addr} {xs ys : List V}
theorem SqL.of {K : PySem.W.Frag} (h : H a = some (.lst xs)) : SqL K H a xs := .inl (.inl h)
theorem SqT.of {K : PySem.W.Frag} (h : H a = some (.tup xs)) : SqT K H a xs := .inl (.inl h)
theorem Inv.list (I : Inv X pins σ H s) (h : SqL X.K H a xs) : ∃ its : List Value, Vals xs its ∧ PlainL s.heap a its.toArray ∧ xs.length ≤ sizeLine := by
  rcases h with h | ⟨o, its, n, hk, hc, hd, hs, hz, r⟩
  · obtain ⟨z, its, n, r, e⟩ := h.ok I.hok
    exact ⟨its, r, ⟨_, n, e, rfl, rfl, rfl⟩, z⟩
  · refine ⟨its.toList, r, ⟨o, n, I.kIn a o hk, hc, hd, by simpa using hs⟩, ?_⟩
    have e := r.length
    simp only [Array.length_toList] at e
    omega
theorem Inv.tuple (I : Inv X pins σ H s) (h : SqT X.K H a xs) : ∃ its : List Value, Vals xs its ∧ IsTup s.heap a its.toArray ∧ xs.length ≤ sizeLine := by
  rcases h with h | ⟨o, its, n, hk, hc, hs, hz, r⟩
  · obtain ⟨z, its, r, p⟩ := h.ok I.hok
    exact ⟨its, r, p, z⟩
  · refine ⟨its.toList, r, ⟨o, I.kIn a o hk, hc, n, by simpa using hs⟩, ?_⟩
    have e := r.length
    simp only [Array.length_toList] at e
    omega
theorem Inv.list_inj (I : Inv X pins σ H s) (h : SqL X.K H a xs) (h' : SqL X.K H a ys) : xs = ys := by
  obtain ⟨its, r, ⟨o, n, e, _, _, d⟩, _⟩ := I.list h
  obtain ⟨its', r', ⟨o', n', e', _, _, d'⟩, _⟩ := I.list h'
  rw [e] at e'; cases e'
  rw [d] at d'
  injection d' with d1 _
  have : its = its' := by simpa using congrArg Array.toList d1
  subst this
  exact r.inj r'
theorem Inv.tuple_inj (I : Inv X pins σ H s) (h : SqT X.K H a xs) (h' : SqT X.K H a ys) : xs = ys := by
  obtain ⟨its, r, ⟨o, e, _, n, d⟩, _⟩ := I.tuple h
  obtain ⟨its', r', ⟨o', e', _, n', d'⟩, _⟩ := I.tuple h'
  rw [e] at e'; cases e'
  rw [d] at d'
  injection d' with d1 _
  have : its = its' := by simpa using congrArg Array.toList d1
  subst this
  exact r.inj r'
end

/-! ### another wish about exceptions -/
abbrev Cx.wish (X : Cx) (E : Value → Shared → Prop) : Cx := { X with xe := E }
/-- no exception leaves -/
abbrev Cx.nox (X : Cx) : Cx := X.wish fun _ _ => False
theorem Cx.Ok.wish {X : Cx} (ok : X.Ok) (E : Value → Shared → Prop) : (X.wish E).Ok :=
  ⟨ok.mod, ok.kind, ok.glob, ok.blt, ok.above, ok.inj, ok.has, ok.cab, ok.hd, ok.frames, ok.stk, ok.exf, ok.bs, ok.bsz, ok.noex, ok.exfs, ok.funs, ok.frf⟩
theorem Cx.Ok.unwish {X : Cx} {E : Value → Shared → Prop} (ok : (X.wish E).Ok) : X.Ok :=
  ⟨ok.mod, ok.kind, ok.glob, ok.blt, ok.above, ok.inj, ok.has, ok.cab, ok.hd, ok.frames, ok.stk, ok.exf, ok.bs, ok.bsz, ok.noex, ok.exfs, ok.funs, ok.frf⟩
section
variable {X : Cx} {pins : List (Addr × Obj)} {σ : St} {H : Hp} {s : Shared} {E : Value → Shared → Prop}
theorem Inv.wish (I : Inv X pins σ H s) (E : Value → Shared → Prop) : Inv (X.wish E) pins σ H s := ⟨I.ok.wish E, I.os, I.bare, I.base, I.loc, I.cell, I.free, I.freeC, I.pin, I.hok, I.len⟩
theorem Inv.unwish (I : Inv (X.wish E) pins σ H s) : Inv X pins σ H s := ⟨I.ok.unwish, I.os, I.bare, I.base, I.loc, I.cell, I.free, I.freeC, I.pin, I.hok, I.len⟩
theorem SP.unwish {D : Ends} {f : Flow} {s' : Shared} (h : SP (X.wish E) pins D f s') : SP X pins D f s' := by
  cases f with
  | next => obtain ⟨σ', H', I, q⟩ := h; exact ⟨σ', H', I.unwish, q⟩
  | brk => obtain ⟨σ', H', I, q⟩ := h; exact ⟨σ', H', I.unwish, q⟩
  | cont => obtain ⟨σ', H', I, q⟩ := h; exact ⟨σ', H', I.unwish, q⟩
  | ret u => obtain ⟨v, σ', H', I, r, q⟩ := h; exact ⟨v, σ', H', I.unwish, r, q⟩
theorem PE.nox {e : Expr} {t : TE} (h : PE X.nox e t) : PE X e t := fun pins s σ H Q I hw =>
  wpAny_mono (h pins s σ H Q (I.wish _) hw) (fun _ _ ⟨v, H', I', r, q⟩ => ⟨v, H', I'.unwish, r, q⟩) fun _ _ z => False.elim z
theorem PT.nox {e : Expr} {t : TT} (h : PT X.nox e t) : PT X e t := fun pins s σ H Q I hw =>
  wpAny_mono (h pins s σ H Q (I.wish _) hw) (fun _ _ ⟨H', I', q⟩ => ⟨H', I'.unwish, q⟩) fun _ _ z => False.elim z
theorem PSs.nox {st : List Stmt} {t : TS} (h : PSs X.nox st t) : PSs X st t := fun pins s σ H D I hw =>
  wpAny_mono (h pins s σ H D (I.wish _) hw) (fun _ _ q => q.unwish) fun _ _ z => False.elim z
end

/-! ### blocks and small statements -/
section
variable {X : Cx} {st : Stmt} {rest : List Stmt} {t u : TS} {e : Expr} {te : TE} {pos : Pos}
def tNext : TS := fun D σ H => D.nx σ H
def tSeq (t u : TS) : TS := fun D σ H => t { D with nx := u D } σ H
theorem pss_nil : PSs X [] tNext := fun _ _ σ H _ I h => wpAny_execs_nil ⟨σ, H, I, h⟩
theorem pss_cons (h1 : PS X st t) (h2 : PSs X rest u) : PSs X (st :: rest) (tSeq t u) := by
  intro pins s σ H D I h
  refine wpAny_execs_cons (thn (h1 pins s σ H { D with nx := u D } I h) fun f s1 q => ?_)
  cases f with
  | next =>
    obtain ⟨σ', H', I', q⟩ := q
    exact h2 pins s1 σ' H' D I' q
  | ret v => exact q
  | brk => exact q
  | cont => exact q
theorem pss_one (h1 : PS X st t) : PSs X [st] t := by
  intro pins s σ H D I h
  refine wpAny_execs_cons (thn (h1 pins s σ H D I h) fun f s1 q => ?_)
  cases f with
  | next => exact wpAny_execs_nil q
  | ret v => exact q
  | brk => exact q
  | cont => exact q
def tBreak : TS := fun D σ H => D.bk σ H
def tCont : TS := fun D σ H => D.ct σ H
theorem ps_pass : PS X (.Pass pos) tNext := fun _ _ σ H _ I h => wpAny_Pass ⟨σ, H, I, h⟩
theorem ps_break : PS X (.Break pos) tBreak := fun _ _ σ H _ I h => wpAny_Break ⟨σ, H, I, h⟩
theorem ps_continue : PS X (.Continue pos) tCont := fun _ _ σ H _ I h => wpAny_Continue ⟨σ, H, I, h⟩
/-- in a def's body nothing is shown -/
theorem Inv.quiet {pins : List (Addr × Obj)} {σ : St} {H : Hp} {s : Shared} (I : Inv X pins σ H s) : interactive X.env = false := by simp [interactive, I.ok.kind]
/-- a docstring -/
theorem ps_doc {x j pos pos'} : PS X (.Expr (.Constant (.str x) j pos) pos') tNext := fun _ s σ H _ I h => wpAny_Expr (Calls.Constant_str (show SP X _ _ .next { s with toks := s.toks + 1 } from ⟨σ, H, I.tok _, h⟩)) I.quiet
/-- an expression whose value is dropped -/
def tDrop (te : TE) : TS := fun D σ H => te σ H fun _ H1 => D.nx σ H1
theorem ps_expr (he : PE X e te) (hs : swapsWith e none pos.line X.env = pure false := by rfl) : PS X (.Expr e pos) (tDrop te) := by
  intro pins s σ H D I h
  exact wpAny_Expr_any (thn (he pins s σ H _ I h) fun v s1 ⟨x, H1, I1, r1, q1⟩ => ⟨σ, H1, I1, q1⟩) I.quiet hs
def tRet (te : TE) : TS := fun D σ H => te σ H D.rt
theorem ps_ret (he : PE X e te) : PS X (.Return (some e) pos) (tRet te) := by
  intro pins s σ H D I h
  exact wpAny_Return_some (thn (he pins s σ H _ I h) fun v s1 ⟨x, H1, I1, r1, q1⟩ => ⟨x, σ, H1, I1, r1, q1⟩)
def tRetN : TS := fun D _ H => D.rt .non H
theorem ps_retN : PS X (.Return none pos) tRetN := fun _ _ σ H _ I h => wpAny_Return_none ⟨.non, σ, H, I, rfl, h⟩
def tIfS (c : TT) (t u : TS) : TS := fun D σ H => c σ H fun b H1 => if b = true then t D σ H1 else u D σ H1
theorem ps_if {c : Expr} {a b : List Stmt} {tc : TT} (hc : PT X c tc) (ha : PSs X a t) (hb : PSs X b u) : PS X (.If c a b pos) (tIfS tc t u) := by
  intro pins s σ H D I h
  refine wpAny_If (thn (hc pins s σ H _ I h) fun d s1 ⟨H1, I1, q1⟩ => ?_)
  cases d with
  | true => exact ha pins s1 σ H1 D I1 q1
  | false => exact hb pins s1 σ H1 D I1 q1
/-- code that the proof never comes to -/
def tNever : TS := fun _ _ _ => False
theorem ps_never : PS X st tNever := fun _ _ _ _ _ _ h => h.elim
theorem pss_never {sts : List Stmt} : PSs X sts tNever := fun _ _ _ _ _ _ h => h.elim
end

/-! ### targets -/
abbrev TG := V → St → Hp → (St → Hp → Prop) → Prop
abbrev TGs := List V → St → Hp → (St → Hp → Prop) → Prop
def PG (X : Cx) (target : Expr) (t : TG) : Prop :=
  ∀ (pins : List (Addr × Obj)) (s : Shared) (σ : St) (H : Hp) (v : V) (u : Value) (Q : St → Hp → Prop), Inv X pins σ H s → RelV v u → t v σ H Q →
    wpAny (model X.prog X.w) X.A (assign target X.env u) (fun _ s' => ∃ σ' H', Inv X pins σ' H' s' ∧ Q σ' H') X.xe s
/-- several targets, one after another -/
def PGs (X : Cx) (ts : List Expr) (t : TGs) : Prop :=
  ∀ (pins : List (Addr × Obj)) (s : Shared) (σ : St) (H : Hp) (vs : List V) (us : List Value) (Q : St → Hp → Prop), Inv X pins σ H s → Vals vs us → t vs σ H Q →
    wpAny (model X.prog X.w) X.A (assignInOrder ((assignEach ts X.env).map (·.2)) us) (fun _ s' => ∃ σ' H', Inv X pins σ' H' s' ∧ Q σ' H') X.xe s
/-- o[i] = v, by values -/
abbrev TSet := V → V → V → Hp → (Hp → Prop) → Prop
def PSet (X : Cx) (t : TSet) : Prop :=
  ∀ (pins : List (Addr × Obj)) (s : Shared) (σ : St) (H : Hp) (o i v : V) (ov iv u : Value) (Q : Hp → Prop), Inv X pins σ H s → RelV o ov → RelV i iv → RelV v u → t o i v H Q →
    wpAny (model X.prog X.w) X.A (setItem ov iv u) (fun _ s' => ∃ H', Inv X pins σ H' s' ∧ Q H') X.xe s
/-- a op= b, by values -/
abbrev TIp := V → V → Hp → VK → Prop
def PIp (X : Cx) (op : Operator) (t : TIp) : Prop :=
  ∀ (pins : List (Addr × Obj)) (s : Shared) (σ : St) (H : Hp) (x y : V) (v u : Value) (Q : VK), Inv X pins σ H s → RelV x v → RelV y u → t x y H Q →
    wpAny (model X.prog X.w) X.A (inplaceOp op v u) (EP X pins σ Q) X.xe s
section
variable {X : Cx} {pos : Pos}
def gName (i : Nat) : TG := fun v σ H Q => Q (σ.set i (some v)) H
theorem pg_name {i : Nat} {x : Str} (hN : X.N.Nodup) (hi : X.N[i]? = some x) (hx : Loc X.env.scope x) (hf : X.fn x = true ∨ X.env.scope.names.lookup x = some .local := by first | exact .inl rfl | exact .inr rfl | assumption) : PG X (.Name x pos) (gName i) := by
  intro pins s σ H v u Q I r h
  exact wpAny_assign_Name (store_ok I hN hi hx r (fun s' I' => ⟨_, H, I', h⟩) hf)
def gNil : TGs := fun vs σ H Q => vs = [] ∧ Q σ H
def gCons (t : TG) (u : TGs) : TGs := fun vs σ H Q => ∃ v r, vs = v :: r ∧ t v σ H fun σ' H' => u r σ' H' Q
theorem pgs_nil : PGs X [] gNil := by
  intro pins s σ H vs us Q I r h
  obtain ⟨e, h⟩ := h
  subst e
  cases r
  exact assignInOrder_nil ⟨σ, H, I, h⟩
theorem pgs_cons {e : Expr} {es : List Expr} {t : TG} {u : TGs} (h1 : PG X e t) (h2 : PGs X es u)
    (hs : (assignEach (e :: es) X.env).map (·.2) = assign e X.env :: (assignEach es X.env).map (·.2) := by rfl) : PGs X (e :: es) (gCons t u) := by
  intro pins s σ H vs us Q I r h
  obtain ⟨v, vr, e1, h⟩ := h
  subst e1
  cases r with
  | cons r rr =>
    rw [hs]
    refine assignInOrder_cons (thn (h1 pins s σ H _ _ _ I r h) fun _ s1 ⟨σ1, H1, I1, q1⟩ => ?_)
    exact h2 pins s1 σ1 H1 _ _ Q I1 rr q1
/-- (a, b, ..) = a tuple of that length -/
def gTup (K : PySem.W.Frag) (n : Nat) (t : TGs) : TG := fun v σ H Q => ∃ a xs, v = .ref a ∧ SqT K H a xs ∧ xs.length = n ∧ t xs σ H Q
theorem pg_tup {es : List Expr} {k : Nat} {t : TGs} {n : Nat} (hc : X.calm = true) (h : PGs X es t)
    (hn : (assignEach es X.env).length = n := by rfl) (hst : (assignEach es X.env).findIdx? (·.1) = none := by rfl) : PG X (.Tuple es k pos) (gTup X.K n t) := by
  intro pins s σ H v u Q I r hw
  obtain ⟨a, xs, e1, hq, hl, hw⟩ := hw
  subst e1
  cases r
  obtain ⟨its, rv, ht, hz⟩ := I.tuple hq
  refine assign_Tuple_tuple (I.ok.hd hc) ht (by simp [hn, ← hl, rv.length]) hst fun h' hx => ?_
  have I1 : Inv X pins σ H { s with heap := h' } := I.kept (t' := s.toks) fun b o e => hx b o (Nat.ne_of_lt (Heap.lt_size e)) e
  exact h pins _ σ H xs _ Q I1 (by simpa using rv) hw
/-- o[i] = .. -/
def gSub (to ti : TE) (t : TSet) : TG := fun v σ H Q => to σ H fun o H1 => ti σ H1 fun i H2 => t o i v H2 fun H3 => Q σ H3
theorem pg_sub {o i : Expr} {to ti : TE} {t : TSet} (ho : PE X o to) (hi : PE X i ti) (hs : PSet X t)
    (ha : ∀ v, assign (.Subscript o i pos) X.env v = (do
      let ov ← holding [v] (eval o X.env)
      let iv ← holding [v, ov] (eval i X.env)
      standAt pos
      holding [v, ov, iv] (setItem ov iv v)
      release [v, ov, iv] []) := by intro _; rfl) : PG X (.Subscript o i pos) (gSub to ti t) := by
  intro pins s σ H v u Q I r h
  rw [ha]
  refine wpAny_bind (wpAny_holding (thn (ho pins s σ H _ I h) fun ov s1 ⟨x, H1, I1, r1, q1⟩ => ?_))
  refine wpAny_bind (wpAny_holding (thn (hi pins s1 σ H1 _ I1 q1) fun iv s2 ⟨y, H2, I2, r2, q2⟩ => ?_))
  refine wpAny_bind (wpAny_standAt (wpAny_bind (wpAny_holding (thn (hs pins s2 σ H2 x y v ov iv u _ I2 r1 r2 r q2) fun _ s3 ⟨H3, I3, q3⟩ => ?_))))
  exact wpAny_release ⟨σ, H3, I3, q3⟩
/-- target = value -/
def tAsg (te : TE) (g : TG) : TS := fun D σ H => te σ H fun x H1 => g x σ H1 D.nx
theorem ps_asg {tg e : Expr} {te : TE} {g : TG} (he : PE X e te) (hg : PG X tg g) (hs : swapsWithSole [tg] e pos.line X.env = pure false := by rfl) (hw : swappedStores [tg] e X.env = pure none := by rfl)
    (h1 : (assignEach [tg] X.env).map (·.2) = [assign tg X.env] := by rfl) : PS X (.Assign [tg] e pos) (tAsg te g) := by
  intro pins s σ H D I h
  refine wpAny_Assign_stores (thn (he pins s σ H _ I h) fun v s1 ⟨x, H1, I1, r1, q1⟩ => ?_) hs hw
  rw [h1]
  exact thn (hg pins s1 σ H1 x v _ I1 r1 q1) fun _ s2 q => q
/-- name = value -/
theorem ps_set {i : Nat} {x : Str} {e : Expr} {te : TE} {pos' : Pos} (hN : X.N.Nodup) (hi : X.N[i]? = some x) (hx : Loc X.env.scope x) (he : PE X e te) (hs : swapsWith e (some (.Name x pos')) pos.line X.env = pure false := by rfl) (hf : X.fn x = true ∨ X.env.scope.names.lookup x = some .local := by first | exact .inl rfl | exact .inr rfl | assumption) :
    PS X (.Assign [.Name x pos'] e pos) (tAsg te (gName i)) := by
  intro pins s σ H D I h
  refine wpAny_Assign_Name (thn (he pins s σ H _ I h) fun v s1 ⟨y, H1, I1, r1, q1⟩ => ?_) hs
  exact store_ok I1 hN hi hx r1 (fun s2 I2 => ⟨_, H1, I2, q1⟩) hf
/-- a, b = x, y with plain local names: stored from the right; the pair itself is not tracked (the opening rows as in PyProof/Rows/TupAssign.lean:23) -/
def tPar (i j : Nat) (ta : TA) : TS := fun D σ H => ta σ H fun vs H1 => ∃ v w, vs = [v, w] ∧ D.nx ((σ.set i (some v)).set j (some w)) H1
theorem ps_par {i j : Nat} {x y : Str} {a b : Expr} {ta : TA} {px py pt : Pos} {kt k2 pt2} (hc : X.calm = true) (hN : X.N.Nodup) (hi : X.N[i]? = some x) (hj : X.N[j]? = some y) (hij : i ≠ j)
    (hx : X.env.scope.names.lookup x = some .local) (hy : X.env.scope.names.lookup y = some .local) (ha : PA X [a, b] ta)
    (hw : swappedStores [.Tuple [.Name x px, .Name y py] kt pt] (.Tuple [a, b] k2 pt2) X.env = pure (some [x, y]))
    (hs : swapsWithSole [.Tuple [.Name x px, .Name y py] kt pt] (.Tuple [a, b] k2 pt2) pos.line X.env = pure false := by rfl) :
    PS X (.Assign [.Tuple [.Name x px, .Name y py] kt pt] (.Tuple [a, b] k2 pt2) pos) (tPar i j ta) := by
  intro pins s σ H D I h
  rw [exec_Assign_arm]
  refine wpAny_bind (wpAny_standAt ?_)
  rw [hs]
  refine wpAny_bind (wpAny_pure ?_)
  rw [if_neg (by decide)]
  refine wpAny_bind (Tuple_ (thn (ha _ pins s σ H _ I h) fun us s1 ⟨vs, H1, I1, r1, q1⟩ => ?_))
  obtain ⟨v, w, e1, q1⟩ := q1
  subst e1
  obtain ⟨u1, u2, rfl, rv, rw'⟩ : ∃ u1 u2, us = [u1, u2] ∧ RelV v u1 ∧ RelV w u2 := by
    cases r1 with
    | cons p q =>
      cases q with
      | cons p' q' =>
        cases q'
        exact ⟨_, _, rfl, p, p'⟩
  refine wpAny_newObj_type ?_ (by show 2 ≤ sizeLine; decide)
  have I2 : Inv X pins σ H1 { s1 with heap := s1.heap.push { cls := .type "tuple", data := .seq [u1, u2].toArray } } := I1.kept (t' := s1.toks) fun b o e => Heap.get?_push_of_some _ e
  rw [hw]
  refine wpAny_bind (wpAny_pure ?_)
  show wpAny (model X.prog X.w) X.A (do rule "assign.swapped-stores"; let items ← unpackItems (.ref s1.heap.objs.size) 2 none; assignInOrder [fun v => bindName X.env y v, fun v => bindName X.env x v] items.reverse; pure Flow.next) _ _ _
  refine wpAny_bind (wpAny_rule (wpAny_bind (unpackItems_tuple (items := #[u1, u2]) (I.ok.hd hc) (IsTup.new s1.heap _) fun h' hx' => ?_)))
  have I3 := I2.kept (h' := h') (t' := s1.toks) fun b o e => hx' b o (Nat.ne_of_lt (Heap.lt_size e)) e
  show wpAny _ _ (assignInOrder [fun v => bindName X.env y v, fun v => bindName X.env x v] [u2, u1] >>= fun _ => pure Flow.next) _ _ _
  refine wpAny_bind (assignInOrder_cons (wpAny_bindName (store_ok I3 hN hj (.inl hy) rw' (fun s2 I4 => ?_) (.inr hy))))
  refine assignInOrder_cons (wpAny_bindName (store_ok I4 hN hi (.inl hx) rv (fun s3 I5 => assignInOrder_nil (wpAny_pure ?_)) (.inr hx)))
  rw [List.set_comm _ _ (Ne.symm hij)] at I5
  exact ⟨_, H1, I5, q1⟩
/-- name op= e -/
def tAug (i : Nat) (te : TE) (ti : TIp) : TS := fun D σ H => ∃ x, σ[i]? = some (some x) ∧ te σ H fun y H1 => ti x y H1 fun z H2 => D.nx (σ.set i (some z)) H2
theorem ps_aug {i : Nat} {x : Str} {e : Expr} {te : TE} {op : Operator} {ti : TIp} {pos' : Pos} (hN : X.N.Nodup) (hi : X.N[i]? = some x) (hx : Loc X.env.scope x) (he : PE X e te) (ho : PIp X op ti) (hf : X.fn x = true ∨ X.env.scope.names.lookup x = some .local := by first | exact .inl rfl | exact .inr rfl | assumption) :
    PS X (.AugAssign (.Name x pos') op e pos) (tAug i te ti) := by
  intro pins s σ H D I h
  obtain ⟨v, e1, h⟩ := h
  obtain ⟨m, hn, hl⟩ := I.loc
  have vis : Vis X.env.scope x := by rcases hx with k | k; exact .inl k; exact .inr (.inl k)
  obtain ⟨u, r, l⟩ := hl i x v hi e1 vis
  refine wpAny_AugAssign_Name ?_
  have go : wpAny (model X.prog X.w) X.A (eval e X.env) (fun w s₂ => wpAny (model X.prog X.w) X.A (inplaceOp op u w) (fun r s₃ => wpAny (model X.prog X.w) X.A (storeName X.env x r) (fun _ => SP X pins D .next) X.xe s₃) X.xe s₂) X.xe s := by
    refine thn (he pins s σ H _ I h) fun w s1 ⟨y, H1, I1, r1, q1⟩ => ?_
    refine thn (ho pins s1 σ H1 v y u w _ I1 r r1 q1) fun z s2 ⟨zv, H2, I2, r2, q2⟩ => ?_
    exact store_ok I2 hN hi hx r2 (fun s3 I3 => ⟨_, H2, I3, q2⟩) hf
  rcases l with ⟨hk, hm⟩ | ⟨hk, c, hc, hcell⟩
  · exact wpAny_loadName_local I.ok.kind hk hn hm go
  · rcases hk with hk | hk
    · exact wpAny_loadName_cell I.ok.kind hk hc hcell go
    · rcases hx with k | k
      · have : X.env.scope.names.lookup x = some .free := hk
        rw [k] at this; cases this
      · have : X.env.scope.names.lookup x = some .free := hk
        rw [k] at this; cases this
/-- o[i] op= e -/
def tAugS (to ti te : TE) (tget : V → V → Hp → VK → Prop) (tip : TIp) (tset : TSet) : TS := fun D σ H => to σ H fun o H1 => ti σ H1 fun i H2 => tget o i H2 fun x H3 => te σ H3 fun y H4 => tip x y H4 fun z H5 => tset o i z H5 fun H6 => D.nx σ H6
/-- o[i], by values -/
def PGet (X : Cx) (t : V → V → Hp → VK → Prop) : Prop :=
  ∀ (pins : List (Addr × Obj)) (s : Shared) (σ : St) (H : Hp) (o i : V) (ov iv : Value) (Q : VK), Inv X pins σ H s → RelV o ov → RelV i iv → t o i H Q →
    wpAny (model X.prog X.w) X.A (getItem ov iv) (EP X pins σ Q) X.xe s
theorem ps_augS {o i e : Expr} {to ti te : TE} {tget : V → V → Hp → VK → Prop} {tip : TIp} {tset : TSet} {op : Operator} {tpos : Pos} (ho : PE X o to) (hi : PE X i ti) (hg : PGet X tget) (he : PE X e te) (hp : PIp X op tip) (hs : PSet X tset)
    (ha : ∀ ov iv new, augStore i ov iv new = (do holding [new, ov, iv] (setItem ov iv new); release [new, ov, iv] []; pure .next) := by intros; rfl) : PS X (.AugAssign (.Subscript o i tpos) op e pos) (tAugS to ti te tget tip tset) := by
  intro pins s σ H D I h
  refine wpAny_AugAssign_SubscriptAny (thn (ho pins s σ H _ I h) fun ov s1 ⟨x1, H1, I1, r1, q1⟩ => ?_) ha
  refine thn (hi pins s1 σ H1 _ I1 q1) fun iv s2 ⟨x2, H2, I2, r2, q2⟩ => ?_
  refine thn (hg pins s2 σ H2 x1 x2 ov iv _ I2 r1 r2 q2) fun old s3 ⟨x3, H3, I3, r3, q3⟩ => ?_
  refine thn (he pins s3 σ H3 _ I3 q3) fun v s4 ⟨x4, H4, I4, r4, q4⟩ => ?_
  refine thn (hp pins s4 σ H4 x3 x4 old v _ I4 r3 r4 q4) fun new s5 ⟨x5, H5, I5, r5, q5⟩ => ?_
  exact thn (hs pins s5 σ H5 x1 x2 x5 ov iv new _ I5 r1 r2 r5 q5) fun _ s6 ⟨H6, I6, q6⟩ => ⟨σ, H6, I6, q6⟩
/-- ints -/
def ipI (f : Int → Int → Int) : TIp := fun x y H Q => ∃ i j, x = .int i ∧ y = .int j ∧ Q (.int (f i j)) H
theorem ip_add : PIp X .Add (ipI fun i j => i + j) := by
  intro pins s σ H x y v u Q I r1 r2 h
  obtain ⟨i, j, e1, e2, q⟩ := h
  subst e1; subst e2
  obtain ⟨t, rfl⟩ := r1
  obtain ⟨t', rfl⟩ := r2
  exact iadd_int ⟨.int _, H, I.tok _, ⟨_, rfl⟩, q⟩
theorem ip_sub : PIp X .Sub (ipI fun i j => i - j) := by
  intro pins s σ H x y v u Q I r1 r2 h
  obtain ⟨i, j, e1, e2, q⟩ := h
  subst e1; subst e2
  obtain ⟨t, rfl⟩ := r1
  obtain ⟨t', rfl⟩ := r2
  exact isub_int ⟨.int _, H, I.tok _, ⟨_, rfl⟩, q⟩
end

/-! ### while -/
section
variable {X : Cx} {pos : Pos}
/-- the invariant W with its measure -/
def tWhile (c : TT) (tb : TS) : TS := fun D σ H => ∃ W : Nat → St → Hp → Prop, (∃ m, W m σ H) ∧ ∀ m σ H, W m σ H →
  c σ H fun b H1 => if b = true then ∃ N : St → Hp → Prop, (∀ σ' H', N σ' H' → ∃ m', m' < m ∧ W m' σ' H') ∧ tb { D with nx := N, ct := N, bk := D.nx } σ H1 else D.nx σ H1
theorem ps_while {c : Expr} {body : List Stmt} {tc : TT} {tb : TS} (hp : PassesOwn (model X.prog X.w) X.A X.env X.xe) (hc : PT X c tc) (hb : PSs X body tb) : PS X (.While c body [] pos) (tWhile tc tb) := by
  intro pins s σ H D I h
  obtain ⟨W, ⟨m0, w0⟩, turn⟩ := h
  refine wpAny_While (codeAny_whileLoop (fun n s' => ∃ σ' H', Inv X pins σ' H' s' ∧ W n σ' H') ?_ m0 ⟨σ, H, I, w0⟩)
  rintro n s1 ⟨σ1, H1, I1, w1⟩
  refine wpAny_passesOwn hp (thn (hc pins s1 σ1 H1 _ I1 (turn n σ1 H1 w1)) fun b s2 ⟨H2, I2, q2⟩ => ?_)
  cases b with
  | true =>
    obtain ⟨N, hN, q2⟩ := q2
    rw [if_pos rfl]
    refine wpAny_passesOwn hp (thn (hb pins s2 σ1 H2 _ I2 q2) fun f s3 q3 => ?_)
    cases f with
    | next =>
      obtain ⟨σ3, H3, I3, n3⟩ := q3
      obtain ⟨m', hm, w3⟩ := hN σ3 H3 n3
      exact ⟨m', hm, σ3, H3, I3, w3⟩
    | cont =>
      obtain ⟨σ3, H3, I3, n3⟩ := q3
      obtain ⟨m', hm, w3⟩ := hN σ3 H3 n3
      exact ⟨m', hm, σ3, H3, I3, w3⟩
    | brk => exact q3
    | ret v => exact q3
  | false =>
    rw [if_neg Bool.false_ne_true]
    exact wpAny_execs_nil ⟨σ1, H2, I2, q2⟩
end

/-! ### what a loop or a comprehension walks -/
/-- at turn i: it yields x (the heap may grow), or it stops -/
structure It where
  go : Nat → Hp → Prop
  yld : Nat → Hp → V → Hp → Prop
  stop : Nat → Hp → Prop
/-- the iterator's own objects may turn: they are not the frame's, not pinned, younger than the entry (or a comprehension's own) -/
def FpOk (X : Cx) (pins : List (Addr × Obj)) (H : Hp) (b : Addr) : Prop :=
  H b = none ∧ b ≠ X.env.locals ∧ b ∉ X.fs ∧ (b ∈ X.ex ∨ X.s₀.heap.objs.size ≤ b) ∧ (∀ x c, X.env.cells.lookup x = some c → c ≠ b) ∧ ∀ p ∈ X.pn ++ pins, p.1 ≠ b
theorem Inv.fpOk {X : Cx} {pins : List (Addr × Obj)} {σ : St} {H H' : Hp} {s : Shared} {b : Addr} (I : Inv X pins σ H s) (hb : s.heap.objs.size ≤ b) (hn : H' b = none) : FpOk X pins H' b := by
  refine ⟨hn, Nat.ne_of_gt (Nat.lt_of_lt_of_le I.lt hb), I.nofs hb, .inr (Nat.le_trans I.sz hb), fun x c e z => ?_, fun p hp z => ?_⟩
  · obtain ⟨v, q⟩ := I.cell x c e
    exact absurd (Nat.lt_of_lt_of_le q.lt (by rw [z]; exact hb)) (Nat.lt_irrefl _)
  · exact absurd (Nat.lt_of_lt_of_le (Heap.lt_size (I.pin p hp).1) (by rw [z]; exact hb)) (Nat.lt_irrefl _)
structure Turn (P : Program) (w : World) (K : PySem.W.Frag) (tg : Expr) (J : It) (fp : List Addr) (it : Addr) (tn : Nat → Heap → Prop) : Prop where
  mem : it ∈ fp
  obj : ∀ i h, tn i h → ∀ b ∈ fp, ∃ o, h.get? b = some o ∧ ∀ v, o.data ≠ .cell v
  keep : ∀ i h h', tn i h → (∀ b ∈ fp, ∀ o, h.get? b = some o → h'.get? b = some o) → tn i h'
  item : ∀ (X : Cx), X.prog = P → X.w = w → X.K = K → X.calm = true → ∀ (i : Nat) (pins : List (Addr × Obj)) (s : Shared) (σ : St) (H : Hp) (E : Value → Shared → Prop), Inv X pins σ H s → (∀ b ∈ fp, FpOk X pins H b) → tn i s.heap → J.go i H →
    wpAny (model P w) X.A (pyNext (.ref it)) (fun r s1 => ∃ u, r = some u ∧
      wpAny (model P w) X.A (letOwnedTupleGo tg (.ref it) u) (fun _ s2 => ∃ x H', Inv X pins σ H' s2 ∧ RelV x u ∧ J.yld i H x H' ∧ tn (i + 1) s2.heap ∧ ∀ b ∈ fp, H' b = none) E s1) E s
  done : ∀ (X : Cx), X.prog = P → X.w = w → X.K = K → X.calm = true → ∀ (i : Nat) (pins : List (Addr × Obj)) (s : Shared) (σ : St) (H : Hp) (E : Value → Shared → Prop), Inv X pins σ H s → (∀ b ∈ fp, FpOk X pins H b) → tn i s.heap → J.stop i H →
    wpAny (model P w) X.A (pyNext (.ref it)) (fun r s1 => r = none ∧ Inv X pins σ H s1) E s
  self : ∀ (A : Around) (i : Nat) (s : Shared) (Q : Value → Shared → Prop) (E : Value → Shared → Prop), tn i s.heap → Q (.ref it) s → wpAny (model P w) A (pyIter (.ref it)) Q E s
abbrev TI := St → Hp → (It → Hp → Prop) → Prop
/-- an iterator has come -/
def PIE (X : Cx) (pins : List (Addr × Obj)) (σ : St) (tg : Expr) (R : It → Hp → Prop) (itv : Value) (s2 : Shared) : Prop :=
  ∃ (it : Addr) (fp : List Addr) (tn : Nat → Heap → Prop) (J : It) (H' : Hp), itv = .ref it ∧ Inv X pins σ H' s2 ∧ Turn X.prog X.w X.K tg J fp it tn ∧ tn 0 s2.heap ∧ (∀ b ∈ fp, FpOk X pins H' b) ∧ R J H'
def PI (X : Cx) (tg iter : Expr) (wi : TI) : Prop :=
  ∀ (pins : List (Addr × Obj)) (s : Shared) (σ : St) (H : Hp) (R : It → Hp → Prop), Inv X pins σ H s → wi σ H R →
    wpAny (model X.prog X.w) X.A (eval iter X.env) (fun v s1 => wpAny (model X.prog X.w) X.A (pyIter v) (PIE X pins σ tg R) X.xe s1) X.xe s

/-- the step ahead of the store is nothing for an iterator that keeps no tuple -/
theorem go_of {M : Model} {A : Around} {E : Value → Shared → Prop} {s : Shared} {tg : Expr} {it : Addr} {u : Value} {o : Obj} {n : String} {vs : Array Value} {Q : Unit → Shared → Prop} (ho : s.heap.get? it = some o) (hc : o.cls = .type n) (hd : o.data = .fields vs)
    (hn : ["enumerate", "zip", "dict_itemiterator", "dict_reverseitemiterator", "odict_iterator", "itertools.zip_longest", "itertools.pairwise"].contains n = false) (hQ : Q () s) : wpAny M A (letOwnedTupleGo tg (.ref it) u) Q E s := by
  unfold letOwnedTupleGo
  cases tg <;> first
    | exact wpAny_pure hQ
    | (cases u <;> first
        | exact wpAny_pure hQ
        | (refine wpAny_bind (wpAny_load ho ?_)
           rw [hc, hd]
           show wpAny M A (if (["enumerate", "zip", "dict_itemiterator", "dict_reverseitemiterator", "odict_iterator", "itertools.zip_longest", "itertools.pairwise"].contains n && vs[0]? == some (rawInt _)) = true then _ else _) Q E s
           rw [if_neg (by intro h; rw [hn, Bool.false_and] at h; cases h)]
           exact wpAny_pure hQ))

/-- the list at a, as it stands at each turn (a loop may append to it) -/
def Itl (K : PySem.W.Frag) (a : Addr) : It :=
  ⟨fun i H => ∃ xs x, SqL K H a xs ∧ xs[i]? = some x, fun i H x H' => H' = H ∧ ∀ xs, SqL K H a xs → xs[i]? = some x, fun i H => ∃ xs, SqL K H a xs ∧ xs.length ≤ i⟩
def Itt (K : PySem.W.Frag) (a : Addr) : It :=
  ⟨fun i H => ∃ xs x, SqT K H a xs ∧ xs[i]? = some x, fun i H x H' => H' = H ∧ ∀ xs, SqT K H a xs → xs[i]? = some x, fun i H => ∃ xs, SqT K H a xs ∧ xs.length ≤ i⟩
/-- lo, lo + 1, .. (n of them) -/
def Itr (lo : Int) (n : Nat) : It := ⟨fun i _ => i < n, fun i H x H' => H' = H ∧ x = .int (lo + i), fun i _ => n ≤ i⟩
theorem turn_list {P : Program} {w : World} {K : PySem.W.Frag} {tg : Expr} (a it : Addr) : Turn P w K tg (Itl K a) [it] it (fun i h => h.IsListIter it a i) where
  mem := by simp
  obj := fun i h st b hb => by
    have e : b = it := by simpa using hb
    subst e
    obtain ⟨o, e, c, d⟩ := st
    exact ⟨o, e, fun v z => by rw [d] at z; cases z⟩
  keep := fun i h h' st k => st.at fun o e => k it (by simp) o e
  item := by
    intro X hP hw hK hc i pins s σ H E I hf st hg
    subst hP hw hK
    obtain ⟨xs, x, hq, hx⟩ := hg
    obtain ⟨its, rv, p, hz⟩ := I.list hq
    obtain ⟨u, hu, ru⟩ := rv.get hx
    obtain ⟨f0, f1, f2, f3, f4, f5⟩ := hf it (by simp)
    refine wpAny_pyNext_list_item st p.isList (x := u) (by simpa using hu) fun h' st' sb => ?_
    have I1 : Inv X pins σ H { s with heap := h' } := I.turned (t' := s.toks) (fun b o hb e => (sb.2 b hb).trans e) f0 f1 f3 f4 f5
    obtain ⟨o, e, c, d⟩ := id st'
    exact ⟨u, rfl, go_of (s := { s with heap := h' }) e c d (by decide) ⟨x, H, I1, ru, ⟨rfl, fun ys hy => by rw [I.list_inj hy hq]; exact hx⟩, st', fun b hb => (hf b hb).1⟩⟩
  done := by
    intro X hP hw hK hc i pins s σ H E I hf st hg
    subst hP hw hK
    obtain ⟨xs, hq, hx⟩ := hg
    obtain ⟨its, rv, p, hz⟩ := I.list hq
    obtain ⟨f0, f1, f2, f3, f4, f5⟩ := hf it (by simp)
    have hl := rv.length
    exact wpAny_pyNext_list_end (I.ok.hd hc) st p.isList (by simp; omega) fun h' eb => ⟨rfl, I.turned (t' := s.toks) (fun b o hb e => eb b o hb e) f0 f1 f3 f4 f5⟩
  self := fun _ _ _ _ _ st h => wpAny_pyIter_listiter st h
theorem turn_tuple {P : Program} {w : World} {K : PySem.W.Frag} {tg : Expr} (a it : Addr) : Turn P w K tg (Itt K a) [it] it (fun i h => h.IsTupleIter it a i) where
  mem := by simp
  obj := fun i h st b hb => by
    have e : b = it := by simpa using hb
    subst e
    obtain ⟨o, e, c, d⟩ := st
    exact ⟨o, e, fun v z => by rw [d] at z; cases z⟩
  keep := fun i h h' st k => st.at fun o e => k it (by simp) o e
  item := by
    intro X hP hw hK hc i pins s σ H E I hf st hg
    subst hP hw hK
    obtain ⟨xs, x, hq, hx⟩ := hg
    obtain ⟨its, rv, p, hz⟩ := I.tuple hq
    obtain ⟨u, hu, ru⟩ := rv.get hx
    obtain ⟨f0, f1, f2, f3, f4, f5⟩ := hf it (by simp)
    refine wpAny_pyNext_tuple_item st (show s.heap.IsTuple a its.toArray from p) (x := u) (by simpa using hu) fun h' st' sb => ?_
    have I1 : Inv X pins σ H { s with heap := h' } := I.turned (t' := s.toks) (fun b o hb e => (sb.2 b hb).trans e) f0 f1 f3 f4 f5
    obtain ⟨o, e, c, d⟩ := id st'
    exact ⟨u, rfl, go_of (s := { s with heap := h' }) e c d (by decide) ⟨x, H, I1, ru, ⟨rfl, fun ys hy => by rw [I.tuple_inj hy hq]; exact hx⟩, st', fun b hb => (hf b hb).1⟩⟩
  done := by
    intro X hP hw hK hc i pins s σ H E I hf st hg
    subst hP hw hK
    obtain ⟨xs, hq, hx⟩ := hg
    obtain ⟨its, rv, p, hz⟩ := I.tuple hq
    obtain ⟨f0, f1, f2, f3, f4, f5⟩ := hf it (by simp)
    have hl := rv.length
    exact wpAny_pyNext_tuple_end (I.ok.hd hc) st (show s.heap.IsTuple a its.toArray from p) (by simp; omega) fun h' eb => ⟨rfl, I.turned (t' := s.toks) (fun b o hb e => eb b o hb e) f0 f1 f3 f4 f5⟩
  self := fun _ _ _ _ _ st h => wpAny_pyIter_tupleiter st h
theorem turn_range {P : Program} {w : World} {K : PySem.W.Frag} {tg : Expr} (it : Addr) (lo : Int) (n : Nat) : Turn P w K tg (Itr lo n) [it] it (fun i h => IsRangeIter h it (lo + (i : Nat) * 1) ((n : Int) - (i : Nat)) 1) where
  mem := by simp
  obj := fun i h st b hb => by
    have e : b = it := by simpa using hb
    subst e
    exact ⟨_, st, fun v z => by
      have z' : Data.fields _ = Data.cell v := z
      cases z'⟩
  keep := fun i h h' st k => k it (by simp) _ st
  item := by
    intro X hP hw hK hc i pins s σ H E I hf st hg
    subst hP hw hK
    obtain ⟨f0, f1, f2, f3, f4, f5⟩ := hf it (by simp)
    have W := Walks.range (prog := X.prog) (w := X.w) (I.ok.hd hc) it lo 1 n
    refine W.item i s _ _ hg st fun v h' tk hv st' kk => ?_
    obtain ⟨t, rfl⟩ := hv
    have I1 : Inv X pins σ H { s with heap := h', toks := tk } := I.turned (fun b o hb e => kk b o (by simpa using hb) e) f0 f1 f3 f4 f5
    refine ⟨_, rfl, go_of (s := { s with heap := h', toks := tk }) (n := "range_iterator") st' rfl rfl (by decide) ⟨.int (lo + i), H, I1, ⟨t, ?_⟩, ⟨rfl, rfl⟩, st', fun b hb => (hf b hb).1⟩⟩
    rw [Int.mul_one]
  done := by
    intro X hP hw hK hc i pins s σ H E I hf st hg
    subst hP hw hK
    obtain ⟨f0, f1, f2, f3, f4, f5⟩ := hf it (by simp)
    exact wpAny_pyNext_range_end (I.ok.hd hc) st (by have : n ≤ i := hg; omega) fun h' eb => ⟨rfl, I.turned (t' := s.toks) (fun b o hb e => eb b o hb e) f0 f1 f3 f4 f5⟩
  self := fun _ _ _ _ _ st h => wpAny_pyIter_rangeiter st h
end L2

namespace L2
open PySem PySem.Spec PyProof.Rows
section
variable {X : Cx} {tg : Expr}
def iList (K : PySem.W.Frag) (tl : TE) : TI := fun σ H R => tl σ H fun x H1 => ∃ a, x = .ref a ∧ (∃ xs, SqL K H1 a xs) ∧ R (Itl K a) H1
def iTup (K : PySem.W.Frag) (tl : TE) : TI := fun σ H R => tl σ H fun x H1 => ∃ a, x = .ref a ∧ (∃ xs, SqT K H1 a xs) ∧ R (Itt K a) H1
theorem pi_list {l : Expr} {tl : TE} (hl : PE X l tl) : PI X tg l (iList X.K tl) := by
  intro pins s σ H R I h
  refine thn (hl pins s σ H _ I h) fun v s1 ⟨x, H1, I1, r1, q1⟩ => ?_
  obtain ⟨a, e, ⟨xs, hq⟩, q⟩ := q1
  subst e
  cases r1
  obtain ⟨its, rv, p, hz⟩ := I1.list hq
  refine wpAny_pyIter_list p.isList ?_
  refine ⟨s1.heap.objs.size, [s1.heap.objs.size], _, _, H1, rfl, I1.kept (t' := s1.toks) fun b o e => Heap.get?_push_of_some _ e, turn_list a _, ⟨_, Heap.get?_push_size _ rfl, rfl, rfl⟩, fun b hb => ?_, q⟩
  have e : b = s1.heap.objs.size := by simpa using hb
  subst e
  exact I1.fpOk (Nat.le_refl _) (I1.hok.fresh (Nat.le_refl _))
theorem pi_tup {l : Expr} {tl : TE} (hl : PE X l tl) : PI X tg l (iTup X.K tl) := by
  intro pins s σ H R I h
  refine thn (hl pins s σ H _ I h) fun v s1 ⟨x, H1, I1, r1, q1⟩ => ?_
  obtain ⟨a, e, ⟨xs, hq⟩, q⟩ := q1
  subst e
  cases r1
  obtain ⟨its, rv, p, hz⟩ := I1.tuple hq
  refine wpAny_pyIter_tuple (show s1.heap.IsTuple a its.toArray from p) ?_
  refine ⟨s1.heap.objs.size, [s1.heap.objs.size], _, _, H1, rfl, I1.kept (t' := s1.toks) fun b o e => Heap.get?_push_of_some _ e, turn_tuple a _, ⟨_, Heap.get?_push_size _ rfl, rfl, rfl⟩, fun b hb => ?_, q⟩
  have e : b = s1.heap.objs.size := by simpa using hb
  subst e
  exact I1.fpOk (Nat.le_refl _) (I1.hok.fresh (Nat.le_refl _))
/-- a range object just made, walked -/
theorem range_it {pins : List (Addr × Obj)} {σ : St} {H : Hp} {s : Shared} {R : It → Hp → Prop} {E : Value → Shared → Prop} {lo hi : Int} {t u v : Tok} {tk : Nat} (I : Inv X pins σ H s) (h1 : -(2 ^ 62) ≤ lo) (h2 : lo < 2 ^ 62) (h3 : -(2 ^ 62) ≤ hi) (h4 : hi < 2 ^ 62)
    (q : R (Itr lo (hi - lo).toNat) H) : wpAny (model X.prog X.w) X.A (pyIter (.ref s.heap.objs.size)) (PIE X pins σ tg R) E { s with heap := s.heap.push { cls := .type "range", data := .fields #[.int lo t, .int hi u, .int 1 v] }, toks := tk } := by
  refine wpAny_pyIter_range (IsRange.new ..) (small_one h1 h2 h3 h4) ?_
  have I1 : Inv X pins σ H { s with heap := s.heap.push { cls := .type "range", data := .fields #[.int lo t, .int hi u, .int 1 v] }, toks := tk } := I.kept fun b o e => Heap.get?_push_of_some _ e
  refine ⟨(s.heap.push { cls := .type "range", data := .fields #[.int lo t, .int hi u, .int 1 v] }).objs.size, [(s.heap.push { cls := .type "range", data := .fields #[.int lo t, .int hi u, .int 1 v] }).objs.size], _, _, H, rfl,
    I1.kept (t' := tk) fun b o e => Heap.get?_push_of_some _ e, turn_range _ lo (hi - lo).toNat, ?_, fun b hb => ?_, q⟩
  · have e1 : lo + ((0 : Nat) : Int) * 1 = lo := by simp
    have e2 : (((hi - lo).toNat : Nat) : Int) - ((0 : Nat) : Int) = Builtin.Range.rangeSize lo hi 1 := by rw [rangeSize_one]; split <;> omega
    show IsRangeIter _ _ (lo + ((0 : Nat) : Int) * 1) ((((hi - lo).toNat : Nat) : Int) - ((0 : Nat) : Int)) 1
    rw [e1, e2]
    exact Heap.get?_push_size _ rfl
  · have e : b = (s.heap.push { cls := .type "range", data := .fields #[.int lo t, .int hi u, .int 1 v] }).objs.size := by simpa using hb
    subst e
    exact I1.fpOk (Nat.le_refl _) (I1.hok.fresh (Nat.le_refl _))
def iRng1 (ta : TA) : TI := fun σ H R => ta σ H fun vs H1 => ∃ j : Int, vs = [.int j] ∧ -(2 ^ 62) ≤ j ∧ j < 2 ^ 62 ∧ R (Itr 0 j.toNat) H1
def iRng2 (ta : TA) : TI := fun σ H R => ta σ H fun vs H1 => ∃ i j : Int, vs = [.int i, .int j] ∧ (-(2 ^ 62) ≤ i ∧ i < 2 ^ 62 ∧ -(2 ^ 62) ≤ j ∧ j < 2 ^ 62) ∧ R (Itr i (j - i).toNat) H1
theorem pi_range1 {a : Expr} {ta : TA} {p pos : Pos} (hg : Gl X "range") (hm : X.mg "range" = none) (ha : PA X [a] ta) (hs : starEach [a] X.env = [(false, eval a X.env)] := by rfl) : PI X tg (.Call (.Name "range" p) [a] [] pos) (iRng1 ta) := by
  intro pins s σ H R I h
  refine Call_ (ld_blt I hg hm boot_range (PyProof.Rows.callWith_type1 (thn (ha pos pins s σ H _ I h) fun us s1 ⟨vs, H1, I1, r1, q1⟩ => ?_) hs rfl))
  obtain ⟨j, e, q1, q2, q⟩ := q1
  subst e
  cases r1 with
  | cons r rr =>
    cases rr
    obtain ⟨t, rfl⟩ := r
    exact call_range_1 (range_it I1 (by omega) (by omega) q1 q2 (by simpa using q))
theorem pi_range2 {a b : Expr} {ta : TA} {p pos : Pos} (hg : Gl X "range") (hm : X.mg "range" = none) (ha : PA X [a, b] ta) (hs : starEach [a, b] X.env = [(false, eval a X.env), (false, eval b X.env)] := by rfl) (hs2 : starEach [b] X.env = [(false, eval b X.env)] := by rfl) :
    PI X tg (.Call (.Name "range" p) [a, b] [] pos) (iRng2 ta) := by
  intro pins s σ H R I h
  refine Call_ (ld_blt I hg hm boot_range (PyProof.Rows.callWith_type1 (thn (ha pos pins s σ H _ I h) fun us s1 ⟨vs, H1, I1, r1, q1⟩ => ?_) (by rw [hs, hs2]) (by rw [hs2]; rfl)))
  obtain ⟨i, j, e, ⟨q1, q2, q3, q4⟩, q⟩ := q1
  subst e
  cases r1 with
  | cons r rr =>
    cases rr with
    | cons r' rr =>
      cases rr
      obtain ⟨t, rfl⟩ := r
      obtain ⟨t', rfl⟩ := r'
      exact call_range_2 (range_it I1 q1 q2 q3 q4 q)

/-! ### for -/
/-- W: the invariant by the turn and a measure; N: what the body is to reach -/
def tFor (wi : TI) (g : TG) (tb : TS) : TS := fun D σ H => wi σ H fun J H1 => ∃ W : Nat → Nat → St → Hp → Prop, (∃ m, W 0 m σ H1) ∧ ∀ i m σ H, W i m σ H →
  (J.stop i H ∧ D.nx σ H) ∨ (J.go i H ∧ ∃ N : St → Hp → Prop, (∀ σ' H', N σ' H' → ∃ m', m' < m ∧ W (i + 1) m' σ' H') ∧ ∀ x H', J.yld i H x H' → g x σ H' fun σ2 H2 => tb { D with nx := N, ct := N, bk := D.nx } σ2 H2)
/-- the records at fp as they stand -/
def pinsAt (fp : List Addr) (h : Heap) : List (Addr × Obj) := fp.filterMap fun b => (h.get? b).map fun o => (b, o)
theorem mem_pinsAt {fp : List Addr} {h : Heap} {b : Addr} {o : Obj} (hb : b ∈ fp) (e : h.get? b = some o) : (b, o) ∈ pinsAt fp h := List.mem_filterMap.mpr ⟨b, hb, by rw [e]; rfl⟩
theorem of_pinsAt {fp : List Addr} {h : Heap} {p : Addr × Obj} (hp : p ∈ pinsAt fp h) : p.1 ∈ fp ∧ h.get? p.1 = some p.2 := by
  obtain ⟨b, hb, e⟩ := List.mem_filterMap.mp hp
  cases q : h.get? b with
  | none => rw [q] at e; cases e
  | some o =>
    rw [q] at e
    have e' : (b, o) = p := Option.some.inj e
    subst e'
    exact ⟨hb, q⟩
theorem Inv.pinned {pins : List (Addr × Obj)} {σ : St} {H : Hp} {s : Shared} {fp : List Addr} (I : Inv X pins σ H s) (hf : ∀ b ∈ fp, FpOk X pins H b) (ho : ∀ b ∈ fp, ∃ o, s.heap.get? b = some o ∧ ∀ v, o.data ≠ .cell v) : Inv X (pins ++ pinsAt fp s.heap) σ H s :=
  I.pins_of fun p hp => (List.mem_append.mp hp).elim (fun z => I.pin p (List.mem_append_right _ z)) fun z => by
    obtain ⟨hb, e⟩ := of_pinsAt z
    obtain ⟨f0, f1, f2, _⟩ := hf p.1 hb
    obtain ⟨o, e', d⟩ := ho p.1 hb
    rw [e] at e'; cases e'
    exact ⟨e, f0, f1, f2, d⟩
theorem Inv.unpinned {pins pl : List (Addr × Obj)} {σ : St} {H : Hp} {s : Shared} (I : Inv X (pins ++ pl) σ H s) : Inv X pins σ H s := I.pins_of fun p hp => I.pin p (List.mem_append_right _ (List.mem_append_left _ hp))
theorem ps_for {iter : Expr} {body : List Stmt} {wi : TI} {g : TG} {tb : TS} {pos : Pos} (hp : PassesOwn (model X.prog X.w) X.A X.env X.xe) (hc : X.calm = true) (hi : PI X tg iter wi) (hg : PG X tg g) (hb : PSs X body tb)
    (hs : ∀ x, foldedSetIterable iter X.env x = pure x := by intro _; rfl) : PS X (.For tg iter body [] pos) (tFor wi g tb) := by
  intro pins s σ H D I h
  refine wpAny_For (thn (hi pins s σ H _ I h) fun v s1 h1 => thn h1 fun itv s2 h2 => ?_) hs
  obtain ⟨it, fp, tn, J, H2, e, I2, T, st2, f2, W, ⟨m0, w0⟩, turn⟩ := h2
  subst e
  -- what stays true of the iterator's objects through the loop
  have stat : ∀ {H' : Hp}, (∀ b ∈ fp, H' b = none) → ∀ b ∈ fp, FpOk X pins H' b := fun hn b hb => ⟨hn b hb, (f2 b hb).2⟩
  refine codeAny_forLoop_any (fun n s' => ∃ i σ' H', Inv X pins σ' H' s' ∧ tn i s'.heap ∧ (∀ b ∈ fp, H' b = none) ∧ W i n σ' H') ?_ m0 ⟨0, σ, H2, I2, st2, fun b hb => (f2 b hb).1, w0⟩
  rintro n s3 ⟨i, σ3, H3, I3, st3, fr3, w3⟩
  rcases turn i n σ3 H3 w3 with ⟨stop, qn⟩ | ⟨go, N, hN, step⟩
  · refine wpAny_passesOwn hp (thn (T.done X rfl rfl rfl hc i pins s3 σ3 H3 X.xe I3 (stat fr3) st3 stop) fun r s4 ⟨hr, I4⟩ => ?_)
    subst hr
    exact wpAny_execs_nil ⟨σ3, H3, I4, qn⟩
  · refine wpAny_passesOwn hp (thn (T.item X rfl rfl rfl hc i pins s3 σ3 H3 X.xe I3 (stat fr3) st3 go) fun r s4 ⟨u, hr, h4⟩ => ?_)
    subst hr
    refine wpAny_passesOwn hp (thn h4 fun _ s5 ⟨x, H5, I5, r5, y5, st5, fr5⟩ => ?_)
    have I5' := I5.pinned (stat fr5) (T.obj _ _ st5)
    refine wpAny_passesOwn hp (thn (hg _ s5 σ3 H5 x u _ I5' r5 (step x H5 y5)) fun _ s6 ⟨σ6, H6, I6, q6⟩ => ?_)
    refine wpAny_passesOwn hp (thn (hb _ s6 σ6 H6 _ I6 q6) fun f s7 q7 => ?_)
    have again : ∀ {σ7 : St} {H7 : Hp}, Inv X (pins ++ pinsAt fp s5.heap) σ7 H7 s7 → N σ7 H7 → ∃ m, m < n ∧ ∃ i σ' H', Inv X pins σ' H' s7 ∧ tn i s7.heap ∧ (∀ b ∈ fp, H' b = none) ∧ W i m σ' H' := fun {σ7 H7} I7 n7 => by
      obtain ⟨m', hm, w7⟩ := hN σ7 H7 n7
      refine ⟨m', hm, i + 1, σ7, H7, I7.unpinned, T.keep _ _ _ st5 fun b hb o e => (I7.pin (b, o) (List.mem_append_right _ (List.mem_append_right _ (mem_pinsAt hb e)))).1, fun b hb => ?_, w7⟩
      obtain ⟨o, e, d⟩ := T.obj _ _ st5 b hb
      exact (I7.pin (b, o) (List.mem_append_right _ (List.mem_append_right _ (mem_pinsAt hb e)))).2.1
    cases f with
    | next => obtain ⟨σ7, H7, I7, n7⟩ := q7; exact again I7 n7
    | cont => obtain ⟨σ7, H7, I7, n7⟩ := q7; exact again I7 n7
    | brk => obtain ⟨σ7, H7, I7, q7⟩ := q7; exact ⟨σ7, H7, I7.unpinned, q7⟩
    | ret v => obtain ⟨x7, σ7, H7, I7, r7, q7⟩ := q7; exact ⟨x7, σ7, H7, I7.unpinned, r7, q7⟩
end

/-! ### the forms one uses -/
/-- over a list that the body leaves as it is -/
theorem for_list {K : PySem.W.Frag} {a : Addr} {xs : List V} {g : TG} {tb : TS} {D : Ends} {σ : St} {H : Hp} (Pv : Nat → St → Hp → Prop) (h0 : Pv 0 σ H) (hl : ∀ i σ H, i ≤ xs.length → Pv i σ H → SqL K H a xs)
    (hs : ∀ i x σ H, xs[i]? = some x → Pv i σ H → g x σ H fun σ2 H2 => tb { D with nx := Pv (i + 1), ct := Pv (i + 1), bk := D.nx } σ2 H2) (hd : ∀ σ H, Pv xs.length σ H → D.nx σ H) :
    ∃ W : Nat → Nat → St → Hp → Prop, (∃ m, W 0 m σ H) ∧ ∀ i m σ H, W i m σ H →
      ((Itl K a).stop i H ∧ D.nx σ H) ∨ ((Itl K a).go i H ∧ ∃ N : St → Hp → Prop, (∀ σ' H', N σ' H' → ∃ m', m' < m ∧ W (i + 1) m' σ' H') ∧ ∀ x H', (Itl K a).yld i H x H' → g x σ H' fun σ2 H2 => tb { D with nx := N, ct := N, bk := D.nx } σ2 H2) := by
  refine ⟨fun i m σ H => m = xs.length - i ∧ i ≤ xs.length ∧ Pv i σ H, ⟨xs.length, by simp, Nat.zero_le _, h0⟩, ?_⟩
  rintro i m σ H ⟨rfl, hi, p⟩
  have q := hl i σ H hi p
  by_cases hlt : i < xs.length
  · refine .inr ⟨⟨xs, xs[i], q, by simp [hlt]⟩, Pv (i + 1), fun σ' H' p' => ⟨xs.length - (i + 1), by omega, rfl, hlt, p'⟩, fun x H' y => ?_⟩
    obtain ⟨e, y⟩ := y
    subst e
    exact hs i x σ _ (y xs q) p
  · have e : i = xs.length := by omega
    subst e
    exact .inl ⟨⟨xs, q, Nat.le_refl _⟩, hd σ H p⟩
theorem for_tup {K : PySem.W.Frag} {a : Addr} {xs : List V} {g : TG} {tb : TS} {D : Ends} {σ : St} {H : Hp} (Pv : Nat → St → Hp → Prop) (h0 : Pv 0 σ H) (hl : ∀ i σ H, i ≤ xs.length → Pv i σ H → SqT K H a xs)
    (hs : ∀ i x σ H, xs[i]? = some x → Pv i σ H → g x σ H fun σ2 H2 => tb { D with nx := Pv (i + 1), ct := Pv (i + 1), bk := D.nx } σ2 H2) (hd : ∀ σ H, Pv xs.length σ H → D.nx σ H) :
    ∃ W : Nat → Nat → St → Hp → Prop, (∃ m, W 0 m σ H) ∧ ∀ i m σ H, W i m σ H →
      ((Itt K a).stop i H ∧ D.nx σ H) ∨ ((Itt K a).go i H ∧ ∃ N : St → Hp → Prop, (∀ σ' H', N σ' H' → ∃ m', m' < m ∧ W (i + 1) m' σ' H') ∧ ∀ x H', (Itt K a).yld i H x H' → g x σ H' fun σ2 H2 => tb { D with nx := N, ct := N, bk := D.nx } σ2 H2) := by
  refine ⟨fun i m σ H => m = xs.length - i ∧ i ≤ xs.length ∧ Pv i σ H, ⟨xs.length, by simp, Nat.zero_le _, h0⟩, ?_⟩
  rintro i m σ H ⟨rfl, hi, p⟩
  have q := hl i σ H hi p
  by_cases hlt : i < xs.length
  · refine .inr ⟨⟨xs, xs[i], q, by simp [hlt]⟩, Pv (i + 1), fun σ' H' p' => ⟨xs.length - (i + 1), by omega, rfl, hlt, p'⟩, fun x H' y => ?_⟩
    obtain ⟨e, y⟩ := y
    subst e
    exact hs i x σ _ (y xs q) p
  · have e : i = xs.length := by omega
    subst e
    exact .inl ⟨⟨xs, q, Nat.le_refl _⟩, hd σ H p⟩
theorem for_range {lo : Int} {n : Nat} {g : TG} {tb : TS} {D : Ends} {σ : St} {H : Hp} (Pv : Nat → St → Hp → Prop) (h0 : Pv 0 σ H)
    (hs : ∀ i σ H, i < n → Pv i σ H → g (.int (lo + i)) σ H fun σ2 H2 => tb { D with nx := Pv (i + 1), ct := Pv (i + 1), bk := D.nx } σ2 H2) (hd : ∀ σ H, Pv n σ H → D.nx σ H) :
    ∃ W : Nat → Nat → St → Hp → Prop, (∃ m, W 0 m σ H) ∧ ∀ i m σ H, W i m σ H →
      ((Itr lo n).stop i H ∧ D.nx σ H) ∨ ((Itr lo n).go i H ∧ ∃ N : St → Hp → Prop, (∀ σ' H', N σ' H' → ∃ m', m' < m ∧ W (i + 1) m' σ' H') ∧ ∀ x H', (Itr lo n).yld i H x H' → g x σ H' fun σ2 H2 => tb { D with nx := N, ct := N, bk := D.nx } σ2 H2) := by
  refine ⟨fun i m σ H => m = n - i ∧ i ≤ n ∧ Pv i σ H, ⟨n, by simp, Nat.zero_le _, h0⟩, ?_⟩
  rintro i m σ H ⟨rfl, hi, p⟩
  by_cases hlt : i < n
  · refine .inr ⟨hlt, Pv (i + 1), fun σ' H' p' => ⟨n - (i + 1), by omega, rfl, hlt, p'⟩, fun x H' y => ?_⟩
    obtain ⟨e, y⟩ := y
    subst e y
    exact hs i σ _ hlt p
  · have e : i = n := by omega
    subst e
    exact .inl ⟨Nat.le_refl _, hd σ H p⟩
/-- while, by a word and a measure of the state -/
theorem while_by {c : TT} {tb : TS} {D : Ends} {σ : St} {H : Hp} (Pv : St → Hp → Prop) (μ : St → Hp → Nat) (h0 : Pv σ H)
    (hs : ∀ σ H, Pv σ H → c σ H fun b H1 => if b = true then tb { D with nx := fun σ' H' => Pv σ' H' ∧ μ σ' H' < μ σ H, ct := fun σ' H' => Pv σ' H' ∧ μ σ' H' < μ σ H, bk := D.nx } σ H1 else D.nx σ H1)
    (mono : ∀ σ H Q Q', (∀ b H1, Q b H1 → Q' b H1) → c σ H Q → c σ H Q') : tWhile c tb D σ H := by
  refine ⟨fun m σ H => m = μ σ H ∧ Pv σ H, ⟨_, rfl, h0⟩, ?_⟩
  rintro m σ H ⟨rfl, p⟩
  refine mono σ H _ _ (fun b H1 q => ?_) (hs σ H p)
  cases b with
  | true => exact ⟨_, fun σ' H' ⟨p', l⟩ => ⟨_, l, rfl, p'⟩, q⟩
  | false => exact q
end L2

namespace L2
open PySem PySem.Spec PyProof.Rows

abbrev R2 := V → V → Hp → VK → Prop
/-- a two-place operation on values: f is binaryOp op, inplaceOp op or compareOp op -/
def OpR (X : Cx) (f : Value → Value → Sem Value) (r : R2) : Prop :=
  ∀ (pins : List (Addr × Obj)) (s : Shared) (σ : St) (H : Hp) (x y : V) (v u : Value) (Q : VK), Inv X pins σ H s → RelV x v → RelV y u → r x y H Q →
    wpAny (model X.prog X.w) X.A (f v u) (EP X pins σ Q) X.xe s
/-- a one-place operation -/
def UnR (X : Cx) (f : Value → Sem Value) (r : V → Hp → VK → Prop) : Prop :=
  ∀ (pins : List (Addr × Obj)) (s : Shared) (σ : St) (H : Hp) (x : V) (v : Value) (Q : VK), Inv X pins σ H s → RelV x v → r x H Q →
    wpAny (model X.prog X.w) X.A (f v) (EP X pins σ Q) X.xe s
/-- a call of a value that is known (a builtin, a type) with values -/
def CallR (X : Cx) (f : Value) (r : List V → Hp → VK → Prop) : Prop :=
  ∀ (pins : List (Addr × Obj)) (s : Shared) (σ : St) (H : Hp) (xs : List V) (us : List Value) (Q : VK), Inv X pins σ H s → Vals xs us → r xs H Q →
    wpAny (model X.prog X.w) X.A (call f us) (EP X pins σ Q) X.xe s
/-- a value's truth -/
def TruR (X : Cx) (r : V → Hp → (Bool → Hp → Prop) → Prop) : Prop :=
  ∀ (pins : List (Addr × Obj)) (s : Shared) (σ : St) (H : Hp) (x : V) (v : Value) (Q : Bool → Hp → Prop), Inv X pins σ H s → RelV x v → r x H Q →
    wpAny (model X.prog X.w) X.A (truthy v) (TP X pins σ Q) X.xe s

def tOp (r : R2) (ta tb : TE) : TE := fun σ H Q => ta σ H fun x H1 => tb σ H1 fun y H2 => r x y H2 Q
def tUn (r : V → Hp → VK → Prop) (ta : TE) : TE := fun σ H Q => ta σ H fun x H1 => r x H1 Q
/-- ints in, under C, and a value out -/
def rI (C : Int → Int → Prop) (g : Int → Int → V) : R2 := fun x y H Q => ∃ i j, x = .int i ∧ y = .int j ∧ C i j ∧ Q (g i j) H
def rI0 (g : Int → Int → V) : R2 := fun x y H Q => ∃ i j, x = .int i ∧ y = .int j ∧ Q (g i j) H
def rU (g : Int → V) : V → Hp → VK → Prop := fun x H Q => ∃ i, x = .int i ∧ Q (g i) H

section
variable {X : Cx} {a b c : Expr} {ta tb tc : TE} {pos : Pos}

theorem binT (ha : PE X a ta) (hb : PE X b tb) {pins : List (Addr × Obj)} {s : Shared} {σ : St} {H : Hp} {R : V → V → Hp → Prop} (I : Inv X pins σ H s)
    (h : ta σ H fun x H1 => tb σ H1 fun y H2 => R x y H2) {Q : Value → Shared → Prop} {f : Value → Value → Sem Value}
    (hf : ∀ v u s2 x y H2, Inv X pins σ H2 s2 → RelV x v → RelV y u → R x y H2 → wpAny (model X.prog X.w) X.A (f v u) Q X.xe s2) :
    wpAny (model X.prog X.w) X.A (eval a X.env) (fun v s₁ => wpAny (model X.prog X.w) X.A (eval b X.env) (fun u s₂ => wpAny (model X.prog X.w) X.A (f v u) Q X.xe s₂) X.xe s₁) X.xe s := by
  refine thn (ha pins s σ H _ I h) fun v s1 ⟨x, H1, I1, r1, q1⟩ => ?_
  refine thn (hb pins s1 σ H1 _ I1 q1) fun u s2 ⟨y, H2, I2, r2, q2⟩ => ?_
  exact hf v u s2 x y H2 I2 r1 r2 q2

theorem pe_op {op : Operator} {r : R2} (ho : OpR X (binaryOp op) r) (ha : PE X a ta) (hb : PE X b tb) : PE X (.BinOp a op b pos) (tOp r ta tb) := by
  intro pins s σ H Q I h
  exact wpAny_BinOp (binT ha hb I h fun v u s2 x y H2 I2 rx ry q => ho pins s2 σ H2 x y v u Q I2 rx ry q)
theorem pe_un {op : UnaryOp} {r : V → Hp → VK → Prop} (ho : UnR X (unaryOp op) r) (ha : PE X a ta) : PE X (.UnaryOp op a pos) (tUn r ta) := by
  intro pins s σ H Q I h
  exact UnaryOp_ (thn (ha pins s σ H _ I h) fun v s1 ⟨x, H1, I1, r1, q1⟩ => ho pins s1 σ H1 x v Q I1 r1 q1)
/-- a op= e at a name: the name's slot i -/
theorem augR {op : Operator} {r : R2} (ho : OpR X (inplaceOp op) r) {pins : List (Addr × Obj)} {s : Shared} {σ : St} {H : Hp} {x y : V} {v u : Value} {Q : VK} (I : Inv X pins σ H s)
    (rx : RelV x v) (ry : RelV y u) (q : r x y H Q) : wpAny (model X.prog X.w) X.A (inplaceOp op v u) (EP X pins σ Q) X.xe s := ho pins s σ H x y v u Q I rx ry q

/-! ### ints -/
theorem opI {f : Value → Value → Sem Value} {C : Int → Int → Prop} {g : Int → Int → Int}
    (rule : ∀ (i j : Int) (t u : Tok) (s : Shared) (Q : Value → Shared → Prop) (E : Value → Shared → Prop), C i j → Q (.int (g i j) s.toks) { s with toks := s.toks + 1 } → wpAny (model X.prog X.w) X.A (f (.int i t) (.int j u)) Q E s) :
    OpR X f (rI C fun i j => .int (g i j)) := by
  intro pins s σ H x y v u Q I rx ry h
  obtain ⟨i, j, rfl, rfl, hc, q⟩ := h
  obtain ⟨t, rfl⟩ := rx
  obtain ⟨t', rfl⟩ := ry
  exact rule i j t t' s _ _ hc ⟨.int (g i j), H, I.tok _, ⟨_, rfl⟩, q⟩
theorem opI0 {f : Value → Value → Sem Value} {g : Int → Int → Int}
    (rule : ∀ (i j : Int) (t u : Tok) (s : Shared) (Q : Value → Shared → Prop) (E : Value → Shared → Prop), Q (.int (g i j) s.toks) { s with toks := s.toks + 1 } → wpAny (model X.prog X.w) X.A (f (.int i t) (.int j u)) Q E s) :
    OpR X f (rI0 fun i j => .int (g i j)) := by
  intro pins s σ H x y v u Q I rx ry h
  obtain ⟨i, j, rfl, rfl, q⟩ := h
  obtain ⟨t, rfl⟩ := rx
  obtain ⟨t', rfl⟩ := ry
  exact rule i j t t' s _ _ ⟨.int (g i j), H, I.tok _, ⟨_, rfl⟩, q⟩
theorem opB0 {f : Value → Value → Sem Value} {g : Int → Int → Bool}
    (rule : ∀ (i j : Int) (t u : Tok) (s : Shared) (Q : Value → Shared → Prop) (E : Value → Shared → Prop), Q (.bool (g i j)) s → wpAny (model X.prog X.w) X.A (f (.int i t) (.int j u)) Q E s) :
    OpR X f (rI0 fun i j => .bl (g i j)) := by
  intro pins s σ H x y v u Q I rx ry h
  obtain ⟨i, j, rfl, rfl, q⟩ := h
  obtain ⟨t, rfl⟩ := rx
  obtain ⟨t', rfl⟩ := ry
  exact rule i j t t' s _ _ ⟨.bl (g i j), H, I, rfl, q⟩

def CDiv (i j : Int) : Prop := 0 < j ∧ j < 1073741824
def CDivN (i j : Int) : Prop := j ≠ 0 ∧ j.natAbs < 1073741824
def CPow (i j : Int) : Prop := 0 ≤ j ∧ j ≤ 1000000 ∧ i.natAbs < 2 ^ 64
def CMul (i j : Int) : Prop := (-(2 ^ 64) < i ∧ i < 2 ^ 64) ∨ (-(2 ^ 64) < j ∧ j < 2 ^ 64)
theorem CMul.ok {i j : Int} (h : CMul i j) : IntMulOk i j := by
  rcases h with ⟨h1, h2⟩ | ⟨h1, h2⟩
  · exact .of_left (intBits_le_64 h1 h2)
  · exact .of_right (intBits_le_64 h1 h2)
theorem two_pow_nn (k : Nat) : (0 : Int) ≤ 2 ^ k := by
  rw [two_pow_cast]
  exact Int.natCast_nonneg _

theorem op_add : OpR X (binaryOp .Add) (rI0 fun i j => .int (i + j)) := opI0 fun _ _ _ _ _ _ _ q => add_int q
theorem op_sub : OpR X (binaryOp .Sub) (rI0 fun i j => .int (i - j)) := opI0 fun _ _ _ _ _ _ _ q => sub_int q
theorem op_mul : OpR X (binaryOp .Mult) (rI CMul fun i j => .int (i * j)) := opI fun _ _ _ _ _ _ _ hc q => mul_int q hc.ok
/-- // by a positive divisor -/
theorem op_fdiv : OpR X (binaryOp .FloorDiv) (rI CDiv fun i j => .int (i / j)) := opI fun i j _ _ _ _ _ hc q => by
  have h1 : (0 : Int) < j := hc.1
  have h2 : j < 1073741824 := hc.2
  exact floordiv_int (by omega) (by rw [Int.fdiv_eq_ediv_of_nonneg i (by omega)]; exact q) (.inl (PyProof.noPylong_small (by omega)))
theorem op_fdivN : OpR X (binaryOp .FloorDiv) (rI CDivN fun i j => .int (i.fdiv j)) := opI fun _ _ _ _ _ _ _ hc q => floordiv_int hc.1 q (.inl (PyProof.noPylong_small hc.2))
/-- % by a positive divisor of any size -/
theorem op_mod : OpR X (binaryOp .Mod) (rI (fun _ j => 0 < j) fun i j => .int (i % j)) := opI fun i j _ _ _ _ _ hc q => by
  have h1 : (0 : Int) < j := hc
  exact mod_int' (by omega) (by rw [Int.fmod_eq_emod_of_nonneg i (by omega)]; exact q)
theorem op_modN : OpR X (binaryOp .Mod) (rI (fun _ j => j ≠ 0) fun i j => .int (i.fmod j)) := opI fun _ _ _ _ _ _ _ hc q => mod_int' hc q
theorem op_pow : OpR X (binaryOp .Pow) (rI CPow fun i j => .int (i ^ j.toNat)) := opI fun _ _ _ _ _ _ _ hc q => pow_int_small hc.1 hc.2.1 hc.2.2 q
theorem op_shl : OpR X (binaryOp .LShift) (rI CPow fun i j => .int (i * 2 ^ j.toNat)) := opI fun _ _ _ _ _ _ _ hc q => lshift_int_small hc.1 hc.2.1 hc.2.2 q
theorem op_shr : OpR X (binaryOp .RShift) (rI (fun _ j => 0 ≤ j) fun i j => .int (i / 2 ^ j.toNat)) := opI fun i j _ _ _ _ _ hc q =>
  rshift_int hc (by rw [Int.fdiv_eq_ediv_of_nonneg i (two_pow_nn _)]; exact q)
theorem op_and : OpR X (binaryOp .BitAnd) (rI0 fun i j => .int (Builtin.bitAnd i j)) := opI0 fun _ _ _ _ _ _ _ q => and_int q
theorem op_or : OpR X (binaryOp .BitOr) (rI0 fun i j => .int (Builtin.bitOr i j)) := opI0 fun _ _ _ _ _ _ _ q => or_int q
theorem op_xor : OpR X (binaryOp .BitXor) (rI0 fun i j => .int (Builtin.bitXor i j)) := opI0 fun _ _ _ _ _ _ _ q => xor_int q

theorem iop_add : OpR X (inplaceOp .Add) (rI0 fun i j => .int (i + j)) := opI0 fun _ _ _ _ _ _ _ q => iadd_int q
theorem iop_sub : OpR X (inplaceOp .Sub) (rI0 fun i j => .int (i - j)) := opI0 fun _ _ _ _ _ _ _ q => isub_int q
theorem iop_mul : OpR X (inplaceOp .Mult) (rI CMul fun i j => .int (i * j)) := opI fun _ _ _ _ _ _ _ hc q => imul_int q hc.ok
theorem iop_fdiv : OpR X (inplaceOp .FloorDiv) (rI CDiv fun i j => .int (i / j)) := opI fun i j _ _ _ _ _ hc q => by
  have h1 : (0 : Int) < j := hc.1
  have h2 : j < 1073741824 := hc.2
  exact ifloordiv_int (by omega) (by rw [Int.fdiv_eq_ediv_of_nonneg i (by omega)]; exact q) (.inl (PyProof.noPylong_small (by omega)))
theorem iop_mod : OpR X (inplaceOp .Mod) (rI (fun _ j => 0 < j) fun i j => .int (i % j)) := opI fun i j _ _ _ _ _ hc q => by
  have h1 : (0 : Int) < j := hc
  exact imod_int (by omega) (by rw [Int.fmod_eq_emod_of_nonneg i (by omega)]; exact q)
theorem iop_shl : OpR X (inplaceOp .LShift) (rI CPow fun i j => .int (i * 2 ^ j.toNat)) := opI fun _ _ _ _ _ _ _ hc q => ilshift_int_small hc.1 hc.2.1 hc.2.2 q
theorem iop_shr : OpR X (inplaceOp .RShift) (rI (fun _ j => 0 ≤ j) fun i j => .int (i / 2 ^ j.toNat)) := opI fun i j _ _ _ _ _ hc q =>
  irshift_int hc (by rw [Int.fdiv_eq_ediv_of_nonneg i (two_pow_nn _)]; exact q)
theorem iop_and : OpR X (inplaceOp .BitAnd) (rI0 fun i j => .int (Builtin.bitAnd i j)) := opI0 fun _ _ _ _ _ _ _ q => iand_int q
theorem iop_or : OpR X (inplaceOp .BitOr) (rI0 fun i j => .int (Builtin.bitOr i j)) := opI0 fun _ _ _ _ _ _ _ q => ior_int q
theorem iop_xor : OpR X (inplaceOp .BitXor) (rI0 fun i j => .int (Builtin.bitXor i j)) := opI0 fun _ _ _ _ _ _ _ q => ixor_int q

theorem unI {f : Value → Sem Value} {g : Int → Int}
    (rule : ∀ (i : Int) (t : Tok) (s : Shared) (Q : Value → Shared → Prop) (E : Value → Shared → Prop), Q (.int (g i) s.toks) { s with toks := s.toks + 1 } → wpAny (model X.prog X.w) X.A (f (.int i t)) Q E s) :
    UnR X f (rU fun i => .int (g i)) := by
  intro pins s σ H x v Q I rx h
  obtain ⟨i, rfl, q⟩ := h
  obtain ⟨t, rfl⟩ := rx
  exact rule i t s _ _ ⟨.int (g i), H, I.tok _, ⟨_, rfl⟩, q⟩
theorem un_neg : UnR X (unaryOp .USub) (rU fun i => .int (-i)) := unI fun _ _ _ _ _ q => neg_int q
theorem un_inv : UnR X (unaryOp .Invert) (rU fun i => .int (Builtin.bitNot i)) := unI fun _ _ _ _ _ q => invert_int q

/-! ### bools among ints: n += (a < b) -/
theorem op_add_ib : OpR X (binaryOp .Add) (fun x y H Q => ∃ i k, x = .int i ∧ y = .bl k ∧ Q (.int (i + b2i k)) H) := by
  intro pins s σ H x y v u Q I rx ry h
  obtain ⟨i, k, rfl, rfl, q⟩ := h
  obtain ⟨t, rfl⟩ := rx
  cases ry
  exact add_int_bool ⟨.int (i + b2i k), H, I.tok _, ⟨_, rfl⟩, q⟩
end

/-! ### comparisons -/
/-- the scalars that == tells apart as data does -/
def scal : V → V → Bool
  | .non, .non => true | .non, .int _ => true | .int _, .non => true | .non, .bl _ => true | .bl _, .non => true | .non, .str _ => true | .str _, .non => true
  | .int _, .int _ => true | .bl _, .bl _ => true | .str _, .str _ => true | .byt _, .byt _ => true
  | .int _, .str _ => true | .str _, .int _ => true | .bl _, .str _ => true | .str _, .bl _ => true
  | _, _ => false
def rEq : R2 := fun x y H Q => scal x y = true ∧ Q (.bl (decide (x = y))) H
def rNe : R2 := fun x y H Q => scal x y = true ∧ Q (.bl (!decide (x = y))) H

theorem dec_int {i j : Int} : decide (V.int i = V.int j) = (i == j) := by
  rw [Bool.eq_iff_iff]
  simp
theorem dec_bl {i j : Bool} : decide (V.bl i = V.bl j) = (i == j) := by
  rw [Bool.eq_iff_iff]
  simp
theorem dec_str {i j : Str} : decide (V.str i = V.str j) = (i == j) := by
  rw [Bool.eq_iff_iff]
  simp
theorem dec_byt {i j : Array UInt8} : decide (V.byt i = V.byt j) = (i.toList == j.toList) := by
  rw [Bool.eq_iff_iff]
  cases i
  cases j
  simp

section
variable {X : Cx} {a b c : Expr} {ta tb tc : TE} {pos : Pos}
theorem fin_bl {pins : List (Addr × Obj)} {σ : St} {H : Hp} {s : Shared} {Q : VK} {k k' : Bool} (I : Inv X pins σ H s) (q : Q (.bl k) H) (e : k = k') : EP X pins σ Q (.bool k') s := by
  subst e
  exact ⟨.bl k, H, I, rfl, q⟩
theorem op_eq : OpR X (compareOp .Eq) rEq := by
  intro pins s σ H x y v u Q I rx ry h
  obtain ⟨hs, q⟩ := h
  cases x with
  | non =>
    cases rx
    cases y with
    | non => cases ry; exact PySem.EqNone.eq_none_none (fin_bl I q (by simp))
    | bl j => cases ry; exact PySem.EqNone.eq_none_bool (fin_bl I q (by simp))
    | int j => obtain ⟨t', rfl⟩ := ry; exact PySem.EqNone.eq_none_int (fin_bl I q (by simp))
    | str j => obtain ⟨t', rfl⟩ := ry; exact PySem.EqNone.eq_none_str (fin_bl I q (by simp))
    | _ => exact absurd (show false = true from hs) Bool.false_ne_true
  | bl i =>
    cases rx
    cases y with
    | non => cases ry; exact PySem.EqNone.eq_bool_none (fin_bl I q (by simp))
    | bl j => cases ry; exact eq_bool (fin_bl I q dec_bl)
    | str j => obtain ⟨t', rfl⟩ := ry; exact PySem.EqMixed.eq_bool_str (fin_bl I q (by simp))
    | _ => exact absurd (show false = true from hs) Bool.false_ne_true
  | int i =>
    obtain ⟨t, rfl⟩ := rx
    cases y with
    | non => cases ry; exact PySem.EqNone.eq_int_none (fin_bl I q (by simp))
    | int j => obtain ⟨t', rfl⟩ := ry; exact eq_int (fin_bl I q dec_int)
    | str j => obtain ⟨t', rfl⟩ := ry; exact PySem.EqMixed.eq_int_str (fin_bl I q (by simp))
    | _ => exact absurd (show false = true from hs) Bool.false_ne_true
  | str i =>
    obtain ⟨t, rfl⟩ := rx
    cases y with
    | non => cases ry; exact PySem.EqNone.eq_str_none (fin_bl I q (by simp))
    | bl j => cases ry; exact PySem.EqMixed.eq_str_bool (fin_bl I q (by simp))
    | int j => obtain ⟨t', rfl⟩ := ry; exact PySem.EqMixed.eq_str_int (fin_bl I q (by simp))
    | str j => obtain ⟨t', rfl⟩ := ry; exact eq_str (fin_bl I q dec_str)
    | _ => exact absurd (show false = true from hs) Bool.false_ne_true
  | byt i =>
    obtain ⟨t, rfl⟩ := rx
    cases y with
    | byt j => obtain ⟨t', rfl⟩ := ry; exact PySem.W.eq_bytes (fin_bl I q dec_byt)
    | _ => exact absurd (show false = true from hs) Bool.false_ne_true
  | _ => cases y <;> exact absurd (show false = true from hs) Bool.false_ne_true
theorem op_ne : OpR X (compareOp .NotEq) rNe := by
  intro pins s σ H x y v u Q I rx ry h
  obtain ⟨hs, q⟩ := h
  cases x with
  | non =>
    cases rx
    cases y with
    | non => cases ry; exact PySem.EqNone.ne_none_none (fin_bl I q (by simp))
    | bl j => cases ry; exact PySem.EqNone.ne_none_bool (fin_bl I q (by simp))
    | int j => obtain ⟨t', rfl⟩ := ry; exact PySem.EqNone.ne_none_int (fin_bl I q (by simp))
    | str j => obtain ⟨t', rfl⟩ := ry; exact PySem.EqNone.ne_none_str (fin_bl I q (by simp))
    | _ => exact absurd (show false = true from hs) Bool.false_ne_true
  | bl i =>
    cases rx
    cases y with
    | non => cases ry; exact PySem.EqNone.ne_bool_none (fin_bl I q (by simp))
    | bl j => cases ry; exact ne_bool (fin_bl I q (congrArg not dec_bl))
    | str j => obtain ⟨t', rfl⟩ := ry; exact PySem.EqMixed.ne_bool_str (fin_bl I q (by simp))
    | _ => exact absurd (show false = true from hs) Bool.false_ne_true
  | int i =>
    obtain ⟨t, rfl⟩ := rx
    cases y with
    | non => cases ry; exact PySem.EqNone.ne_int_none (fin_bl I q (by simp))
    | int j => obtain ⟨t', rfl⟩ := ry; exact ne_int (fin_bl I q (congrArg not dec_int))
    | str j => obtain ⟨t', rfl⟩ := ry; exact PySem.EqMixed.ne_int_str (fin_bl I q (by simp))
    | _ => exact absurd (show false = true from hs) Bool.false_ne_true
  | str i =>
    obtain ⟨t, rfl⟩ := rx
    cases y with
    | non => cases ry; exact PySem.EqNone.ne_str_none (fin_bl I q (by simp))
    | bl j => cases ry; exact PySem.EqMixed.ne_str_bool (fin_bl I q (by simp))
    | int j => obtain ⟨t', rfl⟩ := ry; exact PySem.EqMixed.ne_str_int (fin_bl I q (by simp))
    | str j => obtain ⟨t', rfl⟩ := ry; exact ne_str (fin_bl I q (congrArg not dec_str))
    | _ => exact absurd (show false = true from hs) Bool.false_ne_true
  | byt i =>
    obtain ⟨t, rfl⟩ := rx
    cases y with
    | byt j => obtain ⟨t', rfl⟩ := ry; exact PySem.W.ne_bytes (fin_bl I q (congrArg not dec_byt))
    | _ => exact absurd (show false = true from hs) Bool.false_ne_true
  | _ => cases y <;> exact absurd (show false = true from hs) Bool.false_ne_true

theorem op_lt : OpR X (compareOp .Lt) (rI0 fun i j => .bl (decide (i < j))) := opB0 fun _ _ _ _ _ _ _ q => lt_int q
theorem op_le : OpR X (compareOp .LtE) (rI0 fun i j => .bl (decide (i ≤ j))) := opB0 fun _ _ _ _ _ _ _ q => le_int q
theorem op_gt : OpR X (compareOp .Gt) (rI0 fun i j => .bl (decide (j < i))) := opB0 fun _ _ _ _ _ _ _ q => gt_int q
theorem op_ge : OpR X (compareOp .GtE) (rI0 fun i j => .bl (decide (j ≤ i))) := opB0 fun _ _ _ _ _ _ _ q => ge_int q
theorem op_lt_str : OpR X (compareOp .Lt) (fun x y H Q => ∃ i j, x = .str i ∧ y = .str j ∧ Q (.bl (decide (i.cps.toList < j.cps.toList))) H) := by
  intro pins s σ H x y v u Q I rx ry h
  obtain ⟨i, j, rfl, rfl, q⟩ := h
  obtain ⟨t, rfl⟩ := rx
  obtain ⟨t', rfl⟩ := ry
  exact lt_str (fin_bl I q rfl)
/-- the one string within the other -/
theorem op_in_str : OpR X (compareOp .In) (fun x y H Q => ∃ i j, x = .str i ∧ y = .str j ∧ Q (.bl (!(Builtin.Str.occurrences j i 0 j.length 1).isEmpty)) H) := by
  intro pins s σ H x y v u Q I rx ry h
  obtain ⟨i, j, rfl, rfl, q⟩ := h
  obtain ⟨t, rfl⟩ := rx
  obtain ⟨t', rfl⟩ := ry
  exact in_str (fin_bl I q rfl)

/-- is None, is not None: the right side a value none -/
theorem op_isN : OpR X (compareOp .Is) (fun x y H Q => y = .non ∧ Q (.bl (decide (x = .non))) H) := by
  intro pins s σ H x y v u Q I rx ry h
  obtain ⟨rfl, q⟩ := h
  cases ry
  refine is_none_gen (fin_bl I q ?_)
  cases x <;> first
    | (cases rx; rfl)
    | (obtain ⟨t, rfl⟩ := rx; rfl)
theorem op_notN : OpR X (compareOp .IsNot) (fun x y H Q => y = .non ∧ Q (.bl (!decide (x = .non))) H) := by
  intro pins s σ H x y v u Q I rx ry h
  obtain ⟨rfl, q⟩ := h
  cases ry
  refine isnot_none_gen (fin_bl I q ?_)
  cases x <;> first
    | (cases rx; rfl)
    | (obtain ⟨t, rfl⟩ := rx; rfl)

theorem op_notin_str : OpR X (compareOp .NotIn) (fun x y H Q => ∃ i j, x = .str i ∧ y = .str j ∧ Q (.bl (!(!(Builtin.Str.occurrences j i 0 j.length 1).isEmpty))) H) := by
  intro pins s σ H x y v u Q I rx ry h
  obtain ⟨i, j, rfl, rfl, q⟩ := h
  obtain ⟨t, rfl⟩ := rx
  obtain ⟨t', rfl⟩ := ry
  exact notIn_str (fin_bl I q rfl)
/-- is, is not of two objects that are tracked lists or instances -/
def isObj : HO → Bool
  | .lst _ => true
  | .ins _ _ _ => true
  | _ => false
theorem obj_there {pins : List (Addr × Obj)} {s : Shared} {σ : St} {H : Hp} {a : Addr} {o : HO} (I : Inv X pins σ H s) (h : H a = some o) (p : isObj o = true) : ∃ ob, s.heap.get? a = some ob ∧ ob.cls ≠ .type "tuple" := by
  cases o with
  | lst xs =>
    obtain ⟨_, its, n, _, e⟩ : xs.length ≤ sizeLine ∧ ∃ (its : List Value) (n : Nat), Vals xs its ∧ s.heap.get? a = some { cls := .type "list", data := .seq its.toArray n } := I.hok a _ h
    exact ⟨_, e, (by show Value.type "list" ≠ .type "tuple"; decide +kernel)⟩
  | ins C dx fs =>
    have x := I.hok a _ h
    obtain ⟨_, _, _, e, _⟩ := x
    exact ⟨_, e, (by show Value.ref C ≠ .type "tuple"; exact fun z => by cases z)⟩
  | _ => exact absurd (show false = true from p) Bool.false_ne_true
theorem op_is_ref : OpR X (compareOp .Is) (fun x y H Q => ∃ a b oa ob, x = .ref a ∧ y = .ref b ∧ H a = some oa ∧ isObj oa = true ∧ H b = some ob ∧ isObj ob = true ∧ Q (.bl (decide (a = b))) H) := by
  intro pins s σ H x y v u Q I rx ry h
  obtain ⟨a, b, oa, ob, rfl, rfl, ha, pa, hb, pb, q⟩ := h
  cases rx
  cases ry
  obtain ⟨o1, e1, n1⟩ := obj_there I ha pa
  obtain ⟨o2, e2, _⟩ := obj_there I hb pb
  by_cases z : a = b
  · subst z
    exact wpAny_is_ref_self (fin_bl I q (by simp))
  · exact wpAny_is_ref_other z e1 e2 n1 (fin_bl I q (by simp [z]))
theorem op_isnot_ref : OpR X (compareOp .IsNot) (fun x y H Q => ∃ a b oa ob, x = .ref a ∧ y = .ref b ∧ H a = some oa ∧ isObj oa = true ∧ H b = some ob ∧ isObj ob = true ∧ Q (.bl (!decide (a = b))) H) := by
  intro pins s σ H x y v u Q I rx ry h
  obtain ⟨a, b, oa, ob, rfl, rfl, ha, pa, hb, pb, q⟩ := h
  cases rx
  cases ry
  obtain ⟨o1, e1, n1⟩ := obj_there I ha pa
  obtain ⟨o2, e2, _⟩ := obj_there I hb pb
  by_cases z : a = b
  · subst z
    exact wpAny_isNot_ref_self (fin_bl I q (by simp))
  · exact wpAny_isNot_ref_other z e1 e2 n1 (fin_bl I q (by simp [z]))

/-- two rules for one operation: by cases -/
theorem OpR.or {f : Value → Value → Sem Value} {r r' : R2} (h : OpR X f r) (h' : OpR X f r') : OpR X f (fun x y H Q => r x y H Q ∨ r' x y H Q) := by
  intro pins s σ H x y v u Q I rx ry q
  rcases q with q | q
  · exact h pins s σ H x y v u Q I rx ry q
  · exact h' pins s σ H x y v u Q I rx ry q

theorem nomark (b : Expr) {op : CmpOp} (h : op ≠ .In := by decide) (h2 : op ≠ .NotIn := by decide) : behindInMarks op b = false := by
  have e1 : (op == CmpOp.In) = false := by cases op <;> first | rfl | exact absurd rfl h
  have e2 : (op == CmpOp.NotIn) = false := by cases op <;> first | rfl | exact absurd rfl h2
  cases b <;> simp [behindInMarks, e1, e2]
/-- a comparison as a value; hm: nomark b, or (for in, not in) by with_unfolding_all rfl -/
theorem pe_cmpR {op : CmpOp} {r : R2} (ho : OpR X (compareOp op) r) (ha : PE X a ta) (hb : PE X b tb) (hm : behindInMarks op b = false) : PE X (.Compare a [op] [b] pos) (tOp r ta tb) := by
  intro pins s σ H Q I h
  exact wpAny_Compare1 (binT ha hb I h fun v u s2 x y H2 I2 rx ry q => ho pins s2 σ H2 x y v u Q I2 rx ry q) hm
/-- a reading of a value as a test -/
def tTest (t : TE) : TT := fun σ H Q => t σ H fun x H' => ∃ k, x = .bl k ∧ Q k H'
theorem pt_cmpR {op : CmpOp} {r : R2} (ho : OpR X (compareOp op) r) (ha : PE X a ta) (hb : PE X b tb) (hm : behindInMarks op b = false) : PT X (.Compare a [op] [b] pos) (tTest (tOp r ta tb)) := by
  intro pins s σ H Q I h
  refine wpAny_isTrue_Compare1 (thn (ha pins s σ H _ I h) fun v s1 ⟨x, H1, I1, r1, q1⟩ => thn (hb pins s1 σ H1 _ I1 q1) fun u s2 ⟨y, H2, I2, r2, q2⟩ =>
    thn (ho pins s2 σ H2 x y v u _ I2 r1 r2 q2) fun c s3 ⟨z, H3, I3, r3, k, e, q3⟩ => ?_) hm
  subst e
  cases r3
  exact wpAny_truthy_bool ⟨H3, I3, q3⟩
/-- a op1 b op2 c -/
def tChain (r r' : R2) (ta tb tc : TE) : TE := fun σ H Q => ta σ H fun x H1 => tb σ H1 fun y H2 => r x y H2 fun z H3 => ∃ k, z = .bl k ∧
  (if k = true then tc σ H3 fun w' H4 => r' y w' H4 Q else Q (.bl false) H3)
theorem pe_chain {op op' : CmpOp} {r r' : R2} (ho : OpR X (compareOp op) r) (ho' : OpR X (compareOp op') r') (ha : PE X a ta) (hb : PE X b tb) (hc : PE X c tc)
    (hm : lastMarks [op, op'] [b, c] = false := by with_unfolding_all rfl) : PE X (.Compare a [op, op'] [b, c] pos) (tChain r r' ta tb tc) := by
  intro pins s σ H Q I h
  refine Compare_chain (thn (ha pins s σ H _ I h) fun v s1 ⟨x, H1, I1, r1, q1⟩ => chain_link (thn (hb pins s1 σ H1 _ I1 q1) fun u s2 ⟨y, H2, I2, r2, q2⟩ =>
    thn (ho pins s2 σ H2 x y v u _ I2 r1 r2 q2) fun d s3 ⟨z, H3, I3, r3, k, e, q3⟩ => ?_)) hm
  subst e
  cases r3
  refine wpAny_truthy_bool ?_
  cases k with
  | false => exact ite_ff ⟨.bl false, H3, I3, rfl, q3⟩
  | true => exact ite_tt (chain_last (thn (hc pins s3 σ H3 _ I3 q3) fun w' s4 ⟨z', H4, I4, r4, q4⟩ => ho' pins s4 σ H4 y z' u w' Q I4 r2 r4 q4))
theorem pt_chain {op op' : CmpOp} {r r' : R2} (ho : OpR X (compareOp op) r) (ho' : OpR X (compareOp op') r') (ha : PE X a ta) (hb : PE X b tb) (hc : PE X c tc)
    (hm : lastMarks [op, op'] [b, c] = false := by with_unfolding_all rfl) : PT X (.Compare a [op, op'] [b, c] pos) (tTest (tChain r r' ta tb tc)) := by
  intro pins s σ H Q I h
  refine isTrue_chain (thn (ha pins s σ H _ I h) fun v s1 ⟨x, H1, I1, r1, q1⟩ => test_link (thn (hb pins s1 σ H1 _ I1 q1) fun u s2 ⟨y, H2, I2, r2, q2⟩ =>
    thn (ho pins s2 σ H2 x y v u _ I2 r1 r2 q2) fun d s3 ⟨z, H3, I3, r3, k, e, q3⟩ => ?_)) hm
  subst e
  cases r3
  refine wpAny_truthy_bool ?_
  cases k with
  | false =>
    obtain ⟨k', e', q'⟩ := q3
    cases e'
    exact ite_ff ⟨H3, I3, q'⟩
  | true =>
    refine ite_tt (test_last (thn (hc pins s3 σ H3 _ I3 q3) fun w' s4 ⟨z', H4, I4, r4, q4⟩ => thn (ho' pins s4 σ H4 y z' u w' _ I4 r2 r4 q4) fun d' s5 ⟨z2, H5, I5, r5, k2, e2, q5⟩ => ?_))
    subst e2
    cases r5
    exact wpAny_truthy_bool ⟨H5, I5, q5⟩

/-! ### truth -/
/-- a value's truth by the abstract heap -/
def TruV (K : PySem.W.Frag) (x : V) (H : Hp) (k : Bool) : Prop :=
  match x with
  | .non => k = false
  | .bl b => k = b
  | .int i => k = (i != 0)
  | .str y => y.length ≤ sizeLine ∧ k = ((y.length : Int) != 0)
  | .byt y => y.size ≤ sizeLine ∧ k = ((y.size : Int) != 0)
  | .ref p => (∃ xs, SqL K H p xs ∧ k = !xs.isEmpty) ∨ (∃ xs, SqT K H p xs ∧ k = !xs.isEmpty) ∨ ∃ kvs, H p = some (.dK kvs) ∧ k = !kvs.isEmpty
  | _ => False
theorem isEmpty_kv {κ : Type} {kvs : List (κ × V)} {vs : List (κ × Value)} (r : KV kvs vs) : (!vs.isEmpty) = !kvs.isEmpty := by
  cases r <;> rfl
theorem isEmpty_of {xs : List V} {its : List Value} (r : Vals xs its) : (!its.toArray.isEmpty) = !xs.isEmpty := by
  cases r <;> simp
theorem line63 : (sizeLine : Nat) < 2 ^ 63 := by rw [sizeLine_eq]; decide
theorem tru_ok : TruR X (fun x H Q => ∃ k, TruV X.K x H k ∧ Q k H) := by
  intro pins s σ H x v Q I rx h
  obtain ⟨k, e, q⟩ := h
  have hl := line63
  have hs : sizeLine = 16777216 := sizeLine_eq
  cases x with
  | non =>
    cases rx
    have e' : k = false := e
    subst e'
    exact truthy_none ⟨H, I, q⟩
  | bl b =>
    cases rx
    have e' : k = b := e
    subst e'
    exact wpAny_truthy_bool ⟨H, I, q⟩
  | int i =>
    obtain ⟨t, rfl⟩ := rx
    have e' : k = (i != 0) := e
    subst e'
    exact PySem.P.truthy_int ⟨H, I, q⟩
  | str y =>
    obtain ⟨t, rfl⟩ := rx
    obtain ⟨hy, e'⟩ : y.length ≤ sizeLine ∧ k = ((y.length : Int) != 0) := e
    subst e'
    exact PySem.P.truthy_str (by omega) ⟨H, I.tok _, q⟩
  | byt y =>
    obtain ⟨t, rfl⟩ := rx
    obtain ⟨hy, e'⟩ : y.size ≤ sizeLine ∧ k = ((y.size : Int) != 0) := e
    subst e'
    exact PySem.W.truthy_bytes (by omega) ⟨H, I.tok _, q⟩
  | ref p =>
    cases rx
    have e' : (∃ xs, SqL X.K H p xs ∧ k = !xs.isEmpty) ∨ (∃ xs, SqT X.K H p xs ∧ k = !xs.isEmpty) ∨ ∃ kvs, H p = some (.dK kvs) ∧ k = !kvs.isEmpty := e
    rcases e' with ⟨xs, hx, e'⟩ | ⟨xs, hx, e'⟩ | ⟨kvs, hx, e'⟩
    · subst e'
      obtain ⟨its, r, pl, hz⟩ := I.list hx
      have hlen := r.length
      exact wpAny_truthy_list pl.isList (by simp only [List.size_toArray]; omega) ⟨H, I.tok _, by rw [isEmpty_of r]; exact q⟩
    · subst e'
      obtain ⟨its, r, pl, hz⟩ := I.tuple hx
      have hlen := r.length
      exact truthy_tuple pl (by simp only [List.size_toArray]; omega) ⟨H, I.tok _, by rw [isEmpty_of r]; exact q⟩
    · subst e'
      obtain ⟨hz, hS, vs, r, m⟩ : kvs.length ≤ sizeLine ∧ (p == sysModules) = false ∧ ∃ vs, KV kvs vs ∧ s.heap.DictOf (mixKind X.prog X.w) p vs := I.hok p _ hx
      have hlen : kvs.length = vs.length := Paired.length r
      exact wpAny_truthy_dict hS m (by omega) ⟨H, I.tok _, by rw [isEmpty_kv r]; exact q⟩
  | _ => exact (show False from e).elim
/-- any expression whose test is its value's truth (a name, a call, a subscript, a field ..: he by fun _ => rfl) -/
theorem pt_truth (ha : PE X a ta) (he : ∀ whole, isTrue a X.env whole = (do let v ← whole; standAt a.pos; holding [v] (truthy v))) :
    PT X a (fun σ H Q => ta σ H fun x H' => ∃ k, TruV X.K x H' k ∧ Q k H') := by
  intro pins s σ H Q I h
  exact isTrue_plain (thn (ha pins s σ H _ I h) fun v s1 ⟨x, H1, I1, r1, q1⟩ => tru_ok pins s1 σ H1 x v Q I1 r1 q1) (he _)

/-! ### strs and bytes -/
theorem pe_byt {x : List UInt8} {k : Nat} : PE X (.Constant (.bytes x) k pos) (fun _ H Q => Q (.byt x.toArray) H) := fun _ _ _ H _ I h => PySem.W.Constant_bytes ⟨.byt x.toArray, H, I.tok _, ⟨_, rfl⟩, h⟩
theorem op_add_str : OpR X (binaryOp .Add) (fun x y H Q => ∃ i j, x = .str i ∧ y = .str j ∧ i.length + j.length ≤ sizeLine ∧ Q (.str (i ++ j)) H) := by
  intro pins s σ H x y v u Q I rx ry h
  obtain ⟨i, j, rfl, rfl, hz, q⟩ := h
  obtain ⟨t, rfl⟩ := rx
  obtain ⟨t', rfl⟩ := ry
  exact add_str (fun t' tk => ⟨.str (i ++ j), H, I.tok _, ⟨_, rfl⟩, q⟩) hz
theorem iop_add_str : OpR X (inplaceOp .Add) (fun x y H Q => ∃ i j, x = .str i ∧ y = .str j ∧ i.length + j.length ≤ sizeLine ∧ Q (.str (i ++ j)) H) := by
  intro pins s σ H x y v u Q I rx ry h
  obtain ⟨i, j, rfl, rfl, hz, q⟩ := h
  obtain ⟨t, rfl⟩ := rx
  obtain ⟨t', rfl⟩ := ry
  exact iadd_str (fun t' tk => ⟨.str (i ++ j), H, I.tok _, ⟨_, rfl⟩, q⟩) hz
theorem op_add_byt : OpR X (binaryOp .Add) (fun x y H Q => ∃ i j, x = .byt i ∧ y = .byt j ∧ i.size + j.size ≤ 16777216 ∧ Q (.byt (i ++ j)) H) := by
  intro pins s σ H x y v u Q I rx ry h
  obtain ⟨i, j, rfl, rfl, hz, q⟩ := h
  obtain ⟨t, rfl⟩ := rx
  obtain ⟨t', rfl⟩ := ry
  exact PySem.W.KBy.add_bytes hz (fun t' tk => ⟨.byt (i ++ j), H, I.tok _, ⟨_, rfl⟩, q⟩)

def PlainIxT (b : Expr) : Prop := ∀ o i, subscripted b false o i = operate [o, i] (getItem o i)
/-- s[i], 0 ≤ i < len -/
theorem pe_item_str (ha : PE X a ta) (hb : PE X b tb) (hs : PlainIxT b) :
    PE X (.Subscript a b pos) (tOp (fun x y H Q => ∃ z i c, x = .str z ∧ y = .int i ∧ 0 ≤ i ∧ i < 2 ^ 63 ∧ i < z.length ∧ z.cps[i.toNat]? = some c ∧ Q (.str ⟨#[c]⟩) H) ta tb) := by
  intro pins s σ H Q I h
  refine Subscript_ (binT ha hb I h fun v u s2 x y H2 I2 rx ry q => ?_)
  obtain ⟨z, i, c, rfl, rfl, h0, h63, h1, hc, q⟩ := q
  obtain ⟨t, rfl⟩ := rx
  obtain ⟨t', rfl⟩ := ry
  have e : seqIndex? i z.length = some i.toNat := PySem.StrLaws.seqIndex_nonneg h0 h1
  exact tail_any (typeIs_str s2 z t) slot_str_getitem.lookup (getItem_str (c := c) (by
    have e1 : decide (i < -(2 ^ 63 : Int)) = false := decide_eq_false (by omega)
    have e2 : decide (i ≥ 2 ^ 63) = false := decide_eq_false (by omega)
    rw [e1, e2] <;> rfl) (by rw [e]; exact hc) ⟨.str ⟨#[c]⟩, H2, I2.tok _, ⟨_, rfl⟩, q⟩) (hs _ _)
/-- b[i], 0 ≤ i < len -/
theorem pe_item_byt (ha : PE X a ta) (hb : PE X b tb) (hs : PlainIxT b) :
    PE X (.Subscript a b pos) (tOp (fun x y H Q => ∃ (z : List UInt8) (i : Int), x = .byt z.toArray ∧ y = .int i ∧ z.length ≤ sizeLine ∧ 0 ≤ i ∧ i < z.length ∧ Q (.int ((z.getD i.toNat 0).toNat : Nat)) H) ta tb) := by
  intro pins s σ H Q I h
  refine Subscript_ (binT ha hb I h fun v u s2 x y H2 I2 rx ry q => ?_)
  obtain ⟨z, i, rfl, rfl, hz, h0, h1, q⟩ := q
  obtain ⟨t, rfl⟩ := rx
  obtain ⟨t', rfl⟩ := ry
  have hl : sizeLine = 16777216 := sizeLine_eq
  exact tail_any (PySem.W.typeIs_bytes s2 z.toArray t) PySem.W.FB.slot_bytes_getitem.lookup (PySem.W.getItem_bytes (by omega) h0 h1 ⟨.int ((z.getD i.toNat 0).toNat : Nat), H2, I2.tok _, ⟨_, rfl⟩, q⟩) (hs _ _)

/-! ### scalar builtins, by CallR -/
theorem vals1 {x : V} {us : List Value} (r : Vals [x] us) : ∃ u, us = [u] ∧ RelV x u := by
  cases r with
  | cons r1 r2 => cases r2; exact ⟨_, rfl, r1⟩
theorem vals2 {x y : V} {us : List Value} (r : Vals [x, y] us) : ∃ u w', us = [u, w'] ∧ RelV x u ∧ RelV y w' := by
  cases r with
  | cons r1 r2 =>
    cases r2 with
    | cons r3 r4 => cases r4; exact ⟨_, _, rfl, r1, r3⟩
theorem call_abs : CallR X (.builtin "abs") (fun xs H Q => ∃ i, xs = [.int i] ∧ Q (.int (if i < 0 then -i else i)) H) := by
  intro pins s σ H xs us Q I r h
  obtain ⟨i, rfl, q⟩ := h
  obtain ⟨u, rfl, t, rfl⟩ := vals1 r
  exact call_abs_int fun u tk => ⟨.int (if i < 0 then -i else i), H, I.tok _, ⟨_, rfl⟩, q⟩
theorem call_max2 (hc : X.calm = true) : CallR X (.builtin "max") (fun xs H Q => ∃ i j, xs = [.int i, .int j] ∧ Q (.int (if j > i then j else i)) H) := by
  intro pins s σ H xs us Q I r h
  obtain ⟨i, j, rfl, q⟩ := h
  obtain ⟨u, w', rfl, ⟨t, rfl⟩, ⟨t', rfl⟩⟩ := vals2 r
  refine max_two_ints (I.ok.hd hc) fun h' tk k => ⟨_, H, I.kept k, ?_, q⟩
  by_cases hj : j > i
  · rw [if_pos hj, if_pos hj]; exact ⟨_, rfl⟩
  · rw [if_neg hj, if_neg hj]; exact ⟨_, rfl⟩
theorem call_min2 (hc : X.calm = true) : CallR X (.builtin "min") (fun xs H Q => ∃ i j, xs = [.int i, .int j] ∧ Q (.int (if j < i then j else i)) H) := by
  intro pins s σ H xs us Q I r h
  obtain ⟨i, j, rfl, q⟩ := h
  obtain ⟨u, w', rfl, ⟨t, rfl⟩, ⟨t', rfl⟩⟩ := vals2 r
  refine min_two_ints (I.ok.hd hc) fun h' tk k => ⟨_, H, I.kept k, ?_, q⟩
  by_cases hj : j < i
  · rw [if_pos hj, if_pos hj]; exact ⟨_, rfl⟩
  · rw [if_neg hj, if_neg hj]; exact ⟨_, rfl⟩
theorem call_int1 : CallR X (.type "int") (fun xs H Q => (∃ i, xs = [.int i] ∧ Q (.int i) H) ∨ ∃ k, xs = [.bl k] ∧ Q (.int (if k then 1 else 0)) H) := by
  intro pins s σ H xs us Q I r h
  rcases h with ⟨i, rfl, q⟩ | ⟨k, rfl, q⟩
  · obtain ⟨u, rfl, t, rfl⟩ := vals1 r
    exact call_int_int ⟨.int i, H, I, ⟨_, rfl⟩, q⟩
  · obtain ⟨u, rfl, r1⟩ := vals1 r
    cases r1
    exact call_int_bool ⟨.int (if k then 1 else 0), H, I.tok _, ⟨_, rfl⟩, q⟩
theorem call_bool1 : CallR X (.type "bool") (fun xs H Q => (∃ i, xs = [.int i] ∧ Q (.bl (i != 0)) H) ∨ ∃ k, xs = [.bl k] ∧ Q (.bl k) H) := by
  intro pins s σ H xs us Q I r h
  rcases h with ⟨i, rfl, q⟩ | ⟨k, rfl, q⟩
  · obtain ⟨u, rfl, t, rfl⟩ := vals1 r
    exact call_bool_int ⟨.bl (i != 0), H, I, rfl, q⟩
  · obtain ⟨u, rfl, r1⟩ := vals1 r
    cases r1
    exact call_bool_bool ⟨.bl k, H, I, rfl, q⟩
theorem call_str_int : CallR X (.type "str") (fun xs H Q => ∃ i, xs = [.int i] ∧ i.natAbs.log2 < 1920 ∧ Q (.str (toString i)) H) := by
  intro pins s σ H xs us Q I r h
  obtain ⟨i, rfl, hz, q⟩ := h
  obtain ⟨u, rfl, t, rfl⟩ := vals1 r
  exact PySem.P.str_of_int hz ⟨.str _, H, I.tok _, ⟨_, rfl⟩, q⟩
theorem call_ord : CallR X (.builtin "ord") (fun xs H Q => ∃ x, xs = [.str x] ∧ x.length = 1 ∧ Q (.int (x.cps.getD 0 0 : Nat)) H) := by
  intro pins s σ H xs us Q I r h
  obtain ⟨x, rfl, hz, q⟩ := h
  obtain ⟨u, rfl, t, rfl⟩ := vals1 r
  exact ord_of_one hz ⟨.int _, H, I.tok _, ⟨_, rfl⟩, q⟩
theorem call_chr : CallR X (.builtin "chr") (fun xs H Q => ∃ i, xs = [.int i] ∧ 0 ≤ i ∧ i ≤ 1114111 ∧ Q (.str ⟨#[i.toNat]⟩) H) := by
  intro pins s σ H xs us Q I r h
  obtain ⟨i, rfl, h0, h1, q⟩ := h
  obtain ⟨u, rfl, t, rfl⟩ := vals1 r
  exact chr_of_range h0 h1 ⟨.str _, H, I.tok _, ⟨_, rfl⟩, q⟩
/-- len of a str, a bytes, a list, a tuple -/
def LenV (K : PySem.W.Frag) (x : V) (H : Hp) (n : Nat) : Prop :=
  match x with
  | .str y => y.length ≤ sizeLine ∧ n = y.length
  | .byt y => y.size ≤ sizeLine ∧ n = y.size
  | .ref p => (∃ xs, SqL K H p xs ∧ n = xs.length) ∨ ∃ xs, SqT K H p xs ∧ n = xs.length
  | _ => False
theorem call_len : CallR X (.builtin "len") (fun xs H Q => ∃ x n, xs = [x] ∧ LenV X.K x H n ∧ Q (.int n) H) := by
  intro pins s σ H xs us Q I r h
  obtain ⟨x, n, rfl, e, q⟩ := h
  obtain ⟨u, rfl, rx⟩ := vals1 r
  have hl := line63
  have hs : sizeLine = 16777216 := sizeLine_eq
  cases x with
  | str y =>
    obtain ⟨t, rfl⟩ := rx
    obtain ⟨hy, e'⟩ : y.length ≤ sizeLine ∧ n = y.length := e
    subst e'
    exact len_str (by omega) ⟨.int _, H, I.tok _, ⟨_, rfl⟩, q⟩
  | byt y =>
    obtain ⟨t, rfl⟩ := rx
    obtain ⟨hy, e'⟩ : y.size ≤ sizeLine ∧ n = y.size := e
    subst e'
    exact PySem.W.len_bytes (by omega) ⟨.int _, H, I.tok _, ⟨_, rfl⟩, q⟩
  | ref p =>
    cases rx
    have e' : (∃ xs, SqL X.K H p xs ∧ n = xs.length) ∨ ∃ xs, SqT X.K H p xs ∧ n = xs.length := e
    rcases e' with ⟨xs, hx, e'⟩ | ⟨xs, hx, e'⟩
    · subst e'
      obtain ⟨its, r', pl, hz⟩ := I.list hx
      have hlen := r'.length
      exact Calls.call_len_list pl.isList (by simp only [List.size_toArray]; omega) ⟨.int xs.length, H, I.tok _, ⟨_, by simp only [List.size_toArray]; rw [hlen]⟩, q⟩
    · subst e'
      obtain ⟨its, r', pl, hz⟩ := I.tuple hx
      have hlen := r'.length
      exact len_tuple pl (by simp only [List.size_toArray]; omega) ⟨.int xs.length, H, I.tok _, ⟨_, by simp only [List.size_toArray]; rw [hlen]⟩, q⟩
  | _ => exact (show False from e).elim
/-- divmod: a new tuple -/
theorem call_divmod : CallR X (.builtin "divmod") (fun xs H Q => ∃ i j, xs = [.int i, .int j] ∧ CDiv i j ∧ ∀ p, H p = none → Q (.ref p) (upd H p (.tup [.int (i / j), .int (i % j)]))) := by
  intro pins s σ H xs us Q I r h
  obtain ⟨i, j, rfl, ⟨h1, h2⟩, q⟩ := h
  obtain ⟨u, w', rfl, ⟨t, rfl⟩, ⟨t', rfl⟩⟩ := vals2 r
  refine divmod_int (by omega) ?_ (.inl (PyProof.noPylong_small (by omega)))
  rw [Int.fdiv_eq_ediv_of_nonneg i (by omega), Int.fmod_eq_emod_of_nonneg i (by omega)]
  have hn : H s.heap.objs.size = none := I.hok.fresh (Nat.le_refl _)
  refine ⟨.ref s.heap.objs.size, _, ?_, rfl, q _ hn⟩
  refine I.laid (fun b o e => Heap.get?_push_of_some _ e) (Nat.le_refl _) ⟨by simp only [List.length_cons, List.length_nil]; rw [sizeLine_eq]; decide, [.int (i / j) s.toks, .int (i % j) (s.toks + 1)], .cons ⟨_, rfl⟩ (.cons ⟨_, rfl⟩ .nil), ?_⟩
  exact ⟨_, Heap.get?_push_size s.heap rfl, rfl, 0, rfl⟩
end
end L2

namespace L2
open PySem PySem.Spec PyProof.Rows

/-! ### an instance, its attributes a map -/
structure ObjM (h : Heap) (x dx C : Addr) (mA : Str → Option Value) : Prop where
  obj : h.get? x = some (PySem.W.instObj C dx)
  ns : h.Ns1 dx mA
  ne : dx ≠ x

theorem lookIn_ns {h : Heap} {dx : Addr} {mA : Str → Option Value} (n : h.Ns1 dx mA) : ∃ od, h.get? dx = some od ∧ ∀ name, PySem.W.lookIn name od = some (mA name) := by
  obtain ⟨o, es, ep, ho, hd, hk, _, hm⟩ := n
  refine ⟨o, ho, fun name => ?_⟩
  have e := hm name
  unfold nsFind findBy at e
  rw [← Array.find?_toList] at e
  unfold PySem.W.lookIn
  rw [hd]
  dsimp only
  split
  · rename_i y q
    rw [q] at e
    exact congrArg some e
  · rename_i q
    rw [q] at e
    have a : es.toList.any (·.refKey) = false := by
      rw [List.any_eq_false]
      intro y hy
      obtain ⟨z, t, hkey⟩ := hk y (Array.mem_toList_iff.mp hy)
      simp [DictEntry.refKey, hkey]
    have a' : ¬ es.toList.any (·.refKey) = true := by rw [a]; exact Bool.false_ne_true
    rw [if_neg a']
    exact congrArg some e

theorem ObjM.look {h : Heap} {x dx C : Addr} {mA : Str → Option Value} (I : ObjM h x dx C mA) : ∃ od, PySem.W.InstAt h x (PySem.W.instObj C dx) C (some od) ∧ ∀ name, PySem.W.lookIn name od = some (mA name) :=
  let ⟨od, ho, hl⟩ := lookIn_ns I.ns
  ⟨od, ⟨I.obj, rfl, rfl, ho⟩, hl⟩

section
variable {prog : Program} {w : World} {A : Around} {E : Value → Shared → Prop} {s : Shared} {K : PySem.W.Frag} {x dx C f : Addr} {mA : Str → Option Value} {name : Str} {v : Value}

theorem get_map {expr : Bool} {Q : Value → Shared → Prop} (X : K.In s.heap) (I : ObjM s.heap x dx C mA) (hg : PySem.W.plainGet K C name = true) (hh : PySem.W.hasDictIn K C = true)
    (ha : PySem.W.findIn K (.ref C) name = some none) (hv : mA name = some v) (hv' : PySem.W.handedIn v = true) (h : Q v { s with toks := s.toks + 1 }) :
    wpAny (model prog w) A (getAttr (.ref x) name expr) Q E s := by
  obtain ⟨od, J, hl⟩ := I.look
  exact PySem.W.get_value X J (PySem.W.plainGet_of hg).1 (PySem.W.findObj_own hh ha rfl (by rw [hl, hv])) hv' h

theorem get_const {expr : Bool} {a : Value} {Q : Value → Shared → Prop} (X : K.In s.heap) (I : ObjM s.heap x dx C mA) (hg : PySem.W.plainGet K C name = true) (hh : PySem.W.hasDictIn K C = true)
    (ha : PySem.W.findIn K (.ref C) name = some (some a)) (hn : PySem.W.specialIn K a "__get__" = some none) (hc : PySem.W.copiedNames.contains name = false) (hv : mA name = none) (hv' : PySem.W.handedIn a = true)
    (h : Q a { s with toks := s.toks + 1 }) : wpAny (model prog w) A (getAttr (.ref x) name expr) Q E s := by
  obtain ⟨od, J, hl⟩ := I.look
  exact PySem.W.get_value X J (PySem.W.plainGet_of hg).1 (PySem.W.findObj_cls hh ha hn hv' hc (by rw [hl, hv])) hv' h

theorem get_meth {pl : Sem Bool} {Q : Value × List Value → Shared → Prop} (X : K.In s.heap) (I : ObjM s.heap x dx C mA) (hg : PySem.W.plainGet K C name = true)
    (hf : PySem.W.findIn K (.ref C) name = some (some (.ref f))) (ht : PySem.W.isFn K (.ref f) = true) (hv : mA name = none) (h : Q (.ref f, [.ref x]) s) :
    wpAny (model prog w) A (getMethod (.ref x) name pl) Q E s := by
  obtain ⟨od, J, hl⟩ := I.look
  exact PySem.W.method_fn X J (PySem.W.plainGet_of hg).1 (PySem.W.plainGet_of hg).2 hf (beq_iff_eq.mp ht) (by show (PySem.W.lookIn name od).map (·.isSome) = some false; rw [hl, hv]; rfl) h

theorem set_map {ns : List Str} {Q : Unit → Shared → Prop} (X : K.In s.heap) (I : ObjM s.heap x dx C mA)
    (hs : PySem.W.findIn K (.ref C) "__setattr__" = some (some (.builtin "object.__setattr__"))) (hp : PySem.W.plainOver K C = true) (ht : PySem.W.takerIn K C name = some none) (hh : PySem.W.hasDictIn K C = true)
    (hw : PySem.Within mA ns) (hsz : ns.length ≤ sizeLine)
    (h : ∀ h', ObjM h' x dx C (fun y => if y = name then some v else mA y) → Heap.SameBut dx s.heap h' → Q () { s with heap := h', toks := s.toks + 2 }) :
    wpAny (model prog w) A (setAttr (.ref x) name v) Q E s := by
  obtain ⟨od, J, hl⟩ := I.look
  refine PySem.W.set_plain X J hs (PySem.W.osa_open (s := { s with toks := s.toks + 1 }) (r := none) X J hp ht fun b => ?_)
  obtain ⟨cd, hc, hd'⟩ := PySem.W.any_some hh
  have hx : s.heap.get? x = some ⟨.ref C, some dx, .plain, #[]⟩ := I.obj
  refine wpAny_bind (wpAny_pure (wpAny_bind (wpAny_bind (wpAny_loadPart hx (wpAny_bind (PySem.W.Looks.here (s := { s with toks := s.toks + 1 }) (PySem.W.looks_clsIn X hc) ?_))))))
  rw [hd']
  refine wpAny_pure (a := some dx) (wpAny_bind (wpAny_pure (wpAny_bind ?_)))
  refine wpAny_nsSet1 (s := { s with toks := s.toks + 1 }) I.ns fun h' hn2 hs2 => ?_
  obtain ⟨oD, esD, epD, hoD, hdD, hcD⟩ := hn2.count (PySem.Within.cons name v hw)
  refine wpAny_bind (wpAny_lookBehind hoD (by rw [hdD]; exact pastItsLine_dict (Nat.le_trans hcD (by rw [List.length_cons]; omega))) ?_)
  exact wpAny_pure (h _ ⟨(hs2.2 _ (Ne.symm I.ne)).trans I.obj, hn2, I.ne⟩ hs2)

/-- C(..): the dict at the heap's end, the instance behind it; then its __init__ -/
theorem make_map {R : Result → Shared → Prop} {vs : List Value} {kw : List (Str × Value)} (X : K.In s.heap) (hm : PySem.W.makesIn K C = true)
    (hi : PySem.W.findIn K (.ref C) "__init__" = some (some (.ref f))) (hf : PySem.W.typeIn K (.ref f) = some (.type "function"))
    (h : codeAny (model prog w) (A.under (.builtin "type.__call__" ⟨.ref C :: vs, kw⟩)) (.call (.ref f) ⟨.ref (s.heap.objs.size + 1) :: vs, kw⟩) (PySem.W.InitBack (s.heap.objs.size + 1) R)
      { s with heap := (s.heap.push PySem.W.emptyDict).push (PySem.W.instObj C s.heap.objs.size) }) :
    codeAny (model prog w) A (.call (.ref C) ⟨vs, kw⟩) R s := by
  obtain ⟨hh, g, d, t, os⟩ := s
  exact PySem.W.make_core (PySem.W.makes_of X hm) (PySem.W.looks_findIn X hi) (fun self => PySem.W.bind_fn X self hf) (.inl rfl) h
/-- C() where there is no __init__ but object's -/
theorem make_map0 {R : Result → Shared → Prop} (X : K.In s.heap) (hm : PySem.W.makesIn K C = true)
    (hi : PySem.W.findIn K (.ref C) "__init__" = some (some (.builtin "object.__init__")))
    (hb : ∀ self, PySem.W.Looks (model prog w) s.heap (bindSpecial (.builtin "object.__init__") self) (.builtin "object.__init__", [self]))
    (h : codeAny (model prog w) (A.under (.builtin "type.__call__" ⟨[.ref C], []⟩)) (.call (.builtin "object.__init__") ⟨[.ref (s.heap.objs.size + 1)], []⟩) (PySem.W.InitBack (s.heap.objs.size + 1) R)
      { s with heap := (s.heap.push PySem.W.emptyDict).push (PySem.W.instObj C s.heap.objs.size) }) :
    codeAny (model prog w) A (.call (.ref C) ⟨[], []⟩) R s := by
  obtain ⟨hh, g, d, t, os⟩ := s
  exact PySem.W.make_core (PySem.W.makes_of X hm) (PySem.W.looks_findIn X hi) hb (.inr ⟨rfl, rfl⟩) h
end

/-! ### the attributes as a list of pairs -/
def putF (f : Str) (v : V) : List (Str × V) → List (Str × V)
  | [] => [(f, v)]
  | (g, x) :: r => if g = f then (g, v) :: r else (g, x) :: putF f v r
theorem lookup_putF (f g : Str) (v : V) : ∀ fs : List (Str × V), (putF f v fs).lookup g = if g = f then some v else fs.lookup g
  | [] => by
    show List.lookup g [(f, v)] = _
    by_cases h : g = f
    · have hb : (g == f) = true := beq_iff_eq.mpr h
      simp only [List.lookup, hb, if_pos h]
    · have hb : (g == f) = false := beq_eq_false_iff_ne.mpr h
      simp only [List.lookup, hb, if_neg h]
  | (k, x) :: r => by
    have ih := lookup_putF f g v r
    rw [show putF f v ((k, x) :: r) = (if k = f then (k, v) :: r else (k, x) :: putF f v r) from rfl]
    by_cases hk : k = f
    · rw [if_pos hk]
      by_cases h : g = k
      · have hb : (g == k) = true := beq_iff_eq.mpr h
        simp only [List.lookup, hb, if_pos (h.trans hk)]
      · have hb : (g == k) = false := beq_eq_false_iff_ne.mpr h
        simp only [List.lookup, hb, if_neg (fun e : g = f => h (e.trans hk.symm))]
    · rw [if_neg hk]
      by_cases h : g = k
      · have hb : (g == k) = true := beq_iff_eq.mpr h
        simp only [List.lookup, hb, if_neg (fun e : g = f => hk (h.symm.trans e))]
      · have hb : (g == k) = false := beq_eq_false_iff_ne.mpr h
        simp only [List.lookup, hb]
        exact ih
theorem keys_putF (f : Str) (v : V) : ∀ fs : List (Str × V), f ∈ (putF f v fs).map (·.1) ∧ ∀ g, g ∈ fs.map (·.1) → g ∈ (putF f v fs).map (·.1)
  | [] => ⟨by simp [putF], fun g h => by simp at h⟩
  | (k, x) :: r => by
    obtain ⟨i1, i2⟩ := keys_putF f v r
    rw [show putF f v ((k, x) :: r) = (if k = f then (k, v) :: r else (k, x) :: putF f v r) from rfl]
    by_cases hk : k = f
    · rw [if_pos hk]
      subst hk
      exact ⟨by simp, fun g h => by simpa using h⟩
    · rw [if_neg hk]
      refine ⟨?_, fun g h => ?_⟩
      · rw [List.map_cons]
        exact List.mem_cons_of_mem _ i1
      · rw [List.map_cons] at h ⊢
        rcases List.mem_cons.mp h with e | e
        · exact List.mem_cons.mpr (.inl e)
        · exact List.mem_cons_of_mem _ (i2 g e)
theorem length_putF (f : Str) (v : V) : ∀ fs : List (Str × V), (putF f v fs).length ≤ fs.length + 1
  | [] => by simp [putF]
  | (k, x) :: r => by
    have ih := length_putF f v r
    rw [show putF f v ((k, x) :: r) = (if k = f then (k, v) :: r else (k, x) :: putF f v r) from rfl]
    by_cases hk : k = f
    · rw [if_pos hk, List.length_cons, List.length_cons]; omega
    · rw [if_neg hk, List.length_cons, List.length_cons]; omega

theorem RelO.some_of {v : V} {o : Option Value} (r : RelO (some v) o) : ∃ u, o = some u ∧ RelV v u := by
  cases o with
  | none => exact (show False from r).elim
  | some u => exact ⟨u, rfl, r⟩
theorem RelO.none_of {o : Option Value} (r : RelO none o) : o = none := by
  cases o with
  | none => rfl
  | some u => exact (show False from r).elim
theorem handed_of {v : V} {u : Value} (r : RelV v u) : PySem.W.handedIn u = true := by
  cases v with
  | non => cases (show u = Value.none from r); rfl
  | bl b => cases (show u = Value.bool b from r); rfl
  | int i => obtain ⟨t, e⟩ := (show ∃ t, u = Value.int i t from r); cases e; rfl
  | str x => obtain ⟨t, e⟩ := (show ∃ t, u = Value.str x t from r); cases e; rfl
  | byt b => obtain ⟨t, e⟩ := (show ∃ t, u = Value.bytes b t from r); cases e; rfl
  | flt b => obtain ⟨t, e⟩ := (show ∃ t, u = Value.float b t from r); cases e; rfl
  | ref a => cases (show u = Value.ref a from r); rfl
  | ty n => cases (show u = Value.type n from r); rfl

section
variable {P : Program} {w : World} {H H' : Hp} {h h' : Heap} {a C dx : Addr} {fs fs' : List (Str × V)}
theorem ins_get (hok : HOk P w H h) (e : H a = some (.ins C dx fs)) : ∃ mA, ObjM h a dx C mA ∧ (∀ f, RelO (fs.lookup f) (mA f)) ∧ PySem.Within mA (fs.map (·.1)) ∧ fs.length ≤ 1000 ∧ H dx = some (.own a) := by
  obtain ⟨d, z, ne, ob, mA, n, r, q⟩ := (show ObjOk P w H h a (.ins C dx fs) from hok a _ e)
  exact ⟨mA, ⟨ob, n, ne⟩, r, q, z, d⟩
end

/-! ### what of the text a class must have -/
structure Cls (K : PySem.W.Frag) (C : Addr) : Prop where
  pg : PySem.W.plainGet K C Str.empty = true
  hd : PySem.W.hasDictIn K C = true
  po : PySem.W.plainOver K C = true
  sa : PySem.W.findIn K (.ref C) "__setattr__" = some (some (.builtin "object.__setattr__"))
theorem Cls.get {K : PySem.W.Frag} {C : Addr} (c : Cls K C) (f : Str) : PySem.W.plainGet K C f = true := c.pg
/-- no class of it has the name -/
def NoAttr (K : PySem.W.Frag) (C : Addr) (f : Str) : Prop := PySem.W.findIn K (.ref C) f = some none
theorem NoAttr.taker {K : PySem.W.Frag} {C : Addr} {f : Str} (n : NoAttr K C f) : PySem.W.takerIn K C f = some none := by
  unfold PySem.W.takerIn
  rw [show PySem.W.findIn K (.ref C) f = some none from n]
  rfl
/-- a constant of the class -/
structure Con (K : PySem.W.Frag) (C : Addr) (f : Str) (v : V) (u : Value) : Prop where
  at_ : PySem.W.findIn K (.ref C) f = some (some u)
  rel : RelV v u
  get : PySem.W.specialIn K u "__get__" = some none
  cp : PySem.W.copiedNames.contains f = false
/-- a method: a plain def of the class or of one above it -/
structure Meth (K : PySem.W.Frag) (C : Addr) (m : Str) (f : Addr) : Prop where
  at_ : PySem.W.findIn K (.ref C) m = some (some (.ref f))
  fn : PySem.W.isFn K (.ref f) = true
  kp : PySem.W.keepIn K (.ref f) = true

section
variable {X : Cx} {pins : List (Addr × Obj)} {σ : St} {H : Hp} {s : Shared} {a C dx : Addr} {fs : List (Str × V)} {f : Str} {v : V} {A : Around} {E : Value → Shared → Prop}

theorem getattr_ok {b : Bool} {Q : Value → Shared → Prop} (I : Inv X pins σ H s) (e : H a = some (.ins C dx fs)) (c : Cls X.K C) (n : NoAttr X.K C f) (l : fs.lookup f = some v)
    (h : ∀ u s', Inv X pins σ H s' → RelV v u → Q u s') : wpAny (model X.prog X.w) A (getAttr (.ref a) f b) Q E s := by
  obtain ⟨mA, O, r, _, _, _⟩ := ins_get I.hok e
  obtain ⟨u, hu, ru⟩ := RelO.some_of (v := v) (o := mA f) (by rw [← l]; exact r f)
  exact get_map I.kIn O (c.get f) c.hd n hu (handed_of ru) (h u _ (I.tok _) ru)

theorem getcon_ok {b : Bool} {u : Value} {Q : Value → Shared → Prop} (I : Inv X pins σ H s) (e : H a = some (.ins C dx fs)) (c : Cls X.K C) (k : Con X.K C f v u) (l : fs.lookup f = none)
    (h : ∀ s', Inv X pins σ H s' → Q u s') : wpAny (model X.prog X.w) A (getAttr (.ref a) f b) Q E s := by
  obtain ⟨mA, O, r, _, _, _⟩ := ins_get I.hok e
  have hn : mA f = none := RelO.none_of (by rw [← l]; exact r f)
  exact get_const I.kIn O (c.get f) c.hd k.at_ k.get k.cp hn (handed_of k.rel) (h _ (I.tok _))

theorem getmeth_ok {m : Str} {g : Addr} {pl : Sem Bool} {Q : Value × List Value → Shared → Prop} (I : Inv X pins σ H s) (e : H a = some (.ins C dx fs)) (c : Cls X.K C) (k : Meth X.K C m g) (l : fs.lookup m = none)
    (h : Q (.ref g, [.ref a]) s) : wpAny (model X.prog X.w) A (getMethod (.ref a) m pl) Q E s := by
  obtain ⟨mA, O, r, _, _, _⟩ := ins_get I.hok e
  have hn : mA m = none := RelO.none_of (by rw [← l]; exact r m)
  exact get_meth I.kIn O (c.get m) k.at_ k.fn hn h

theorem setattr_ok {y : V} {u : Value} {Q : Unit → Shared → Prop} (I : Inv X pins σ H s) (e : H a = some (.ins C dx fs)) (c : Cls X.K C) (n : NoAttr X.K C f) (hl : fs.length < 1000) (ry : RelV y u)
    (h : ∀ s', Inv X pins σ (upd H a (.ins C dx (putF f y fs))) s' → Q () s') : wpAny (model X.prog X.w) A (setAttr (.ref a) f u) Q E s := by
  obtain ⟨mA, O, r, wi, _, ho⟩ := ins_get I.hok e
  have hz : (fs.map (·.1)).length ≤ sizeLine := by rw [List.length_map, sizeLine_eq]; omega
  refine set_map I.kIn O c.sa c.po n.taker c.hd wi hz fun h' O' sb => h _ ?_
  have hd : ∃ o, h'.get? dx = some o := let ⟨o, _, _, e', _⟩ := O'.ns; ⟨o, e'⟩
  refine I.write (x := a) (e := dx) (by rw [e]; exact True.intro) (.inr ho) (fun b q hb z => (sb.2 b hb).trans z) hd ?_
  refine ⟨by rw [upd_ne O.ne]; exact ho, ?_, O.ne, O'.obj, _, O'.ns, fun g => ?_, fun g hg => ?_⟩
  · have := length_putF f y fs; omega
  · show RelO ((putF f y fs).lookup g) (if g = f then some u else mA g)
    rw [lookup_putF]
    by_cases q : g = f
    · rw [if_pos q, if_pos q]; exact ry
    · rw [if_neg q, if_neg q]; exact r g
  · by_cases q : g = f
    · rw [q]; exact (keys_putF f y fs).1
    · refine (keys_putF f y fs).2 g (wi g fun z => hg ?_)
      show (if g = f then some u else mA g) = none
      rw [if_neg q]; exact z

/-- a new instance, tracked, without attributes -/
theorem Inv.made (I : Inv X pins σ H s) : Inv X pins σ (upd (upd H s.heap.objs.size (.own (s.heap.objs.size + 1))) (s.heap.objs.size + 1) (.ins C s.heap.objs.size []))
    { s with heap := (s.heap.push PySem.W.emptyDict).push (PySem.W.instObj C s.heap.objs.size) } := by
  have e1 : (s.heap.push PySem.W.emptyDict).get? s.heap.objs.size = some PySem.W.emptyDict := Heap.get?_push_size s.heap rfl
  have e2 : ((s.heap.push PySem.W.emptyDict).push (PySem.W.instObj C s.heap.objs.size)).get? (s.heap.objs.size + 1) = some (PySem.W.instObj C s.heap.objs.size) := by
    have := Heap.get?_push_size (s.heap.push PySem.W.emptyDict) (o := PySem.W.instObj C s.heap.objs.size) rfl
    rwa [Heap.size_push] at this
  have e3 : (s.heap.push PySem.W.emptyDict).Ns s.heap.objs.size (fun _ => none) := ⟨PySem.W.emptyDict, #[], _, e1, rfl, (fun e he => absurd he (by simp)), fun _ => rfl⟩
  have I1 := I.laid (a := s.heap.objs.size) (o := .own (s.heap.objs.size + 1)) (h' := s.heap.push PySem.W.emptyDict) (t' := s.toks) (fun b u q => Heap.get?_push_of_some _ q) (Nat.le_refl _) ⟨_, e1⟩
  refine I1.laid (a := s.heap.objs.size + 1) (o := .ins C s.heap.objs.size []) (t' := s.toks) (fun b u q => Heap.get?_push_of_some _ q) (Nat.le_of_eq (Heap.size_push _ _)) ?_
  have ne : s.heap.objs.size ≠ s.heap.objs.size + 1 := Nat.ne_of_lt (Nat.lt_succ_self _)
  refine ⟨by rw [upd_ne ne, upd_same], Nat.zero_le _, ne, e2, fun _ => none, (Heap.Ns1.of_empty e3).at fun o q => Heap.get?_push_of_some _ q, fun _ => True.intro, fun y hy => absurd rfl hy⟩

/-- e.f where nothing but the object is asked: through attributeBase (super) and the last hold -/
theorem attr_of {prog : Program} {w : World} {env : Env} {e : Expr} {f : Str} {pos : Pos} {s : Shared} {Q : Value → Shared → Prop} (hb : attributeBase e f env (eval e env) = eval e env)
    (h : wpAny (model prog w) A (eval e env) (fun o s₁ => wpAny (model prog w) A (getAttr o f true) Q E s₁) E s) : wpAny (model prog w) A (eval (.Attribute e f pos) env) Q E s :=
  Attribute_any_ h (by rw [arm_eval_Attribute, hb])
end

/-! ### readings and rules -/
/-- e.f, an attribute of the instance -/
def tFld (K : PySem.W.Frag) (ta : TE) (f : Str) : TE := fun σ H Q => ta σ H fun x H1 => ∃ a C dx fs v, x = .ref a ∧ H1 a = some (.ins C dx fs) ∧ Cls K C ∧ NoAttr K C f ∧ fs.lookup f = some v ∧ Q v H1
/-- e.f, a constant of the class -/
def tCon (K : PySem.W.Frag) (ta : TE) (f : Str) : TE := fun σ H Q => ta σ H fun x H1 => ∃ a C dx fs v u, x = .ref a ∧ H1 a = some (.ins C dx fs) ∧ Cls K C ∧ Con K C f v u ∧ fs.lookup f = none ∧ Q v H1
/-- e.f = value -/
def sFld (K : PySem.W.Frag) (ta tv : TE) (f : Str) : TS := fun D σ H => tv σ H fun y H1 => ta σ H1 fun x H2 => ∃ a C dx fs, x = .ref a ∧ H2 a = some (.ins C dx fs) ∧ Cls K C ∧ NoAttr K C f ∧ fs.length < 1000 ∧
  D.nx σ (upd H2 a (.ins C dx (putF f y fs)))
/-- an augmented operator on two values -/
def InOp (X : Cx) (op : Operator) (rd : V → V → Hp → VK → Prop) : Prop :=
  ∀ (pins : List (Addr × Obj)) (s : Shared) (σ : St) (H : Hp) (x y : V) (u v : Value) (Q : VK), Inv X pins σ H s → RelV x u → RelV y v → rd x y H Q → wpAny (model X.prog X.w) X.A (inplaceOp op u v) (EP X pins σ Q) X.xe s
/-- e.f op= value -/
def sFldAug (K : PySem.W.Frag) (ta tv : TE) (rd : V → V → Hp → VK → Prop) (f : Str) : TS := fun D σ H => ta σ H fun x H1 => ∃ a C dx fs v, x = .ref a ∧ H1 a = some (.ins C dx fs) ∧ Cls K C ∧ NoAttr K C f ∧ fs.lookup f = some v ∧
  tv σ H1 fun y H2 => rd v y H2 fun z H3 => ∃ dx' fs', H3 a = some (.ins C dx' fs') ∧ fs'.length < 1000 ∧ D.nx σ (upd H3 a (.ins C dx' (putF f z fs')))

section
variable {X : Cx} {o e value : Expr} {f : Str} {pos pos' tpos : Pos} {ta tv : TE}
theorem pe_fld (he : PE X e ta) (hb : attributeBase e f X.env (eval e X.env) = eval e X.env) : PE X (.Attribute e f pos) (tFld X.K ta f) := by
  intro pins s σ H Q I h
  refine attr_of hb (thn (he pins s σ H _ I h) fun u s1 ⟨x, H1, I1, rx, a, C, dx, fs, v, ex, ea, c, n, l, q⟩ => ?_)
  subst ex
  obtain rfl : u = Value.ref a := rx
  exact getattr_ok I1 ea c n l fun u' s2 I2 ru => ⟨v, H1, I2, ru, q⟩
theorem pe_con (he : PE X e ta) (hb : attributeBase e f X.env (eval e X.env) = eval e X.env) : PE X (.Attribute e f pos) (tCon X.K ta f) := by
  intro pins s σ H Q I h
  refine attr_of hb (thn (he pins s σ H _ I h) fun u s1 ⟨x, H1, I1, rx, a, C, dx, fs, v, u0, ex, ea, c, k, l, q⟩ => ?_)
  subst ex
  obtain rfl : u = Value.ref a := rx
  exact getcon_ok I1 ea c k l fun s2 I2 => ⟨v, H1, I2, k.rel, q⟩
theorem ps_fld (ha : PE X o ta) (hv : PE X value tv) (hs : swapsWith value (some (.Attribute o f pos')) pos.line X.env = pure false) : PS X (.Assign [.Attribute o f pos'] value pos) (sFld X.K ta tv f) := by
  intro pins s σ H D I h
  refine plainObj_wpAny_Assign_Attribute (thn (hv pins s σ H _ I h) fun u s1 ⟨y, H1, I1, ry, q⟩ => thn (ha pins s1 σ H1 _ I1 q) fun ov s2 ⟨x, H2, I2, rx, a, C, dx, fs, ex, ea, c, n, l, q2⟩ => ?_) hs
  subst ex
  obtain rfl : ov = Value.ref a := rx
  exact setattr_ok I2 ea c n l ry fun s3 I3 => ⟨σ, _, I3, q2⟩
theorem ps_fldaug {op : Operator} {rd : V → V → Hp → VK → Prop} (ha : PE X o ta) (hv : PE X value tv) (hop : InOp X op rd) : PS X (.AugAssign (.Attribute o f tpos) op value pos) (sFldAug X.K ta tv rd f) := by
  intro pins s σ H D I h
  refine wpAny_AugAssign_AttributeAny (thn (ha pins s σ H _ I h) fun ov s1 ⟨x, H1, I1, rx, a, C, dx, fs, v, ex, ea, c, n, l, q⟩ => ?_)
  subst ex
  obtain rfl : ov = Value.ref a := rx
  refine getattr_ok I1 ea c n l fun u s2 I2 ru => thn (hv pins s2 σ H1 _ I2 q) fun w3 s3 ⟨y, H2, I3, ry, q3⟩ => thn (hop pins s3 σ H2 v y u w3 _ I3 ru ry q3) fun w4 s4 ⟨z, H3, I4, rz, dx', fs', ea', l', q4⟩ => ?_
  exact setattr_ok I4 ea' c n l' rz fun s5 I5 => ⟨σ, _, I5, q4⟩
def rAdd : V → V → Hp → VK → Prop := fun x y H Q => ∃ i j, x = .int i ∧ y = .int j ∧ Q (.int (i + j)) H
def rSub : V → V → Hp → VK → Prop := fun x y H Q => ∃ i j, x = .int i ∧ y = .int j ∧ Q (.int (i - j)) H
theorem in_add : InOp X .Add rAdd := by
  rintro pins s σ H x y u v Q I rx ry ⟨i, j, rfl, rfl, q⟩
  obtain ⟨t, rfl⟩ := (show ∃ t, u = Value.int i t from rx)
  obtain ⟨t', rfl⟩ := (show ∃ t', v = Value.int j t' from ry)
  exact PyProof.Rows.iadd_int ⟨.int (i + j), H, I.tok _, ⟨_, rfl⟩, q⟩
theorem in_sub : InOp X .Sub rSub := by
  rintro pins s σ H x y u v Q I rx ry ⟨i, j, rfl, rfl, q⟩
  obtain ⟨t, rfl⟩ := (show ∃ t, u = Value.int i t from rx)
  obtain ⟨t', rfl⟩ := (show ∃ t', v = Value.int j t' from ry)
  exact PyProof.Rows.isub_int ⟨.int (i - j), H, I.tok _, ⟨_, rfl⟩, q⟩

/-- what is between an instance and its method: the tree of a method call -/
theorem methcall_of {pl : Sem Bool} {m : Str} {apos : Pos} {args : List Expr} {pins : List (Addr × Obj)} {s : Shared} {σ : St} {H : Hp} {Q : Value → Shared → Prop} {te : TE} (he : PE X e te) (I : Inv X pins σ H s)
    (h : te σ H fun x H1 => ∃ a C dx fs g, x = .ref a ∧ H1 a = some (.ins C dx fs) ∧ Cls X.K C ∧ Meth X.K C m g ∧ fs.lookup m = none ∧
      ∀ s1, Inv X pins σ H1 s1 → wpAny (model X.prog X.w) X.A (callWith pos (.ref g) [.ref a] (backTo pos (starEach args X.env)) (backToKw pos (keywordEach [] X.env))) Q X.xe s1)
    (ht : eval (.Call (.Attribute e m apos) args [] pos) X.env = (do
      let ov ← eval e X.env
      standAt apos.atName
      let (f, first) ← holding [ov] (getMethod ov m pl)
      callWith pos f first (backTo pos (starEach args X.env)) (backToKw pos (keywordEach [] X.env)))) :
    wpAny (model X.prog X.w) X.A (eval (.Call (.Attribute e m apos) args [] pos) X.env) Q X.xe s := by
  refine PySem.W.methodCall_KW (pl := pl) (thn (he pins s σ H _ I h) fun u s1 ⟨x, H1, I1, rx, a, C, dx, fs, g, ex, ea, c, k, l, q⟩ => ?_) ht
  subst ex
  obtain rfl : u = Value.ref a := rx
  exact getmeth_ok I1 ea c k l (q s1 I1)
end

/-! ### isinstance -/
section
variable {X : Cx} {pins : List (Addr × Obj)} {σ : St} {H : Hp} {s : Shared} {A : Around} {E : Value → Shared → Prop} {Q : Value → Shared → Prop} {c : Value} {b : Bool}
/-- the type of a value, as the fragment's deciders take it; for an instance its class -/
inductive TyOf (K : PySem.W.Frag) (H : Hp) : V → Value → Prop where
  | non : TyOf K H .non (.type "NoneType")
  | bl (x : Bool) : TyOf K H (.bl x) (.type "bool")
  | int (i : Int) : TyOf K H (.int i) (.type "int")
  | str (x : Str) : TyOf K H (.str x) (.type "str")
  | flt (x : UInt64) : TyOf K H (.flt x) (.type "float")
  | lst {a : Addr} {xs : List V} (e : H a = some (.lst xs)) : TyOf K H (.ref a) (.type "list")
  | frz {a : Addr} {o : Obj} {xs : List V} (e : H a = some (.frz o (.lst xs))) : TyOf K H (.ref a) (.type "list")
  | tup {a : Addr} {xs : List V} (e : H a = some (.tup xs)) : TyOf K H (.ref a) (.type "tuple")
  | dK {a : Addr} {kvs : List (Key × V)} (e : H a = some (.dK kvs)) : TyOf K H (.ref a) (.type "dict")
  | dT {a : Addr} {kvs : List (List Key × V)} (e : H a = some (.dT kvs)) : TyOf K H (.ref a) (.type "dict")
  | ins {a C dx : Addr} {fs : List (Str × V)} (e : H a = some (.ins C dx fs)) (cl : Cls K C) (ha : PySem.W.findIn K (.ref C) "__class__" = some (some (.builtin "object.__class__")))
      (hn : PySem.W.specialIn K (.builtin "object.__class__") "__get__" = some (some (.builtin "getset_descriptor.__get__"))) (htk : PySem.W.takesIn K (.builtin "object.__class__") = some true)
      (hm : PySem.W.mroIn K C (.type "object") = some true) : TyOf K H (.ref a) (.ref C)
/-- isinstance(x, c) for one class c, a built-in or an own one: kitOne's answer -/
theorem isinst_ok {x : V} {u t : Value} (I : Inv X pins σ H s) (rx : RelV x u) (ty : TyOf X.K H x t) (e : PySem.W.kitOne X.K t c = some b) (h : ∀ tk, Q (.bool b) { s with toks := tk }) :
    wpAny (model X.prog X.w) A (call (.builtin "isinstance") [u, c]) Q E s := by
  cases ty with
  | non => cases (show u = Value.none from rx); exact PySem.W.kia_one PySem.W.kitx_none I.kIn True.intro e (fun z => nomatch z) h
  | bl y => cases (show u = Value.bool y from rx); exact PySem.W.kia_one PySem.W.kitx_bool I.kIn True.intro e (fun z => nomatch z) h
  | int i => obtain ⟨t, q⟩ := (show ∃ t, u = Value.int i t from rx); cases q; exact PySem.W.kia_one PySem.W.kitx_int I.kIn True.intro e (fun z => nomatch z) h
  | str y => obtain ⟨t, q⟩ := (show ∃ t, u = Value.str y t from rx); cases q; exact PySem.W.kia_one PySem.W.kitx_str I.kIn True.intro e (fun z => nomatch z) h
  | flt y => obtain ⟨t, q⟩ := (show ∃ t, u = Value.float y t from rx); cases q; exact PySem.W.kia_one PySem.W.kitx_float I.kIn True.intro e (fun z => nomatch z) h
  | @lst a xs ea =>
    cases (show u = Value.ref a from rx)
    obtain ⟨_, _, n, _, h1⟩ := (show ObjOk X.prog X.w H s.heap a (.lst xs) from I.hok a _ ea)
    exact PySem.W.kia_one PySem.W.kitx_list I.kIn ⟨_, h1, rfl⟩ e (fun z => nomatch z) h
  | @frz a ob xs ea =>
    cases (show u = Value.ref a from rx)
    obtain ⟨_, _, _, n, _, h1⟩ := (show ObjOk X.prog X.w H s.heap a (.frz ob (.lst xs)) from I.hok a _ ea)
    exact PySem.W.kia_one PySem.W.kitx_list I.kIn ⟨_, h1, rfl⟩ e (fun z => nomatch z) h
  | @tup a xs ea =>
    cases (show u = Value.ref a from rx)
    obtain ⟨_, _, _, p⟩ := (show ObjOk X.prog X.w H s.heap a (.tup xs) from I.hok a _ ea)
    obtain ⟨o, h1, h2, _⟩ := p
    exact PySem.W.kia_one PySem.W.kitx_tuple I.kIn ⟨o, h1, h2⟩ e (fun z => nomatch z) h
  | @dK a kvs ea =>
    cases (show u = Value.ref a from rx)
    obtain ⟨_, _, vs, _, p⟩ := (show ObjOk X.prog X.w H s.heap a (.dK kvs) from I.hok a _ ea)
    obtain ⟨o, es, ep, h1, h2, _⟩ := p
    exact PySem.W.kia_one PySem.W.kitx_dict I.kIn ⟨o, h1, h2.1⟩ e (fun z => nomatch z) h
  | @dT a kvs ea =>
    cases (show u = Value.ref a from rx)
    obtain ⟨_, _, xs, _, o, es, ep, h1, h2, _⟩ := (show ObjOk X.prog X.w H s.heap a (.dT kvs) from I.hok a _ ea)
    exact PySem.W.kia_one PySem.W.kitx_dict I.kIn ⟨o, h1, h2.1⟩ e (fun z => nomatch z) h
  | @ins a C dx fs ea cl ha hn htk hm =>
    cases (show u = Value.ref a from rx)
    obtain ⟨mA, O, _⟩ := ins_get I.hok ea
    obtain ⟨od, J, _⟩ := O.look
    exact PySem.W.kia_one (PySem.W.kitx_own (cl.get _) cl.hd ha hn htk hm) I.kIn J e (fun z => nomatch z) h
end
end L2

namespace L2
open PySem PySem.Spec PyProof.Rows

/-! ### room -/
structure Room (k : Nat) (A : Around) : Prop where
  hd : A.handled = none
  dp : A.depth + 3 * k + 5 < recursionLimit
  un : A.units + 16 * k + 200 < cLine
theorem Room.mono {j k : Nat} {A : Around} (r : Room k A) (h : j ≤ k) : Room j A := ⟨r.hd, by have := r.dp; omega, by have := r.un; omega⟩
theorem Room.deeper {k : Nat} {A : Around} (r : Room (k + 1) A) (env : Env) : Room k (A.deeper env) :=
  ⟨r.hd, by have := r.dp; show A.depth + 1 + 3 * k + 5 < _; omega, by have := r.un; show A.units + 3 + 16 * k + 200 < _; omega⟩
theorem Room.in1 {k : Nat} {A : Around} (r : Room (k + 1) A) : Room k A.in1 :=
  ⟨r.hd, by have := r.dp; show A.depth + 3 * k + 5 < _; omega, by have := r.un; show A.units + 1 + 16 * k + 200 < _; omega⟩
theorem make_depth {A : Around} {C : Addr} {us : List Value} {kw : List (Str × Value)} : (A.under (.builtin "type.__call__" ⟨.ref C :: us, kw⟩)).depth = A.depth + 1 := by
  first | rfl | simp [Around.under, Code.weight, Code.isCreation, Code.isGuard, Code.isCaller, Code.frames, Code.isFrame, guardIds]
theorem make_units {A : Around} {C : Addr} {us : List Value} {kw : List (Str × Value)} : (A.under (.builtin "type.__call__" ⟨.ref C :: us, kw⟩)).units = A.units + 1 := by
  first | rfl | simp [Around.under, Code.cUnits, Code.frames, Code.isFrame]
theorem Room.make {k : Nat} {A : Around} (r : Room (k + 1) A) (C : Addr) (us : List Value) (kw : List (Str × Value)) : Room k (A.under (.builtin "type.__call__" ⟨.ref C :: us, kw⟩)) :=
  ⟨r.hd, by have := r.dp; rw [make_depth]; omega, by have := r.un; rw [make_units]; omega⟩
theorem Room.depth {k : Nat} {A : Around} (r : Room k A) : A.depth < recursionLimit := by have := r.dp; omega
theorem Room.units {k : Nat} {A : Around} (r : Room k A) : A.units + 64 < cLine := by have := r.un; omega
theorem Room.units0 {k : Nat} {A : Around} (r : Room k A) : A.units < cLine := by have := r.un; omega

/-! ### argument lists and displays -/
def tNil : TA := fun _ H Q => Q [] H
def tCons (ta : TE) (tr : TA) : TA := fun σ H Q => ta σ H fun x H1 => tr σ H1 fun xs H2 => Q (x :: xs) H2
section
variable {X : Cx} {e : Expr} {es : List Expr} {te : TE} {t : TA} {pos : Pos}
theorem pa_nil : PA X [] tNil := fun _ _ _ _ H Q I h => Calls.spliced_nil ⟨[], H, I, .nil, h⟩
theorem pa_cons (ha : PE X e te) (hr : PA X es t) (hs : starEach (e :: es) X.env = (false, eval e X.env) :: starEach es X.env := by rfl) : PA X (e :: es) (tCons te t) := by
  intro pos pins s σ H Q I h
  rw [hs]
  show wpAny _ _ (spliced ((false, eval e X.env) :: backTo pos (starEach es X.env))) _ _ s
  refine Calls.spliced_cons (thn (ha pins s σ H _ I h) fun u s1 ⟨x, H1, I1, r1, q1⟩ => ?_)
  exact thn (hr pos pins s1 σ H1 _ I1 q1) fun us s2 ⟨xs, H2, I2, r2, q2⟩ => ⟨x :: xs, H2, I2, .cons r1 r2, q2⟩

/-- a tuple, a list of written items -/
def tTup (t : TA) : TE := fun σ H Q => t σ H fun xs H1 => xs.length ≤ sizeLine ∧ ∀ p, H1 p = none → Q (.ref p) (upd H1 p (.tup xs))
def tLst (t : TA) : TE := fun σ H Q => t σ H fun xs H1 => xs.length ≤ sizeLine ∧ ∀ p, H1 p = none → Q (.ref p) (upd H1 p (.lst xs))
theorem pe_tup {x1} (h : PA X es t) : PE X (.Tuple es x1 pos) (tTup t) := by
  intro pins s σ H Q I hq
  refine wpAny_Tuple_spliced (thn (h pos pins s σ H _ I hq) fun us s1 ⟨xs, H1, I1, r, z, q⟩ => ⟨by rw [← r.length]; exact z, ?_⟩)
  have hf : H1 s1.heap.objs.size = none := I1.hok.fresh (Nat.le_refl _)
  refine ⟨.ref s1.heap.objs.size, upd H1 s1.heap.objs.size (.tup xs), I1.laid (t' := s1.toks) (fun b u e => Heap.get?_push_of_some _ e) (Nat.le_refl _) ?_, rfl, q _ hf⟩
  exact ⟨z, us, r, ⟨_, Heap.get?_push_size _ rfl, rfl, _, rfl⟩⟩
theorem pe_lst (h : PA X es t) : PE X (.List es pos) (tLst t) := by
  intro pins s σ H Q I hq
  refine wpAny_List_spliced (thn (h pos pins s σ H _ I hq) fun us s1 ⟨xs, H1, I1, r, z, q⟩ => ⟨by rw [← r.length]; exact z, ?_⟩)
  have hf : H1 s1.heap.objs.size = none := I1.hok.fresh (Nat.le_refl _)
  refine ⟨.ref s1.heap.objs.size, upd H1 s1.heap.objs.size (.lst xs), I1.laid (t' := s1.toks) (fun b u e => Heap.get?_push_of_some _ e) (Nat.le_refl _) ?_, rfl, q _ hf⟩
  exact ⟨z, us, 0, r, Heap.get?_push_size _ rfl⟩
end

/-! ### what a def promises -/
/-- a def's promise: the bound arguments in the parameters' order, the heap, the wanted end, the wanted exception -/
abbrev Sp := List V → Hp → VK → XK → Prop
/-- how an exception lies behind a call (file 08 gives it): the callers' frames, abstract heap and state ahead of the call, the wish, the exception, the state -/
abbrev CXT := List Env → Hp → Shared → XK → Value → Shared → Prop

/-- the state at a call -/
structure Env0 (P : Program) (w : World) (K : PySem.W.Frag) (mg : Str → Option Value) (base : Heap) (A : Around) (outer : List Env) (s : Shared) (H : Hp) : Prop where
  frames : A.frames = some outer
  mod : Mod K mg base
  bs : ∀ b o, base.get? b = some o → s.heap.get? b = some o ∧ H b = none
  bsz : base.objs.size ≤ s.heap.objs.size
  funs : s.heap.FunFrames base outer
  frf : ∀ b ∈ frs outer, H b = none
  hok : HOk P w H s.heap
  bare : AllBare s.gens
/-- a call's end -/
def CE (outer : List Env) (P : Program) (w : World) (H : Hp) (s : Shared) (Q : VK) (u : Value) (s' : Shared) : Prop :=
  ∃ v H', s'.os = s.os ∧ AllBare s'.gens ∧ Un (frs outer) [] H H' s.heap s'.heap ∧ HOk P w H' s'.heap ∧ RelV v u ∧ Q v H'
def CR (CX : CXT) (outer : List Env) (P : Program) (w : World) (H : Hp) (s : Shared) (Q : VK) (E : XK) (r : Result) (s' : Shared) : Prop :=
  match r with
  | .ok (.ret u) => CE outer P w H s Q u s'
  | .ok _ => False
  | .error e => CX outer H s E e s'
structure FnOk (P : Program) (w : World) (K : PySem.W.Frag) (mg : Str → Option Value) (base : Heap) (CX : CXT) (k : Nat) (f : Addr) (fd : FuncData) (ps : List Str) (sp : Sp) : Prop where
  len : ∀ vs H Q E, sp vs H Q E → vs.length = ps.length
  run : ∀ (A : Around) (outer : List Env) (s : Shared) (H : Hp) (args : Args) (us : List Value) (vs : List V) (Q : VK) (E : XK), Room k A → Env0 P w K mg base A outer s H → BindsTo s fd args (ps.zip us) → Vals vs us → sp vs H Q E →
    codeAny (model P w) A (.call (.ref f) args) (CR CX outer P w H s Q E) s
theorem FnOk.mono {P : Program} {w : World} {K : PySem.W.Frag} {mg : Str → Option Value} {base : Heap} {CX : CXT} {j k : Nat} {f : Addr} {fd : FuncData} {ps : List Str} {sp : Sp} (F : FnOk P w K mg base CX j f fd ps sp) (h : j ≤ k) :
    FnOk P w K mg base CX k f fd ps sp := ⟨F.len, fun A outer s H args us vs Q E hr => F.run A outer s H args us vs Q E (hr.mono h)⟩
/-- a weaker promise -/
theorem FnOk.imp {P : Program} {w : World} {K : PySem.W.Frag} {mg : Str → Option Value} {base : Heap} {CX : CXT} {k : Nat} {f : Addr} {fd : FuncData} {ps : List Str} {sp sp' : Sp} (F : FnOk P w K mg base CX k f fd ps sp)
    (h : ∀ vs H Q E, sp' vs H Q E → sp vs H Q E) : FnOk P w K mg base CX k f fd ps sp' :=
  ⟨fun vs H Q E q => F.len vs H Q E (h _ _ _ _ q), fun A outer s H args us vs Q E hr he hb hv hs => F.run A outer s H args us vs Q E hr he hb hv (h _ _ _ _ hs)⟩

theorem Env0.make {P : Program} {w : World} {K : PySem.W.Frag} {mg : Str → Option Value} {base : Heap} {A : Around} {outer : List Env} {s : Shared} {H : Hp} (e : Env0 P w K mg base A outer s H) (C : Addr) (us : List Value) (kw : List (Str × Value)) :
    Env0 P w K mg base (A.under (.builtin "type.__call__" ⟨.ref C :: us, kw⟩)) outer s H := ⟨by first | exact e.frames | (simpa [Around.under, Code.envs, Code.isFrame, pushEnvs] using e.frames), e.mod, e.bs, e.bsz, e.funs, e.frf, e.hok, e.bare⟩
theorem Env0.in1 {P : Program} {w : World} {K : PySem.W.Frag} {mg : Str → Option Value} {base : Heap} {A : Around} {outer : List Env} {s : Shared} {H : Hp} (e : Env0 P w K mg base A outer s H) :
    Env0 P w K mg base A.in1 outer s H := ⟨e.frames, e.mod, e.bs, e.bsz, e.funs, e.frf, e.hok, e.bare⟩

section
variable {X : Cx} {pins : List (Addr × Obj)} {σ : St} {H : Hp} {s s' : Shared}
/-- from a body: what a callee wants -/
theorem Inv.env0 (I : Inv X pins σ H s) : Env0 X.prog X.w X.K X.mg X.base X.A X.stack s H :=
  ⟨I.ok.frames, I.ok.mod, I.bs, Nat.le_trans I.ok.bsz I.sz, I.stack, I.stkFree, I.hok, I.bare⟩
/-- behind a call -/
theorem Inv.after {Q : VK} {u : Value} (I : Inv X pins σ H s) (h : CE X.stack X.prog X.w H s Q u s') : EP X pins σ Q u s' := by
  obtain ⟨v, H', os, bare, un, hok, r, q⟩ := h
  obtain ⟨hh, g, d, t, os'⟩ := s'
  obtain rfl : os' = s.os := os
  exact ⟨v, H', I.call (h' := hh) (g' := g) (d' := d) (t' := t) (ch := []) un hok bare (fun b z => absurd z (by simp)), r, q⟩
end

/-! ### calls -/
/-- f(..): the written arguments, then the defaults dvs; E: what is wanted of an exception -/
def tCall (sp : Sp) (dvs : List V) (E : XK) (t : TA) : TE := fun σ H Q => t σ H fun vs H1 => sp (vs ++ dvs) H1 Q E
/-- o.m(..) of an instance of the class at C -/
def tMeth (C : Addr) (m : Str) (sp : Sp) (dvs : List V) (E : XK) (ta : TE) (t : TA) : TE := fun σ H Q => ta σ H fun x H1 => ∃ a dx fs, x = .ref a ∧ H1 a = some (.ins C dx fs) ∧ fs.lookup m = none ∧
  t σ H1 fun vs H2 => sp (x :: (vs ++ dvs)) H2 Q E
/-- C(..): a new instance and its dict, then __init__ -/
def tMake (C : Addr) (sp : Sp) (dvs : List V) (E : XK) (t : TA) : TE := fun σ H Q => t σ H fun vs H1 => ∀ x dx, H1 x = none → H1 dx = none → dx ≠ x →
  sp (.ref x :: (vs ++ dvs)) (upd (upd H1 dx (.own x)) x (.ins C dx [])) (fun v H2 => v = .non ∧ Q (.ref x) H2) E

/-- how the parameters are bound: us the positional arguments, kw the keywords' values by name, ds the defaults that fill up -/
def Binds (K : PySem.W.Frag) (fd : FuncData) (ps : List Str) (ds : List Value) : Prop :=
  ∀ (s : Shared) (us : List Value), K.In s.heap → (us ++ ds).length = ps.length → BindsTo s fd ⟨us, []⟩ (ps.zip (us ++ ds))
/-- every parameter is given -/
theorem Binds.all {K : PySem.W.Frag} {fd : FuncData} {ps : List Str} (h : ∀ us : List Value, us.length = ps.length → bindArgs fd ⟨us, []⟩ = pure (ps.zip us)) : Binds K fd ps [] := fun s us _ hl => by
  rw [List.append_nil] at hl ⊢
  exact .of_eq (h us hl)

/-- an exception of a callee reaches what this body wants of exceptions -/
def Passes (CX : CXT) (X : Cx) (E : XK) : Prop := ∀ (pins : List (Addr × Obj)) (σ : St) (H : Hp) (s : Shared) (e : Value) (s' : Shared), Inv X pins σ H s → CX X.stack H s E e s' → X.xe e s'

section
variable {X : Cx} {CX : CXT} {k : Nat} {f C : Addr} {fd : FuncData} {ps : List Str} {sp : Sp} {dvs : List V} {ds : List Value} {E : XK} {x m : Str} {p pos apos : Pos} {e o : Expr} {es : List Expr} {ta : TE} {t : TA}

/-- the callee runs -/
theorem run_fn {pins : List (Addr × Obj)} {σ : St} {H : Hp} {s : Shared} {Q : VK} {us : List Value} {vs : List V} (F : FnOk X.prog X.w X.K X.mg X.base CX k f fd ps sp) (hr : Room k X.A) (hb : Binds X.K fd ps ds) (hd : Vals dvs ds) (hx : Passes CX X E)
    (I : Inv X pins σ H s) (r : Vals vs us) (h : sp (vs ++ dvs) H Q E) : wpAny (model X.prog X.w) X.A (call (.ref f) us) (EP X pins σ Q) X.xe s := by
  have r2 : Vals (vs ++ dvs) (us ++ ds) := r.append hd
  have hl : (us ++ ds).length = ps.length := by rw [← r2.length]; exact F.len _ _ _ _ h
  refine wpAny_call (codeAny_mono (F.run X.A X.stack s H ⟨us, []⟩ (us ++ ds) (vs ++ dvs) Q E hr I.env0 (hb s us I.kIn hl) r2 h) fun r s' hq => ?_)
  cases r with
  | error e => exact hx pins σ H s e s' I hq
  | ok fl =>
    cases fl with
    | ret u => exact I.after hq
    | next => exact False.elim hq
    | brk => exact False.elim hq
    | cont => exact False.elim hq

theorem pe_call (F : FnOk X.prog X.w X.K X.mg X.base CX k f fd ps sp) (hr : Room k X.A) (hg : Gl X x) (hm : X.mg x = some (.ref f)) (hk : PySem.W.keepIn X.K (.ref f) = true) (hb : Binds X.K fd ps ds) (hd : Vals dvs ds) (hx : Passes CX X E)
    (ha : PA X (e :: es) t) (hdb : (x == ("__debug__" : Str)) = false := by decide) (he : starEach (e :: es) X.env = (false, eval e X.env) :: starEach es X.env := by rfl) (hpl : (backTo pos (starEach es X.env)).any (·.1) = false := by rfl) :
    PE X (.Call (.Name x p) (e :: es) [] pos) (tCall sp dvs E t) := by
  intro pins s σ H Q I h
  refine wpAny_Call_Name_kw (ld_glob I hg hm ?_ hdb)
  refine PySem.W.callWith_K (h₀ := X.base) I.ok.mod.kin hk (thn (ha pos pins s σ H _ I h) fun us s1 ⟨vs, H1, I1, r, q⟩ => ⟨I1.kIn, ?_⟩) he hpl
  exact run_fn F hr hb hd hx I1 r q
theorem pe_call0 (F : FnOk X.prog X.w X.K X.mg X.base CX k f fd ps sp) (hr : Room k X.A) (hg : Gl X x) (hm : X.mg x = some (.ref f)) (hk : PySem.W.keepIn X.K (.ref f) = true) (hb : Binds X.K fd ps ds) (hd : Vals dvs ds) (hx : Passes CX X E)
    (hdb : (x == ("__debug__" : Str)) = false := by decide) : PE X (.Call (.Name x p) [] [] pos) (tCall sp dvs E tNil) := by
  intro pins s σ H Q I h
  refine wpAny_Call_Name_kw (ld_glob I hg hm ?_ hdb)
  exact PySem.W.callWith_K0 I.kIn hk (run_fn (us := []) F hr hb hd hx I .nil h)

/-- o.m(e, ..) -/
theorem pe_meth {pl : Sem Bool} (he : PE X o ta) (c : Cls X.K C) (hm : Meth X.K C m f) (F : FnOk X.prog X.w X.K X.mg X.base CX k f fd ps sp) (hr : Room k X.A) (hb : Binds X.K fd ps ds) (hd : Vals dvs ds) (hx : Passes CX X E) (ha : PA X (e :: es) t)
    (hst : starEach (e :: es) X.env = (false, eval e X.env) :: starEach es X.env := by rfl) (hpl : (backTo pos (starEach es X.env)).any (·.1) = false := by rfl)
    (ht : eval (.Call (.Attribute o m apos) (e :: es) [] pos) X.env = (do
      let ov ← eval o X.env
      standAt apos.atName
      let (f, first) ← holding [ov] (getMethod ov m pl)
      callWith pos f first (backTo pos (starEach (e :: es) X.env)) (backToKw pos (keywordEach [] X.env))) := by rfl) :
    PE X (.Call (.Attribute o m apos) (e :: es) [] pos) (tMeth C m sp dvs E ta t) := by
  intro pins s σ H Q I h
  refine PySem.W.methodCall_KW (pl := pl) (thn (he pins s σ H _ I h) fun u s1 ⟨x, H1, I1, rx, a, dx, fs, ex, ea, l, q⟩ => ?_) ht
  subst ex
  obtain rfl : u = Value.ref a := rx
  refine getmeth_ok I1 ea c hm l ?_
  refine PySem.W.callWith_K (first := [.ref a]) (h₀ := X.base) I.ok.mod.kin hm.kp (thn (ha pos pins s1 σ H1 _ I1 q) fun us s2 ⟨vs, H2, I2, r, q2⟩ => ⟨I2.kIn, ?_⟩) hst hpl
  exact run_fn (us := .ref a :: us) (vs := .ref a :: vs) F hr hb hd hx I2 (.cons rfl r) q2
/-- o.m() -/
theorem pe_meth0 {pl : Sem Bool} (he : PE X o ta) (c : Cls X.K C) (hm : Meth X.K C m f) (F : FnOk X.prog X.w X.K X.mg X.base CX k f fd ps sp) (hr : Room k X.A) (hb : Binds X.K fd ps ds) (hd : Vals dvs ds) (hx : Passes CX X E)
    (ht : eval (.Call (.Attribute o m apos) [] [] pos) X.env = (do
      let ov ← eval o X.env
      standAt apos.atName
      let (f, first) ← holding [ov] (getMethod ov m pl)
      callWith pos f first (backTo pos (starEach [] X.env)) (backToKw pos (keywordEach [] X.env))) := by rfl) :
    PE X (.Call (.Attribute o m apos) [] [] pos) (tMeth C m sp dvs E ta tNil) := by
  intro pins s σ H Q I h
  refine PySem.W.methodCall_KW (pl := pl) (thn (he pins s σ H _ I h) fun u s1 ⟨x, H1, I1, rx, a, dx, fs, ex, ea, l, q⟩ => ?_) ht
  subst ex
  obtain rfl : u = Value.ref a := rx
  refine getmeth_ok I1 ea c hm l ?_
  exact PySem.W.callWith_K0 (first := [.ref a]) I1.kIn hm.kp (run_fn (us := [.ref a]) (vs := [.ref a]) F hr hb hd hx I1 (.cons rfl .nil) q)

/-- what a class must have to be made -/
structure Mk (K : PySem.W.Frag) (C f : Addr) : Prop where
  makes : PySem.W.makesIn K C = true
  init : PySem.W.findIn K (.ref C) "__init__" = some (some (.ref f))
  fn : PySem.W.isFn K (.ref f) = true
  kp : PySem.W.keepIn K (.ref C) = true

theorem run_make {pins : List (Addr × Obj)} {σ : St} {H : Hp} {s : Shared} {Q : VK} {us : List Value} {vs : List V} (M : Mk X.K C f) (F : FnOk X.prog X.w X.K X.mg X.base CX k f fd ps sp) (hr : Room (k + 1) X.A) (hb : Binds X.K fd ps ds) (hd : Vals dvs ds)
    (hx : Passes CX X E) (I : Inv X pins σ H s) (r : Vals vs us)
    (h : ∀ x dx, H x = none → H dx = none → dx ≠ x → sp (.ref x :: (vs ++ dvs)) (upd (upd H dx (.own x)) x (.ins C dx [])) (fun v H2 => v = .non ∧ Q (.ref x) H2) E) :
    wpAny (model X.prog X.w) X.A (call (.ref C) us) (EP X pins σ Q) X.xe s := by
  have hq := h (s.heap.objs.size + 1) s.heap.objs.size (I.hok.fresh (Nat.le_succ _)) (I.hok.fresh (Nat.le_refl _)) (Nat.ne_of_lt (Nat.lt_succ_self _))
  have I2 := Inv.made (C := C) I
  have r2 : Vals (V.ref (s.heap.objs.size + 1) :: (vs ++ dvs)) (Value.ref (s.heap.objs.size + 1) :: (us ++ ds)) := .cons rfl (r.append hd)
  have hl : (Value.ref (s.heap.objs.size + 1) :: us ++ ds).length = ps.length := by
    have e := r2.length
    rw [F.len _ _ _ _ hq] at e
    exact e.symm
  refine wpAny_call (make_map (f := f) I.kIn M.makes M.init (beq_iff_eq.mp M.fn) (codeAny_mono (F.run _ X.stack _ _ ⟨Value.ref (s.heap.objs.size + 1) :: us, []⟩ (Value.ref (s.heap.objs.size + 1) :: (us ++ ds)) _ _ E (hr.make C us [])
    (I2.env0.make C us []) (hb _ (Value.ref (s.heap.objs.size + 1) :: us) I2.kIn hl) r2 hq) fun r s' hq' => ?_))
  cases r with
  | error e => exact hx pins σ _ _ e s' I2 hq'
  | ok fl =>
    cases fl with
    | ret u =>
      obtain ⟨v, H', I3, rv, ev, q3⟩ := I2.after hq'
      subst ev
      exact ⟨rv, ⟨V.ref (s.heap.objs.size + 1), H', I3, rfl, q3⟩⟩
    | next => exact False.elim hq'
    | brk => exact False.elim hq'
    | cont => exact False.elim hq'
theorem pe_make (M : Mk X.K C f) (F : FnOk X.prog X.w X.K X.mg X.base CX k f fd ps sp) (hr : Room (k + 1) X.A) (hg : Gl X x) (hm : X.mg x = some (.ref C)) (hb : Binds X.K fd ps ds) (hd : Vals dvs ds) (hx : Passes CX X E)
    (ha : PA X (e :: es) t) (hdb : (x == ("__debug__" : Str)) = false := by decide) (he : starEach (e :: es) X.env = (false, eval e X.env) :: starEach es X.env := by rfl) (hpl : (backTo pos (starEach es X.env)).any (·.1) = false := by rfl) :
    PE X (.Call (.Name x p) (e :: es) [] pos) (tMake C sp dvs E t) := by
  intro pins s σ H Q I h
  refine wpAny_Call_Name_kw (ld_glob I hg hm ?_ hdb)
  refine PySem.W.callWith_K (h₀ := X.base) I.ok.mod.kin M.kp (thn (ha pos pins s σ H _ I h) fun us s1 ⟨vs, H1, I1, r, q⟩ => ⟨I1.kIn, ?_⟩) he hpl
  exact run_make M F hr hb hd hx I1 r q
theorem pe_make0 (M : Mk X.K C f) (F : FnOk X.prog X.w X.K X.mg X.base CX k f fd ps sp) (hr : Room (k + 1) X.A) (hg : Gl X x) (hm : X.mg x = some (.ref C)) (hb : Binds X.K fd ps ds) (hd : Vals dvs ds) (hx : Passes CX X E)
    (hdb : (x == ("__debug__" : Str)) = false := by decide) : PE X (.Call (.Name x p) [] [] pos) (tMake C sp dvs E tNil) := by
  intro pins s σ H Q I h
  refine wpAny_Call_Name_kw (ld_glob I hg hm ?_ hdb)
  exact PySem.W.callWith_K0 I.kIn M.kp (run_make (us := []) M F hr hb hd hx I .nil h)
end

/-! ### keywords -/
/-- the values of the keywords, from the left -/
def PK (X : Cx) (kws : List Keyword) (t : TA) : Prop :=
  ∀ (pos : Pos) (pins : List (Addr × Obj)) (s : Shared) (σ : St) (H : Hp) (Q : List V → Hp → Prop), Inv X pins σ H s → t σ H Q → wpAny (model X.prog X.w) X.A (evalAll ((backToKw pos (keywordEach kws X.env)).map (·.2))) (AP X pins σ Q) X.xe s
section
variable {X : Cx} {CX : CXT} {k : Nat} {f C : Addr} {fd : FuncData} {ps ks : List Str} {sp : Sp} {E : XK} {x m : Str} {p pos apos kpos : Pos} {e o : Expr} {es : List Expr} {kws : List Keyword} {te ta : TE} {t tk : TA} {nm : Option Str}
theorem pk_nil : PK X [] tNil := fun _ _ _ _ H Q I h => wpAny_evalAll_nil ⟨[], H, I, .nil, h⟩
theorem pk_cons (ha : PE X e te) (hr : PK X kws t) : PK X (⟨nm, e, kpos⟩ :: kws) (tCons te t) := by
  intro pos pins s σ H Q I h
  show wpAny _ _ (evalAll ((do let v ← eval e X.env; standAt pos; pure v) :: (backToKw pos (keywordEach kws X.env)).map (·.2))) _ _ s
  refine wpAny_evalAll_cons (wpAny_bind (thn (ha pins s σ H _ I h) fun u s1 ⟨x, H1, I1, r1, q1⟩ => wpAny_bind (wpAny_standAt (wpAny_pure ?_))))
  exact thn (hr pos pins s1 σ H1 _ I1 q1) fun us s2 ⟨xs, H2, I2, r2, q2⟩ => ⟨x :: xs, H2, I2, .cons r1 r2, q2⟩

/-- how a call with keywords binds: g puts the positional values us and the keywords' values ws (names ks) in the parameters' order, defaults among them -/
structure KBinds (K : PySem.W.Frag) (fd : FuncData) (ps ks : List Str) (g : List Value → List Value → List Value) (gV : List V → List V → List V) : Prop where
  to : ∀ (s : Shared) (us ws : List Value), K.In s.heap → (g us ws).length = ps.length → BindsTo s fd ⟨us, ks.zip ws⟩ (ps.zip (g us ws))
  rel : ∀ {vs : List V} {us : List Value} {zs : List V} {ws : List Value}, Vals vs us → Vals zs ws → Vals (gV vs zs) (g us ws)
def tCallK (sp : Sp) (gV : List V → List V → List V) (E : XK) (t tk : TA) : TE := fun σ H Q => t σ H fun vs H1 => tk σ H1 fun zs H2 => sp (gV vs zs) H2 Q E
variable {g : List Value → List Value → List Value} {gV : List V → List V → List V}
theorem run_fnk {pins : List (Addr × Obj)} {σ : St} {H : Hp} {s : Shared} {Q : VK} {us ws : List Value} {vs zs : List V} (F : FnOk X.prog X.w X.K X.mg X.base CX k f fd ps sp) (hr : Room k X.A) (hb : KBinds X.K fd ps ks g gV) (hx : Passes CX X E)
    (I : Inv X pins σ H s) (r : Vals vs us) (rz : Vals zs ws) (h : sp (gV vs zs) H Q E) : wpAny (model X.prog X.w) X.A (call (.ref f) us (ks.zip ws)) (EP X pins σ Q) X.xe s := by
  have r2 := hb.rel r rz
  have hl : (g us ws).length = ps.length := by rw [← r2.length]; exact F.len _ _ _ _ h
  refine wpAny_call (codeAny_mono (F.run X.A X.stack s H ⟨us, ks.zip ws⟩ (g us ws) (gV vs zs) Q E hr I.env0 (hb.to s us ws I.kIn hl) r2 h) fun r s' hq => ?_)
  cases r with
  | error e => exact hx pins σ H s e s' I hq
  | ok fl =>
    cases fl with
    | ret u => exact I.after hq
    | next => exact False.elim hq
    | brk => exact False.elim hq
    | cont => exact False.elim hq
/-- f(e, .., k = v, ..) -/
theorem pe_callK (F : FnOk X.prog X.w X.K X.mg X.base CX k f fd ps sp) (hr : Room k X.A) (hg : Gl X x) (hm : X.mg x = some (.ref f)) (hk : PySem.W.keepIn X.K (.ref f) = true) (hb : KBinds X.K fd ps ks g gV) (hx : Passes CX X E)
    (ha : PA X (e :: es) t) (hkw : PK X kws tk) (hall : (backToKw pos (keywordEach kws X.env)).all (·.1.isSome) = true := by rfl) (hks : (backToKw pos (keywordEach kws X.env)).filterMap (·.1) = ks := by rfl)
    (hdb : (x == ("__debug__" : Str)) = false := by decide) (he : starEach (e :: es) X.env = (false, eval e X.env) :: starEach es X.env := by rfl)
    (hpl : ((backTo pos (starEach (e :: es) X.env)).any (·.1) || (backToKw pos (keywordEach kws X.env)).any (·.1.isNone)) = false := by rfl) :
    PE X (.Call (.Name x p) (e :: es) kws pos) (tCallK sp gV E t tk) := by
  intro pins s σ H Q I h
  refine wpAny_Call_Name_kw (ld_glob I hg hm ?_ hdb)
  refine PySem.W.callWith_KW (h₀ := X.base) I.ok.mod.kin hk hall (thn (ha pos pins s σ H _ I h) fun us s1 ⟨vs, H1, I1, r, q⟩ => ?_) hpl he
  refine thn (hkw pos pins s1 σ H1 _ I1 q) fun ws s2 ⟨zs, H2, I2, rz, q2⟩ => ⟨I2.kIn, ?_⟩
  rw [hks]
  exact run_fnk F hr hb hx I2 r rz q2
end

/-! ### a def's body keeps its promise -/
/-- names: the parameters first -/
structure FnScope (N P : List Str) (sc : Scope) : Prop where
  kind : sc.kind = .function
  co : sc.isCoroutine = false
  gen : sc.isGenerator = false
  nd : N.Nodup
  pre : N.take P.length = P
  par : ∀ x ∈ P, sc.names.lookup x = some .local ∨ sc.names.lookup x = some .cell
  nofree : ∀ y ∈ sc.names, y.2 ≠ .free

theorem bindL_out {kindOf : Str → Option NameKind} {x : Str} : ∀ {binds : List (Str × Value)} {m : Str → Option Value}, (∀ v, (x, v) ∉ binds) → bindL kindOf binds m x = m x
  | [], _, _ => rfl
  | (n, v) :: r, m, h => by
    unfold bindL
    rw [bindL_out fun w hw => h w (List.mem_cons_of_mem _ hw)]
    split
    · have : x ≠ n := by rintro rfl; exact h v List.mem_cons_self
      simp [this]
    · rfl
theorem bindC_out {kindOf : Str → Option NameKind} {x : Str} : ∀ {binds : List (Str × Value)} {m : Str → Option Value}, (∀ v, (x, v) ∉ binds) → bindC kindOf binds m x = m x
  | [], _, _ => rfl
  | (n, v) :: r, m, h => by
    unfold bindC
    rw [bindC_out fun w hw => h w (List.mem_cons_of_mem _ hw)]
    split
    · rfl
    · have : x ≠ n := by rintro rfl; exact h v List.mem_cons_self
      simp [this]
theorem bindL_get {kindOf : Str → Option NameKind} {x : Str} {v : Value} : ∀ {P : List Str} {vs : List Value} {i : Nat} {m : Str → Option Value}, P.Nodup → P[i]? = some x → vs[i]? = some v → kindOf x = some .local →
    bindL kindOf (P.zip vs) m x = some v
  | [], _, _, _, _, h, _, _ => by simp at h
  | _ :: _, [], _, _, _, _, h, _ => by simp at h
  | p :: P, w :: vs, 0, m, nd, h1, h2, hk => by
    simp at h1 h2; subst h1; subst h2
    show bindL kindOf ((p, w) :: P.zip vs) m p = _
    unfold bindL
    rw [bindL_out fun v hv => (List.nodup_cons.mp nd).1 (List.of_mem_zip hv).1, if_pos hk]
    simp
  | p :: P, w :: vs, i + 1, m, nd, h1, h2, hk => by
    show bindL kindOf ((p, w) :: P.zip vs) m x = _
    unfold bindL
    exact bindL_get (i := i) (List.nodup_cons.mp nd).2 (by simpa using h1) (by simpa using h2) hk
theorem bindC_get {kindOf : Str → Option NameKind} {x : Str} {v : Value} : ∀ {P : List Str} {vs : List Value} {i : Nat} {m : Str → Option Value}, P.Nodup → P[i]? = some x → vs[i]? = some v → kindOf x ≠ some .local →
    bindC kindOf (P.zip vs) m x = some v
  | [], _, _, _, _, h, _, _ => by simp at h
  | _ :: _, [], _, _, _, _, h, _ => by simp at h
  | p :: P, w :: vs, 0, m, nd, h1, h2, hk => by
    simp at h1 h2; subst h1; subst h2
    show bindC kindOf ((p, w) :: P.zip vs) m p = _
    unfold bindC
    rw [bindC_out fun v hv => (List.nodup_cons.mp nd).1 (List.of_mem_zip hv).1, if_neg hk]
    simp
  | p :: P, w :: vs, i + 1, m, nd, h1, h2, hk => by
    show bindC kindOf ((p, w) :: P.zip vs) m x = _
    unfold bindC
    exact bindC_get (i := i) (List.nodup_cons.mp nd).2 (by simpa using h1) (by simpa using h2) hk

/-- the names' values at the entry -/
def start (N : List Str) (vs : List V) : St := vs.map some ++ List.replicate (N.length - vs.length) none

/-- the context of a def's body, at its entry; an exception leaves the frame, then lies as CX says -/
def cxOf (CX : CXT) (P : Program) (w : World) (K : PySem.W.Frag) (mg : Str → Option Value) (base : Heap) (N : List Str) (qual : Str) (scope : Scope) (f : Addr) (cd : Value) (A : Around) (outer : List Env) (s : Shared) (H : Hp) (E : XK) : Cx where
  prog := P
  w := w
  K := K
  mg := mg
  base := base
  A := A.deeper (envOfC qual scope s.heap.objs.size f cd)
  N := N
  s₀ := s
  H₀ := H
  env := envOfC qual scope s.heap.objs.size f cd
  outer := outer
  stack := envOfC qual scope s.heap.objs.size f cd :: outer
  ex := []
  calm := true
  fn := fun _ => true
  pn := []
  xe := fun e s' => wpAny (model P w) (A.deeper (envOfC qual scope s.heap.objs.size f cd)) (leaving (envOfC qual scope s.heap.objs.size f cd) e) (fun _ s'' => CX outer H s E e s'') (fun e' s'' => CX outer H s E e' s'') s'

theorem cell_has {sc : Scope} {n : Nat} {x : Str} (h : sc.names.lookup x = some .cell) : ∃ c, (cellsFrom n sc.names []).lookup x = some c := by
  have q := PySem.W.cellsFrom_some sc.names n [] (.inl h)
  exact Option.isSome_iff_exists.mp q

theorem inv_start {CX : CXT} {P : Program} {w : World} {K : PySem.W.Frag} {mg : Str → Option Value} {base : Heap} {N ps : List Str} {qual : Str} {scope : Scope} {f : Addr} {cd : Value} {A : Around} {outer : List Env} {s s1 : Shared} {H : Hp} {E : XK} {us : List Value} {vs : List V}
    (S : FnScope N ps scope) (hd : A.handled = none) (e0 : Env0 P w K mg base A outer s H) (hl : vs.length = ps.length) (r : Vals vs us)
    (x : InCallC s s.heap.objs.size (bindL (envOfC qual scope s.heap.objs.size f cd).kindOf (ps.zip us) fun _ => none) (cellsFrom (s.heap.objs.size + 1) scope.names []) (bindC (envOfC qual scope s.heap.objs.size f cd).kindOf (ps.zip us) fun _ => none) s1) :
    Inv (cxOf CX P w K mg base N qual scope f cd A outer s H E) [] (start N vs) H s1 := by
  have hpl : ps.length ≤ N.length := by have := congrArg List.length S.pre; rw [List.length_take] at this; omega
  obtain ⟨h1, tk, rfl, hk⟩ := x.done
  have noA : ∀ b : Addr, b ∉ (cxOf CX P w K mg base N qual scope f cd A outer s H E).ex := fun b z => absurd (show b ∈ ([] : List Addr) from z) (by simp)
  refine ⟨⟨e0.mod, S.kind, rfl, rfl, Nat.le_refl _, fun y z c h1 h2 => ?_, fun y hy => ?_, fun y c _ h => ?_, fun _ => hd, Around.frames_deeper e0.frames, .inr ⟨rfl, rfl⟩, fun b z => absurd z (noA b), e0.bs, e0.bsz, fun b _ _ => noA b, fun b z => absurd z (noA b), e0.funs, e0.frf⟩,
    rfl, e0.bare, Un.kept hk, ⟨_, x.toInCall.ns, fun i y v h1 h2 h3 => ?_⟩, fun y c h => ⟨_, x.cell y c h⟩, e0.hok.fresh (Nat.le_refl _), fun y c h => ?_, fun p hp => absurd (show p ∈ ([] : List (Addr × Obj)) from hp) (by simp), e0.hok.kept hk, ?_⟩
  · exact name_of_addr x.apart (PySem.mem_of_lookup h1) (PySem.mem_of_lookup h2)
  · have hy : scope.names.lookup y = some .cell ∨ scope.names.lookup y = some .free := hy
    rcases hy with hy | hy
    · exact cell_has hy
    · exact absurd rfl (S.nofree _ (PySem.mem_of_lookup hy))
  · exact Nat.le_of_lt (x.above y c (PySem.mem_of_lookup h))
  · have hi : i < vs.length := by
      unfold start at h2
      by_cases hi : i < vs.length
      · exact hi
      · rw [List.getElem?_append_right (by simpa using hi)] at h2
        rw [List.getElem?_replicate] at h2
        split at h2 <;> cases h2
    have ha : vs[i]? = some v := by
      unfold start at h2
      rw [List.getElem?_append_left (by simpa using hi), List.getElem?_map] at h2
      cases e : vs[i]? with
      | none => rw [e] at h2; cases h2
      | some a => rw [e] at h2; cases h2; rfl
    obtain ⟨u, hu, rv⟩ := r.get ha
    have hp : ps[i]? = some y := by
      rw [← S.pre, List.getElem?_take_of_lt (by omega)]; exact h1
    have ndP : ps.Nodup := by rw [← S.pre]; exact S.nd.sublist (List.take_sublist _ _)
    refine ⟨u, rv, ?_⟩
    rcases S.par y (List.mem_of_getElem? hp) with k | k
    · exact .inl ⟨k, bindL_get ndP hp hu k⟩
    · obtain ⟨c, e⟩ := cell_has (n := s.heap.objs.size + 1) k
      refine .inr ⟨.inl k, c, e, ?_⟩
      have q := x.cell y c e
      rw [bindC_get ndP hp hu (by show scope.names.lookup y ≠ _; rw [k]; decide)] at q
      exact q
  · exact e0.hok.fresh (Nat.le_of_lt (x.above y c (PySem.mem_of_lookup h)))
  · unfold start
    show _ = N.length
    rw [List.length_append, List.length_map, List.length_replicate]
    omega

/-- THE RULE: a def (or a method) of the text, by its body. The body's reading t is chosen for each entry; it is run at the parameters' values -/
theorem fn_of {CX : CXT} {P : Program} {w : World} {K : PySem.W.Frag} {mg : Str → Option Value} {base : Heap} {k : Nat} {f : Addr} {name qual : Str} {params : Arguments} {body : List Stmt} {scope : Scope} {dV kV doc pm cdv ct oc : Value} {an od : Option Addr}
    {osl : Array (Option Value)} {N ps : List Str} {sp : Sp} (lk : K.lookup f = some ⟨oc, od, .func (PySem.W.fnOf name qual params body scope dV kV doc pm an cdv ct), osl⟩) (hcd : PySem.W.codeIn K cdv qual = true) (S : FnScope N ps scope)
    (len : ∀ vs H Q E, sp vs H Q E → vs.length = ps.length)
    (hbody : ∀ (A : Around) (outer : List Env) (s : Shared) (H : Hp) (vs : List V) (Q : VK) (E : XK), Room k (A.deeper (envOfC qual scope s.heap.objs.size f cdv)) → sp vs H Q E →
      ∃ t, PSs (cxOf CX P w K mg base N qual scope f cdv A outer s H E) body t ∧ t { nx := fun _ H' => Q .non H', rt := Q } (start N vs) H) :
    FnOk P w K mg base CX (k + 1) f (PySem.W.fnOf name qual params body scope dV kV doc pm an cdv ct) ps sp := by
  refine ⟨len, fun A outer s H args us vs Q E hr e0 hb r hsp => ?_⟩
  have hl := len _ _ _ _ hsp
  have KX : K.In s.heap := e0.mod.kin.keeps fun b o e => (e0.bs b o e).1
  have lim : s.heap.NoLimit := e0.mod.nolimit.keeps fun b o e => (e0.bs b o e).1
  have hkind : ∀ y ∈ ps.zip us, scope.names.lookup y.1 = some .local ∨ (scope.names.lookup y.1 = some .cell ∧ ((cellsFrom (s.heap.objs.size + 1) scope.names []).lookup y.1).isSome = true) := fun ⟨n, v⟩ hy => by
    rcases S.par n (List.of_mem_zip hy).1 with q | q
    · exact .inl q
    · exact .inr ⟨q, PySem.W.cellsFrom_some _ _ _ (.inl q)⟩
  refine codeAny_call_function hr.depth (KX _ _ lk) rfl S.co S.gen rfl (PySem.W.codeRec_of KX hcd) (hb _ _ _ _ ?_)
  refine wpAny_newFunctionEnv_cells S.kind hkind fun env he s1 x => ?_
  subst he
  refine ⟨lim.keeps x.toInCall.keep, codeAny_func ?_⟩
  obtain ⟨t, ht, hq⟩ := hbody A outer s H vs Q E (hr.deeper _) hsp
  have I : Inv (cxOf CX P w K mg base N qual scope f cdv A outer s H E) [] (start N vs) H s1 := inv_start S hr.hd e0 hl r x
  refine wpAny_mono (ht [] s1 (start N vs) H _ I hq) (fun fl s' hs => ?_) fun e s' hs => hs
  have fin : ∀ {σ' : St} {H' : Hp} {v : V} {u : Value}, Inv (cxOf CX P w K mg base N qual scope f cdv A outer s H E) [] σ' H' s' → RelV v u → Q v H' → CE outer P w H s Q u s' :=
    fun {σ' H' v u} J rv q => ⟨v, H', J.os, J.bare, J.base, J.hok, rv, q⟩
  cases fl with
  | ret u =>
    obtain ⟨v, σ', H', J, rv, q⟩ := hs
    exact fin J rv q
  | next =>
    obtain ⟨σ', H', J, q⟩ := hs
    exact fin (v := V.non) (u := Value.none) J rfl q
  | brk =>
    obtain ⟨_, _, _, q⟩ := hs
    exact False.elim q
  | cont =>
    obtain ⟨_, _, _, q⟩ := hs
    exact False.elim q
end L2

namespace L2
open PySem PySem.Spec PyProof.Rows
section
variable {X : Cx} {x : Str} {p pos : Pos} {e : Expr} {es : List Expr} {t : TA} {id T : String} {r : List V → Hp → VK → Prop}

def tCB (r : List V → Hp → VK → Prop) (t : TA) : TE := fun σ H Q => t σ H fun vs H1 => r vs H1 Q
/-- f(e, ..), f a built-in function -/
theorem pe_callB (hc : CallR X (.builtin id) r) (hg : Gl X x) (hm : X.mg x = none) (hv : bootBuiltins x = some (.builtin id)) (ha : PA X (e :: es) t) (hn : x ≠ "__name__" := by decide) (hdb : (x == ("__debug__" : Str)) = false := by decide)
    (he : starEach (e :: es) X.env = (false, eval e X.env) :: starEach es X.env := by rfl) (hpl : (backTo pos (starEach es X.env)).any (·.1) = false := by rfl) : PE X (.Call (.Name x p) (e :: es) [] pos) (tCB r t) := by
  intro pins s σ H Q I h
  refine wpAny_Call_Name_kw (ld_blt I hg hm hv ?_ hn hdb)
  exact PyProof.Rows.callWith_builtin1 (thn (ha pos pins s σ H _ I h) fun us s1 ⟨vs, H1, I1, r1, q1⟩ => hc pins s1 σ H1 vs us Q I1 r1 q1) he hpl
/-- T(e, ..), T a built-in type -/
theorem pe_callTy (hc : CallR X (.type T) r) (hg : Gl X x) (hm : X.mg x = none) (hv : bootBuiltins x = some (.type T)) (ha : PA X (e :: es) t) (hn : x ≠ "__name__" := by decide) (hdb : (x == ("__debug__" : Str)) = false := by decide)
    (he : starEach (e :: es) X.env = (false, eval e X.env) :: starEach es X.env := by rfl) (hpl : (backTo pos (starEach es X.env)).any (·.1) = false := by rfl) : PE X (.Call (.Name x p) (e :: es) [] pos) (tCB r t) := by
  intro pins s σ H Q I h
  refine wpAny_Call_Name_kw (ld_blt I hg hm hv ?_ hn hdb)
  exact PyProof.Rows.callWith_type1 (thn (ha pos pins s σ H _ I h) fun us s1 ⟨vs, H1, I1, r1, q1⟩ => hc pins s1 σ H1 vs us Q I1 r1 q1) he hpl
/-- T() -/
theorem pe_callTy0 (hc : CallR X (.type T) r) (hg : Gl X x) (hm : X.mg x = none) (hv : bootBuiltins x = some (.type T)) (hn : x ≠ "__name__" := by decide) (hdb : (x == ("__debug__" : Str)) = false := by decide) :
    PE X (.Call (.Name x p) [] [] pos) (tCB r tNil) := by
  intro pins s σ H Q I h
  refine wpAny_Call_Name_kw (ld_blt I hg hm hv ?_ hn hdb)
  exact PyProof.Rows.callWith_type0 (hc pins s σ H [] [] Q I .nil h)
end
end L2

namespace HT
open PySem PyProof.Rows

/-- t < u of tuples of ints -/
def lexLt : List Int → List Int → Bool
  | [], [] => false
  | [], _ :: _ => true
  | _ :: _, [] => false
  | x :: xs, y :: ys => if x = y then lexLt xs ys else decide (x < y)
theorem lexLt_cons (x y : Int) (xs ys : List Int) : lexLt (x :: xs) (y :: ys) = if x = y then lexLt xs ys else decide (x < y) := rfl
theorem lexLt_nil_nil : lexLt [] [] = false := rfl
theorem lexLt_nil_cons (y : Int) (ys : List Int) : lexLt [] (y :: ys) = true := rfl
theorem lexLt_cons_nil (x : Int) (xs : List Int) : lexLt (x :: xs) [] = false := rfl

theorem eqAt_int (A : Around) (s : Shared) (a : Int) (t : Tok) (c : Int) (u : Tok) : ∃ e, SeqAt.EqAt A s (.int a t) (.int c u) e ∧ (e = true ↔ a = c) :=
  ⟨(a == c), SeqAt.EqAt.int_int a t c u, by simp⟩
theorem rcLt_int (A : Around) (s : Shared) (a : Int) (t : Tok) (c : Int) (u : Tok) (prog : Program) (w : World) (E : Value → Shared → Prop) (Q : Value → Shared → Prop) (h : Q (.bool (decide (a < c))) s) :
    wpAny (model prog w) A (richCompare .Lt (.int a t) (.int c u)) Q E s :=
  (PyProof.Rows.lt_int h : wpAny (model prog w) A (compareOp .Lt (.int a t) (.int c u)) Q E s)

section
open PySem.SeqAt
open PySem.AutoSeq1 (wpAny_loadPart')
open PySem.MeetsSeq PySem.MeetsSeq2 PySem.MeetsSeq3

theorem tuple_lt_ints (l b : Addr) (items items2 : Array Value) (n n2 : Nat) (dd dd2 : Option Addr) (sl sl2 : Array (Option Value)) (ns ms : List Int) (hi : IntsAre items.toList ns) (hj : IntsAre items2.toList ms) :
    Meets (Builtin.«tuple.__lt__» ⟨[.ref l, .ref b], []⟩)
      (fun _ R s => s.heap.get? l = some { cls := .type "tuple", dict := dd, data := .seq items n, slots := sl } ∧ s.heap.get? b = some { cls := .type "tuple", dict := dd2, data := .seq items2 n2, slots := sl2 } ∧
        R (.ok (.ret (.bool (lexLt ns ms)))) s) :=
  .of_wp fun prog w A R s h => by
    obtain ⟨hp, g, d, tk, os⟩ := s; obtain ⟨hl, hb, h⟩ := h
    have f2 := AutoSeq1.sub_tuple_tuple
    have z1 : items.size = ns.length := by rw [← hi.length]; simp
    have z2 : items2.size = ms.length := by rw [← hj.length]; simp
    wp_walk using wpAny_loadPart' hl, wpAny_loadPart' hb, wpAny_forIn_list _ (fun rest b s' => b.1 = none ∧ s' = ⟨hp, g, d, tk, os⟩ ∧ ∃ (vs ws : List Value) (ns' ms' : List Int), rest = vs.zip ws ∧
      IntsAre vs ns' ∧ IntsAre ws ms' ∧ ns'.length + items2.size = ms'.length + items.size ∧ R (.ok (.ret (.bool (lexLt ns' ms')))) ⟨hp, g, d, tk, os⟩) _
    case turn =>
      rintro ⟨y, x⟩ rest b s' ⟨hb', rfl, vs, ws, ns', ms', hz, hvi, hwi, hlen, hR⟩
      cases hvi with
      | nil => rw [List.zip_nil_left] at hz; cases hz
      | cons a t hvi' =>
        cases hwi with
        | nil => rw [List.zip_nil_right] at hz; cases hz
        | cons c u hwi' =>
          rw [List.zip_cons_cons] at hz
          injection hz with hyx hrest
          injection hyx with hy hx
          subst hy hx
          rw [lexLt_cons] at hR
          simp only [List.length_cons] at hlen
          obtain ⟨e, he, hiff⟩ := eqAt_int A.in1 ⟨hp, g, d, tk, os⟩ a t c u
          refine wpAny_bind (he prog w _ _ ?_)
          cases e with
          | true =>
            rw [if_pos (hiff.mp rfl)] at hR
            wp_walk
            exact ⟨rfl, rfl, _, _, _, _, hrest, hvi', hwi', by omega, hR⟩
          | false =>
            rw [if_neg (fun q => absurd (hiff.mpr q) Bool.false_ne_true)] at hR
            have hri := rcLt_int A.in1 ⟨hp, g, d, tk, os⟩ a t c u prog w
            wp_walk using hri
            exact ⟨_, rfl, by simpa using hR⟩
    case fin =>
      rintro ⟨b1, b2⟩ s' ⟨hb', rfl, vs, ws, ns', ms', hz, hvi, hwi, hlen, hR⟩
      simp only at hb'
      subst hb'
      have hv : lexLt ns' ms' = decide (items.size < items2.size) := by
        cases hvi with
        | nil =>
          cases hwi with
          | nil =>
            simp only [List.length_nil] at hlen
            rw [lexLt_nil_nil]
            exact (decide_eq_false (by omega)).symm
          | cons c u hw =>
            simp only [List.length_nil, List.length_cons] at hlen
            rw [lexLt_nil_cons]
            exact (decide_eq_true (by omega)).symm
        | cons a t hv =>
          cases hwi with
          | nil =>
            simp only [List.length_nil, List.length_cons] at hlen
            rw [lexLt_cons_nil]
            exact (decide_eq_false (by omega)).symm
          | cons c u hw =>
            rw [List.zip_cons_cons] at hz
            cases hz
      rw [hv] at hR
      wp_walk
      exact ⟨_, rfl, by simpa [Builtin.Tuple.tupleCompareSizes] using hR⟩
    case h =>
      exact ⟨rfl, rfl, items.toList, items2.toList, ns, ms, rfl, hi, hj, by omega, h⟩
end

section
variable {prog : Program} {w : World} {A : Around} {E : Value → Shared → Prop} {s : Shared}

theorem lt_tupInts {l b : Addr} {items items2 : Array Value} {ns ms : List Int} {Q : Value → Shared → Prop} (hl : IsTup s.heap l items) (hb : IsTup s.heap b items2) (hi : IntsAre items.toList ns) (hj : IntsAre items2.toList ms)
    (hu : A.units < cLine) (h : Q (.bool (lexLt ns ms)) s) : wpAny (model prog w) A (compareOp .Lt (.ref l) (.ref b)) Q E s := by
  obtain ⟨⟨cls, dd, data, sl⟩, ho, hc, n, hd⟩ := id hl
  obtain ⟨⟨cls2, dd2, data2, sl2⟩, ho2, hc2, n2, hd2⟩ := id hb
  simp only at hc hd hc2 hd2
  subst hc hd hc2 hd2
  exact richCompare_meets_room (op := .Lt) ⟨_, ho, rfl⟩ ⟨_, ho2, rfl⟩ PySem.F.slot_tuple_lt PySem.F.entry_tuple_lt (PySem.F.args_tuple_lt_2 _ _) (tuple_lt_ints l b items items2 n n2 dd dd2 sl sl2 ns ms hi hj)
    ⟨ho, ho2, show Value.bool (lexLt ns ms) ≠ Value.notImplemented ∧ Q (.bool (lexLt ns ms)) s from ⟨(fun x => nomatch x), h⟩⟩ hu

/-- t + u, t not empty -/
theorem cat_tup {t b : Addr} {vs ws : List Value} {Q : Value → Shared → Prop} (ht : IsTup s.heap t vs.toArray) (hb : IsTup s.heap b ws.toArray) (hv : vs ≠ [])
    (h1 : ws = [] → Q (.ref t) s) (h2 : ws ≠ [] → Q (.ref s.heap.objs.size) { s with heap := s.heap.push { cls := .type "tuple", data := .seq (vs ++ ws).toArray } })
    (hsz : vs.length + ws.length ≤ sizeLine) : wpAny (model prog w) A (binaryOp .Add (.ref t) (.ref b)) Q E s := by
  obtain ⟨⟨cls, dd, data, sl⟩, ho, hc, n, hd⟩ := id ht
  obtain ⟨⟨cls2, dd2, data2, sl2⟩, ho2, hc2, n2, hd2⟩ := id hb
  simp only at hc hd hc2 hd2
  subst hc hd hc2 hd2
  have e : vs.toArray ++ ws.toArray = (vs ++ ws).toArray := by simp
  by_cases hw : ws = []
  · exact concat_meets ⟨_, ho, rfl⟩ ⟨_, ho2, rfl⟩ noFill_tuple_add seq_tuple_add PySem.F.slot_tuple_add PySem.F.entry_tuple_add (PySem.F.args_tuple_add_2 _ _)
      (tuple_addW1 t b vs.toArray ws.toArray n n2 dd dd2 sl sl2 (by simpa using hv) (by simp [hw])) ⟨ho, ho2, h1 hw⟩
  · refine concat_meets ⟨_, ho, rfl⟩ ⟨_, ho2, rfl⟩ noFill_tuple_add seq_tuple_add PySem.F.slot_tuple_add PySem.F.entry_tuple_add (PySem.F.args_tuple_add_2 _ _)
      (tuple_addW2 t b vs.toArray ws.toArray n n2 dd dd2 sl sl2 (by simpa using hv) (by simpa using hw) (by rw [List.size_toArray, List.size_toArray]; exact hsz)) ⟨ho, ho2, ?_⟩
    rw [e]
    exact h2 hw

/-! ### t[a:b], not the whole -/
/-- a slice's bound as a place among n (d where it is left out) -/
def sIx (n d : Nat) : Option Int → Nat
  | none => d
  | some v => if v < 0 then (v + (n : Int)).toNat else min v.toNat n
theorem sIx_none (n d : Nat) : sIx n d none = d := rfl
theorem sIx_nat (n d k : Nat) : sIx n d (some (k : Int)) = min k n := by
  show (if (k : Int) < 0 then ((k : Int) + (n : Int)).toNat else min (k : Int).toNat n) = min k n
  rw [if_neg (by omega), Int.toNat_natCast]
theorem sIx_le (n d : Nat) (hd : d ≤ n) (o : Option Int) : sIx n d o ≤ n := by
  cases o with
  | none => exact hd
  | some v =>
    show (if v < 0 then (v + (n : Int)).toNat else min v.toNat n) ≤ n
    by_cases hv : v < 0
    · rw [if_pos hv]; omega
    · rw [if_neg hv]; exact Nat.min_le_right _ _
theorem clip_eq (v : Int) (n d : Nat) : (if v < 0 then max (v + (n : Int)) 0 else min v (n : Int)) = ((sIx n d (some v) : Nat) : Int) := by
  show (if v < 0 then max (v + (n : Int)) 0 else min v (n : Int)) = (((if v < 0 then (v + (n : Int)).toNat else min v.toNat n) : Nat) : Int)
  by_cases hv : v < 0
  · simp only [if_pos hv]; omega
  · simp only [if_neg hv]; omega
theorem adjust_gen (lo hi : Option Int) (n : Nat) : Builtin.Slice.sliceAdjust lo hi 1 (n : Int) = (((sIx n 0 lo : Nat) : Int), ((sIx n n hi : Nat) : Int)) := by
  have h1 : ¬ ((1 : Int) < 0) := by omega
  unfold Builtin.Slice.sliceAdjust
  simp only [h1, if_false]
  refine Prod.ext ?_ ?_
  · cases lo with
    | none => rfl
    | some v => exact clip_eq v n 0
  · cases hi with
    | none => rfl
    | some v => exact clip_eq v n n
theorem places_gen (i j : Nat) : Builtin.Slice.slicePlaces (i : Int) (j : Int) 1 = j - i := by
  unfold Builtin.Slice.slicePlaces
  have h1 : (1 : Int) > 0 := by omega
  simp only [h1, if_true, Int.ediv_one]
  split <;> omega
theorem slicePart_ {v : Value} {o : Option Int} {Q : Option Int → Shared → Prop} (p : IsPart v o) (h : Q o s) : wpAny (model prog w) A (Builtin.Slice.slicePartIndex v) Q E s := by
  cases p with
  | none => exact slicePart_none h
  | int i t => exact slicePart_int h
theorem sliceApplied_gen {sl : Addr} {vl vu : Value} {lo hi : Option Int} {n : Nat} {Q : Int × Int × Nat → Shared → Prop} (hs : s.heap.IsSliceOf sl vl vu .none) (pl : IsPart vl lo) (pu : IsPart vu hi)
    (h : Q (((sIx n 0 lo : Nat) : Int), 1, sIx n n hi - sIx n 0 lo) s) : wpAny (model prog w) A (Builtin.Slice.sliceApplied (.ref sl) (pure (n : Int))) Q E s := by
  obtain ⟨os, hos, hcs, hds⟩ := id hs
  unfold Builtin.Slice.sliceApplied Builtin.Slice.sliceFields
  refine wpAny_bind (wpAny_bind (wpAny_field hos hds (x := vl) rfl (wpAny_bind (wpAny_field hos hds (x := vu) rfl (wpAny_bind (wpAny_field hos hds (x := .none) rfl (wpAny_pure ?_)))))))
  refine wpAny_bind (slicePart_none ?_)
  show wpAny _ _ (if ((1 : Int) == 0) = true then _ else _) _ _ s
  rw [if_neg (by decide)]
  refine wpAny_bind (slicePart_ pl (wpAny_bind (slicePart_ pu (wpAny_bind (wpAny_pure ?_)))))
  show wpAny _ _ (match Builtin.Slice.sliceAdjust lo hi 1 (n : Int) with | (lo, hi) => pure (lo, (1 : Int), Builtin.Slice.slicePlaces lo hi 1)) _ _ s
  rw [adjust_gen lo hi n]
  show wpAny _ _ (pure (((sIx n 0 lo : Nat) : Int), (1 : Int), Builtin.Slice.slicePlaces ((sIx n 0 lo : Nat) : Int) ((sIx n n hi : Nat) : Int) 1)) _ _ s
  rw [places_gen]
  exact wpAny_pure h
theorem pick_gen (xs : Array Value) (i k : Nat) : ((List.range k).filterMap fun (m : Nat) => xs[((i : Int) + (m : Int) * 1).toNat]?).toArray = ((xs.toList.drop i).take k).toArray := by
  have e : (fun (m : Nat) => xs[((i : Int) + (m : Int) * 1).toNat]?) = fun m => xs[i + m]? := by
    funext m
    have : ((i : Int) + (m : Int) * 1).toNat = i + m := by omega
    rw [this]
  rw [e]
  have := pick_run xs i k
  rw [List.filterMap_map] at this
  have e2 : ((fun x => xs[x]?) ∘ fun x => i + x) = fun m => xs[i + m]? := rfl
  rw [e2] at this
  rw [this]

theorem getItem_tuple_cut {t sl : Addr} {items : Array Value} {vl vu : Value} {lo hi : Option Int} {Q : Value → Shared → Prop} (ht : IsTup s.heap t items) (hs : s.heap.IsSliceOf sl vl vu .none) (pl : IsPart vl lo) (pu : IsPart vu hi)
    (hw : ¬ (sIx items.size 0 lo = 0 ∧ sIx items.size items.size hi = items.size))
    (h : Q (.ref s.heap.objs.size) { s with heap := s.heap.push { cls := .type "tuple", data := .seq ((items.toList.drop (sIx items.size 0 lo)).take (sIx items.size items.size hi - sIx items.size 0 lo)).toArray } })
    (hsz : items.size ≤ sizeLine) : wpAny (model prog w) A (getItem (.ref t) (.ref sl)) Q E s := by
  have htake : sizeOk (.seq ((items.toList.drop (sIx items.size 0 lo)).take (sIx items.size items.size hi - sIx items.size 0 lo)).toArray) := by
    show ((items.toList.drop (sIx items.size 0 lo)).take (sIx items.size items.size hi - sIx items.size 0 lo)).toArray.size ≤ sizeLine
    rw [List.size_toArray, List.length_take, List.length_drop, Array.length_toList]
    omega
  have hj : sIx items.size items.size hi ≤ items.size := sIx_le _ _ (Nat.le_refl _) hi
  obtain ⟨os, hos, hcs, hds⟩ := id hs
  have hTs : s.TypeIs (.ref sl) "slice" := ⟨os, hos, hcs⟩
  unfold getItem
  try with_reducible refine wpAny_holding ?_
  first | refine wpAny_bind (wpAny_pure ?_) | skip
  refine wpAny_bind (wpAny_sequenceKey ht.typeIs (by decide) ?_)
  refine wpAny_bind (wpAny_callSpecial?_slot (name := Str.ofString "__getitem__") ht.typeIs PyProof.Rows.slot_tuple_getitem
    (wpAny_call_entry PyProof.Rows.slot_tuple_getitem ht.typeIs entry_tuple_getitem ?_ (args_tuple_getitem _ _)))
  show wpAny _ _ (Builtin.Tuple.tupleItemsOf (.ref t) >>= _) _ _ s
  refine wpAny_bind (tupleItemsOf_ ht ?_)
  refine wpAny_bind (wpAny_typeOf hTs ?_)
  rw [if_pos (by decide)]
  refine wpAny_bind (sliceApplied_gen hs pl pu ?_)
  have hno : ¬ ((((sIx items.size 0 lo : Nat) : Int) == 0 && (1 : Int) == 1 && (sIx items.size items.size hi - sIx items.size 0 lo) == items.size) = true) := by
    intro q
    rw [Bool.and_eq_true, Bool.and_eq_true] at q
    have q1 : ((sIx items.size 0 lo : Nat) : Int) = 0 := eq_of_beq q.1.1
    have q2 : sIx items.size items.size hi - sIx items.size 0 lo = items.size := eq_of_beq q.2
    exact hw ⟨by omega, by omega⟩
  show wpAny _ _ (if (((sIx items.size 0 lo : Nat) : Int) == 0 && (1 : Int) == 1 && (sIx items.size items.size hi - sIx items.size 0 lo) == items.size) = true then _ else _) _ _ s
  rw [if_neg hno, pick_gen]
  first
    | exact wpAny_bind (m := Builtin.Tuple.tupleExact _) (wpAny_newObj_type (wpAny_pure ⟨_, rfl, wpAny_pure h⟩) htake)
    | exact wpAny_bind (m := Builtin.Tuple.tupleExact _) (wpAny_newObj_type (wpAny_bind (wpAny_pure (wpAny_pure ⟨_, rfl, wpAny_pure h⟩))) htake)
    | exact wpAny_bind (wpAny_bind (m := Builtin.Tuple.tupleExact _) (wpAny_newObj_type (wpAny_pure (wpAny_pure ⟨_, rfl, wpAny_pure h⟩)) htake))
    | exact wpAny_bind (wpAny_bind (m := Builtin.Tuple.tupleExact _) (wpAny_newObj_type (wpAny_pure ⟨_, rfl, wpAny_pure h⟩) htake))
end
end HT

namespace L2
open PySem PySem.Spec PyProof.Rows

/-! ### the parts of a slice -/
abbrev TO := St → Hp → (Option Int → Hp → Prop) → Prop
/-- a slice's part (left out, or an int) -/
def PO (X : Cx) (e : Option Expr) (t : TO) : Prop :=
  ∀ (pins : List (Addr × Obj)) (s : Shared) (σ : St) (H : Hp) (Q : Option Int → Hp → Prop), Inv X pins σ H s → t σ H Q →
    wpAny (model X.prog X.w) X.A (evalPart e X.env) (fun u s' => ∃ o H', Inv X pins σ H' s' ∧ IsPart u o ∧ Q o H') X.xe s
def tNoPart : TO := fun _ H Q => Q none H
def tPart (t : TE) : TO := fun σ H Q => t σ H fun x H1 => ∃ i, x = .int i ∧ Q (some i) H1

theorem intsAre_of {ns : List Int} : ∀ {us : List Value}, Vals (ns.map V.int) us → IntsAre us ns := by
  induction ns with
  | nil => intro us r; rw [List.map_nil] at r; cases r; exact .nil
  | cons n ns ih =>
    intro us r
    rw [List.map_cons] at r
    cases r with
    | cons r1 r2 =>
      obtain ⟨t, e⟩ := r1
      subst e
      exact .cons n t (ih r2)

section
variable {X : Cx} {e : Expr} {te : TE} {lo hi : Option Expr} {tl th : TO} {pos p2 : Pos}

theorem po_none : PO X none tNoPart := by
  intro pins s σ H Q I h
  rw [evalPart_none]
  exact wpAny_pure ⟨none, H, I, .none, h⟩
theorem po_some (h : PE X e te) : PO X (some e) (tPart te) := by
  intro pins s σ H Q I hw
  rw [evalPart_some]
  refine thn (h pins s σ H _ I hw) fun u s1 ⟨x, H1, I1, r1, q1⟩ => ?_
  obtain ⟨i, rfl, q⟩ := q1
  obtain ⟨t, rfl⟩ := r1
  exact ⟨some i, H1, I1, .int i t, q⟩

/-- what a slice of a value is, by values: the slice object stands at sl -/
def SlR (X : Cx) (r : V → Option Int → Option Int → Hp → VK → Prop) : Prop :=
  ∀ (pins : List (Addr × Obj)) (s : Shared) (σ : St) (H : Hp) (x : V) (v vl vu : Value) (lo hi : Option Int) (sl : Addr) (Q : VK), Inv X pins σ H s → RelV x v → s.heap.IsSliceOf sl vl vu .none → IsPart vl lo → IsPart vu hi → r x lo hi H Q →
    ∃ T id, typeLookup (.type T) "__getitem__" = pure (some (.builtin id)) ∧ s.TypeIs v T ∧ wpAny (model X.prog X.w) X.A (getItem v (.ref sl)) (EP X pins σ Q) X.xe s
theorem SlR.or {r r' : V → Option Int → Option Int → Hp → VK → Prop} (h : SlR X r) (h' : SlR X r') : SlR X (fun x lo hi H Q => r x lo hi H Q ∨ r' x lo hi H Q) := by
  intro pins s σ H x v vl vu lo hi sl Q I rx hs pl pu q
  rcases q with q | q
  · exact h pins s σ H x v vl vu lo hi sl Q I rx hs pl pu q
  · exact h' pins s σ H x v vl vu lo hi sl Q I rx hs pl pu q
def tSl (r : V → Option Int → Option Int → Hp → VK → Prop) (te : TE) (tl th : TO) : TE := fun σ H Q => te σ H fun x H1 => tl σ H1 fun l H2 => th σ H2 fun u H3 => r x l u H3 Q
/-- a[lo:hi], any a -/
theorem pe_slice {r : V → Option Int → Option Int → Hp → VK → Prop} (hr : SlR X r) (he : PE X e te) (hl : PO X lo tl) (hu : PO X hi th) : PE X (.Subscript e (.Slice lo hi none p2) pos) (tSl r te tl th) := by
  intro pins s σ H Q I h
  refine Subscript_ (thn (he pins s σ H _ I h) fun v s1 ⟨x, H1, I1, r1, q1⟩ => ?_)
  refine wpAny_Slice (thn (hl pins s1 σ H1 _ I1 q1) fun vl s2 ⟨l, H2, I2, pl, q2⟩ => thn (hu pins s2 σ H2 _ I2 q2) fun vu s3 ⟨u, H3, I3, pu, q3⟩ => ?_)
  rw [evalPart_none]
  refine wpAny_pure ?_
  have I4 : Inv X pins σ H3 { s3 with heap := s3.heap.push { cls := .type "slice", data := .fields #[vl, vu, .none] } } := I3.kept (t' := s3.toks) fun b ob q => Heap.get?_push_of_some _ q
  obtain ⟨T, id, hT, ht, hg⟩ := hr pins { s3 with heap := s3.heap.push { cls := .type "slice", data := .fields #[vl, vu, .none] } } σ H3 x v vl vu l u s3.heap.objs.size Q I4 r1 (Heap.IsSliceOf.new ..) pl pu q3
  show wpAny (model X.prog X.w) X.A (subscriptTail e (.Slice lo hi none p2) v (.ref s3.heap.objs.size)) (EP X pins σ Q) X.xe { s3 with heap := s3.heap.push { cls := .type "slice", data := .fields #[vl, vu, .none] } }
  exact tail_any (ops := [.ref s3.heap.objs.size, v]) ht hT hg (by with_unfolding_all rfl)

/-- the items of xs[lo:hi] -/
def cutV (xs : List V) (lo hi : Option Int) : List V := (xs.drop (HT.sIx xs.length 0 lo)).take (HT.sIx xs.length xs.length hi - HT.sIx xs.length 0 lo)
theorem cutV_length (xs : List V) (lo hi : Option Int) : (cutV xs lo hi).length ≤ xs.length := by
  unfold cutV
  rw [List.length_take, List.length_drop]
  omega
/-- t[lo:hi], not the whole of it (the whole would be t itself) -/
def rSlT (K : PySem.W.Frag) : V → Option Int → Option Int → Hp → VK → Prop := fun x lo hi H Q => ∃ a xs, x = .ref a ∧ SqT K H a xs ∧
  ¬ (HT.sIx xs.length 0 lo = 0 ∧ HT.sIx xs.length xs.length hi = xs.length) ∧ ∀ p, H p = none → Q (.ref p) (upd H p (.tup (cutV xs lo hi)))
theorem sl_tup : SlR X (rSlT X.K) := by
  intro pins s σ H x v vl vu lo hi sl Q I rx hs pl pu h
  obtain ⟨a, xs, rfl, hx, hw, q⟩ := h
  cases rx
  obtain ⟨its, r, ht, hz⟩ := I.tuple hx
  have hlen : its.toArray.size = xs.length := by rw [List.size_toArray]; exact r.length.symm
  refine ⟨"tuple", _, PyProof.Rows.slot_tuple_getitem.lookup, ht.typeIs, ?_⟩
  refine HT.getItem_tuple_cut ht hs pl pu (by rw [hlen]; exact hw) ?_ (by rw [hlen]; exact hz)
  rw [hlen]
  refine ⟨.ref s.heap.objs.size, _, I.laid (t' := s.toks) (o := .tup (cutV xs lo hi)) (fun b ob q => Heap.get?_push_of_some _ q) (Nat.le_refl _) ?_, rfl, q _ (I.hok.fresh (Nat.le_refl _))⟩
  exact ⟨Nat.le_trans (cutV_length xs lo hi) hz, _, (r.drop (HT.sIx xs.length 0 lo)).take (HT.sIx xs.length xs.length hi - HT.sIx xs.length 0 lo), IsTup.new _ _⟩

/-! ### t < u, t + u -/
def rLtT (K : PySem.W.Frag) : R2 := fun x y H Q => ∃ a b ns ms, x = .ref a ∧ y = .ref b ∧ SqT K H a (ns.map V.int) ∧ SqT K H b (ms.map V.int) ∧ Q (.bl (HT.lexLt ns ms)) H
theorem op_ltT (hu : X.A.units < cLine) : OpR X (compareOp .Lt) (rLtT X.K) := by
  intro pins s σ H x y v u Q I rx ry h
  obtain ⟨a, b, ns, ms, rfl, rfl, ha, hb, q⟩ := h
  cases rx
  cases ry
  obtain ⟨its, r1, p1, _⟩ := I.tuple ha
  obtain ⟨its2, r2, p2, _⟩ := I.tuple hb
  have i1 : IntsAre its.toArray.toList ns := intsAre_of r1
  have i2 : IntsAre its2.toArray.toList ms := intsAre_of r2
  exact HT.lt_tupInts p1 p2 i1 i2 hu ⟨.bl (HT.lexLt ns ms), H, I, rfl, q⟩
/-- t + u, t not empty: u empty gives t itself -/
def rCatT (K : PySem.W.Frag) : R2 := fun x y H Q => ∃ a b xs ys, x = .ref a ∧ y = .ref b ∧ SqT K H a xs ∧ SqT K H b ys ∧ xs ≠ [] ∧ xs.length + ys.length ≤ sizeLine ∧
  (ys = [] → Q (.ref a) H) ∧ (ys ≠ [] → ∀ p, H p = none → Q (.ref p) (upd H p (.tup (xs ++ ys))))
theorem Vals.nil_iff {xs : List V} {us : List Value} (r : Vals xs us) : us = [] ↔ xs = [] := by
  cases r with
  | nil => simp
  | cons _ _ => simp
theorem op_catT : OpR X (binaryOp .Add) (rCatT X.K) := by
  intro pins s σ H x y v u Q I rx ry h
  obtain ⟨a, b, xs, ys, rfl, rfl, ha, hb, hx, hz, q1, q2⟩ := h
  cases rx
  cases ry
  obtain ⟨its, r1, p1, _⟩ := I.tuple ha
  obtain ⟨its2, r2, p2, _⟩ := I.tuple hb
  refine HT.cat_tup p1 p2 (fun z => hx (r1.nil_iff.mp z)) (fun z => ⟨.ref a, H, I, rfl, q1 (r2.nil_iff.mp z)⟩) (fun z => ?_) (by rw [← r1.length, ← r2.length]; exact hz)
  refine ⟨.ref s.heap.objs.size, _, I.laid (t' := s.toks) (o := .tup (xs ++ ys)) (fun b ob q => Heap.get?_push_of_some _ q) (Nat.le_refl _) ?_, rfl, q2 (fun w => z (r2.nil_iff.mpr w)) _ (I.hok.fresh (Nat.le_refl _))⟩
  exact ⟨by rw [List.length_append]; exact hz, _, r1.append r2, IsTup.new _ _⟩
/-- tuple(t) -/
theorem call_tupleT : CallR X (.type "tuple") (fun xs H Q => ∃ a ys, xs = [.ref a] ∧ SqT X.K H a ys ∧ Q (.ref a) H) := by
  intro pins s σ H xs us Q I r h
  obtain ⟨a, ys, rfl, ha, q⟩ := h
  obtain ⟨u, rfl, ru⟩ := vals1 r
  cases ru
  obtain ⟨its, _, p1, _⟩ := I.tuple ha
  exact call_tuple_same (items := its.toArray) p1 ⟨.ref a, H, I, rfl, q⟩
end
end L2

namespace L2
open PySem PySem.Spec PyProof.Rows

/-! ### places -/
/-- the place that an index of any sign means -/
def ixN (n : Nat) (i : Int) : Option Nat := if 0 ≤ i then (if i < n then some i.toNat else none) else if -(n : Int) ≤ i then some (i + n).toNat else none
def atI {α : Type} (xs : List α) (i : Int) : Option α := (ixN xs.length i).bind fun j => xs[j]?
theorem ixN_seq {n : Nat} {i : Int} {j : Nat} (h : ixN n i = some j) : seqIndex? i n = some j ∧ j < n ∧ -(n : Int) ≤ i ∧ i < n := by
  unfold ixN at h
  by_cases h0 : 0 ≤ i
  · rw [if_pos h0] at h
    by_cases h1 : i < n
    · rw [if_pos h1] at h
      have e : i.toNat = j := Option.some.inj h
      exact ⟨by rw [seqIndex_of h0 h1, e], by omega, by omega, h1⟩
    · rw [if_neg h1] at h; cases h
  · rw [if_neg h0] at h
    by_cases h1 : -(n : Int) ≤ i
    · rw [if_pos h1] at h
      have e : (i + n).toNat = j := Option.some.inj h
      exact ⟨by rw [seqIndex_neg (by omega) h1, e], by omega, h1, by omega⟩
    · rw [if_neg h1] at h; cases h
theorem atI_get {α : Type} {xs : List α} {i : Int} {v : α} (h : atI xs i = some v) : ∃ j, seqIndex? i xs.length = some j ∧ xs[j]? = some v ∧ j < xs.length ∧ -(xs.length : Int) ≤ i ∧ i < xs.length := by
  unfold atI at h
  cases e : ixN xs.length i with
  | none => rw [e] at h; cases h
  | some j =>
    rw [e] at h
    obtain ⟨h1, h2, h3, h4⟩ := ixN_seq e
    exact ⟨j, h1, h, h2, h3, h4⟩
theorem atI_nat {α : Type} {xs : List α} {j : Nat} {v : α} (h : xs[j]? = some v) : atI xs (j : Int) = some v := by
  have hj : j < xs.length := (List.getElem?_eq_some_iff.mp h).1
  have e : ixN xs.length (j : Int) = some j := by
    unfold ixN
    rw [if_pos (by omega), if_pos (by omega)]; simp
  unfold atI; rw [e]; exact h
theorem atI_last {α : Type} (xs : List α) (v : α) : atI (xs ++ [v]) (-1) = some v := by
  have hl : (xs ++ [v]).length = xs.length + 1 := by simp
  have e : ixN (xs ++ [v]).length (-1) = some xs.length := by
    unfold ixN
    rw [hl, if_neg (by decide), if_pos (by omega)]
    congr 1
    omega
  unfold atI
  rw [e]
  show (xs ++ [v])[xs.length]? = some v
  simp

/-! ### what may be subscripted -/
/-- what stands as an index of a plain subscript -/
def PlainIx (b : Expr) : Prop := ∀ o i, subscripted b false o i = operate [o, i] (getItem o i)
/-- a subscript by values -/
def IxR (X : Cx) (r : R2) : Prop :=
  ∀ (value slice : Expr) (pins : List (Addr × Obj)) (s : Shared) (σ : St) (H : Hp) (x y : V) (v u : Value) (Q : VK), Inv X pins σ H s → RelV x v → RelV y u → r x y H Q →
    subscripted slice false v u = operate [v, u] (getItem v u) → wpAny (model X.prog X.w) X.A (subscriptTail value slice v u) (EP X pins σ Q) X.xe s
/-- a call of a builtin's method by values: the receiver, the arguments -/
def MtR (X : Cx) (id : String) (r : V → List V → Hp → VK → Prop) : Prop :=
  ∀ (pins : List (Addr × Obj)) (s : Shared) (σ : St) (H : Hp) (x : V) (xs : List V) (v : Value) (us : List Value) (Q : VK), Inv X pins σ H s → RelV x v → Vals xs us → r x xs H Q →
    wpAny (model X.prog X.w) X.A (call (.builtin id) (v :: us)) (EP X pins σ Q) X.xe s
section
variable {X : Cx} {a b : Expr} {ta tb : TE} {pos : Pos}
theorem IxR.or {r r' : R2} (h : IxR X r) (h' : IxR X r') : IxR X (fun x y H Q => r x y H Q ∨ r' x y H Q) := by
  intro value slice pins s σ H x y v u Q I rx ry q hs
  rcases q with q | q
  · exact h value slice pins s σ H x y v u Q I rx ry q hs
  · exact h' value slice pins s σ H x y v u Q I rx ry q hs
theorem MtR.or {id : String} {r r' : V → List V → Hp → VK → Prop} (h : MtR X id r) (h' : MtR X id r') : MtR X id (fun x xs H Q => r x xs H Q ∨ r' x xs H Q) := by
  intro pins s σ H x xs v us Q I rx rs q
  rcases q with q | q
  · exact h pins s σ H x xs v us Q I rx rs q
  · exact h' pins s σ H x xs v us Q I rx rs q
/-- a[b] -/
theorem pe_ix {r : R2} (hr : IxR X r) (ha : PE X a ta) (hb : PE X b tb) (hs : PlainIx b) : PE X (.Subscript a b pos) (tOp r ta tb) := by
  intro pins s σ H Q I h
  exact Subscript_ (binT ha hb I h fun v u s2 x y H2 I2 rx ry q => hr a b pins s2 σ H2 x y v u Q I2 rx ry q (hs _ _))

def rIxL (K : PySem.W.Frag) : R2 := fun x y H Q => ∃ p xs i v, x = .ref p ∧ y = .int i ∧ SqL K H p xs ∧ atI xs i = some v ∧ Q v H
def rIxT (K : PySem.W.Frag) : R2 := fun x y H Q => ∃ p xs i v, x = .ref p ∧ y = .int i ∧ SqT K H p xs ∧ atI xs i = some v ∧ Q v H
def rIxS : R2 := fun x y H Q => ∃ z i c, x = .str z ∧ y = .int i ∧ z.length ≤ sizeLine ∧ atI z.cps.toList i = some c ∧ Q (.str ⟨#[c]⟩) H
theorem ix_list : IxR X (rIxL X.K) := by
  intro value slice pins s σ H x y v u Q I rx ry h hs
  obtain ⟨p, xs, i, z, rfl, rfl, hq, he, q⟩ := h
  cases rx
  obtain ⟨t, rfl⟩ := ry
  obtain ⟨its, r, pl, hz⟩ := I.list hq
  obtain ⟨j, h1, h2, h3, h4, h5⟩ := atI_get he
  obtain ⟨w, ew, rw'⟩ := r.get h2
  have hl := r.length
  have hn := line63
  have fin : EP X pins σ Q w s := ⟨z, H, I, rw', q⟩
  by_cases h0 : 0 ≤ i
  · have hj : i.toNat = j := by
      rw [seqIndex_of h0 h5] at h1
      exact Option.some.inj h1
    exact item_listR pl.isList h0 (by omega) (by rw [hj]; simpa using ew) fin hs
  · have hj : (i + (its.toArray.size : Int)).toNat = j := by
      rw [seqIndex_neg (by omega) h4] at h1
      rw [List.size_toArray, ← hl]
      exact Option.some.inj h1
    exact subscriptTail_builtinR (x := w) pl.isList.typeIs slot_list_getitem.lookup
      (wpAny_getItem_list_neg (Q := fun r s' => r = w ∧ EP X pins σ Q r s') pl.isList (by omega) (by rw [List.size_toArray] <;> omega) (by omega) (by rw [hj]; simpa using ew) ⟨rfl, fin⟩) hs
theorem ix_tup : IxR X (rIxT X.K) := by
  intro value slice pins s σ H x y v u Q I rx ry h hs
  obtain ⟨p, xs, i, z, rfl, rfl, hq, he, q⟩ := h
  cases rx
  obtain ⟨t, rfl⟩ := ry
  obtain ⟨its, r, pl, hz⟩ := I.tuple hq
  obtain ⟨j, h1, h2, h3, h4, h5⟩ := atI_get he
  obtain ⟨w, ew, rw'⟩ := r.get h2
  have hl := r.length
  have hn := line63
  have fin : EP X pins σ Q w s := ⟨z, H, I, rw', q⟩
  exact subscriptTail_builtinR (x := w) pl.typeIs slot_tuple_getitem.lookup
    (getItem_tuple (j := j) (Q := fun r s' => r = w ∧ EP X pins σ Q r s') pl (by omega) (by omega) (by rw [List.size_toArray, ← hl]; exact h1) (by simpa using ew) ⟨rfl, fin⟩) hs
theorem ix_str : IxR X rIxS := by
  intro value slice pins s σ H x y v u Q I rx ry h hs
  obtain ⟨z, i, c, rfl, rfl, hz, he, q⟩ := h
  obtain ⟨t, rfl⟩ := rx
  obtain ⟨t', rfl⟩ := ry
  obtain ⟨j, h1, h2, h3, h4, h5⟩ := atI_get he
  have hl : z.cps.toList.length = z.length := by simp [Str.length]
  rw [hl] at h1 h4 h5
  have hn := line63
  exact tail_any (typeIs_str s z t) slot_str_getitem.lookup (getItem_str (c := c) (by
    have e1 : decide (i < -(2 ^ 63 : Int)) = false := decide_eq_false (by omega)
    have e2 : decide (i ≥ 2 ^ 63) = false := decide_eq_false (by omega)
    rw [e1, e2, Bool.or_false]) (by rw [h1]; simpa using h2) ⟨.str ⟨#[c]⟩, H, I.tok _, ⟨_, rfl⟩, q⟩) hs
/-- list, tuple or str -/
def rIx (K : PySem.W.Frag) : R2 := fun x y H Q => rIxL K x y H Q ∨ rIxT K x y H Q ∨ rIxS x y H Q
theorem ix_seq : IxR X (rIx X.K) := ix_list.or (ix_tup.or ix_str)

/-! ### xs[i] = v, any sign -/
/-- the list's object behind a store -/
theorem mapSeq_set (its : List Value) (n j : Nat) (u : Value) : Obj.mapSeq (·.setIfInBounds j u) { cls := .type "list", data := .seq its.toArray n } = { cls := .type "list", data := .seq (its.set j u).toArray n } := by
  simp [Obj.mapSeq]
theorem Inv.lst {pins : List (Addr × Obj)} {σ : St} {H : Hp} {s : Shared} {p : Addr} {xs : List V} (I : Inv X pins σ H s) (h : H p = some (.lst xs)) :
    ∃ (its : List Value) (n : Nat), Vals xs its ∧ s.heap.get? p = some { cls := .type "list", data := .seq its.toArray n } ∧ xs.length ≤ sizeLine := by
  obtain ⟨z, its, n, r, e⟩ := I.hok p _ h
  exact ⟨its, n, r, e, z⟩
/-- the list at p is written by an update of its object -/
theorem Inv.lstUpd {pins : List (Addr × Obj)} {σ : St} {H : Hp} {s : Shared} {p : Addr} {xs ys : List V} {its its' : List Value} {n n' : Nat} {f : Obj → Obj} (I : Inv X pins σ H s) (h : H p = some (.lst xs))
    (ho : s.heap.get? p = some { cls := .type "list", data := .seq its.toArray n }) (hf : f { cls := .type "list", data := .seq its.toArray n } = { cls := .type "list", data := .seq its'.toArray n' }) (r : Vals ys its') (hz : ys.length ≤ sizeLine) (t : Nat) :
    Inv X pins σ (upd H p (.lst ys)) { s with heap := s.heap.update p f, toks := t } := by
  have e : (s.heap.update p f).get? p = some { cls := .type "list", data := .seq its'.toArray n' } := by
    rw [Heap.get?_update_self f ho (by rw [hf] <;> rfl), hf]
  refine I.write (x := p) (e := p) (by rw [h]; trivial) (.inl rfl) (fun b u hb q => (Heap.get?_update_other _ _ (Ne.symm hb)).trans q) ⟨_, e⟩ ?_
  exact ⟨hz, its', n', r, e⟩
def rSetL : V → V → V → Hp → (Hp → Prop) → Prop := fun o i v H Q => ∃ p xs k j, o = .ref p ∧ i = .int k ∧ H p = some (.lst xs) ∧ ixN xs.length k = some j ∧ Q (upd H p (.lst (xs.set j v)))
theorem set_list : PSet X rSetL := by
  intro pins s σ H o i v ov iv u Q I ro ri rv h
  obtain ⟨p, xs, k, j, rfl, rfl, hp, hj, q⟩ := h
  cases ro
  obtain ⟨t, rfl⟩ := ri
  obtain ⟨its, n, r, ho, hz⟩ := I.lst hp
  obtain ⟨h1, h2, h3, h4⟩ := ixN_seq hj
  have hl := r.length
  have hn := line63
  have I' : Inv X pins σ (upd H p (.lst (xs.set j v))) { s with heap := s.heap.update p (Obj.mapSeq (·.setIfInBounds j u)) } :=
    I.lstUpd hp ho (mapSeq_set its n j u) (r.set rv j) (by rw [List.length_set]; exact hz) s.toks
  by_cases h0 : 0 ≤ k
  · have hk : k.toNat = j := by
      rw [seqIndex_of h0 h4] at h1
      exact Option.some.inj h1
    exact PySem.W.ki_setAt ho h0 (by omega) (by rw [List.size_toArray, ← hl]; exact h4) (by rw [hk]; exact ⟨_, I', q⟩)
  · have hk : (k + (its.toArray.size : Int)).toNat = j := by
      rw [seqIndex_neg (by omega) h3] at h1
      rw [List.size_toArray, ← hl]
      exact Option.some.inj h1
    exact PySem.W.ki_setBack ho (by omega) (by rw [List.size_toArray, ← hl]; exact h3) (by omega) (by rw [hk]; exact ⟨_, I', q⟩)

/-! ### slices -/
theorem slice_bounds (lo hi : Option Int) (n : Nat) : (sliceBounds lo hi none n).1 = ((HT.sIx n 0 lo : Nat) : Int) ∧ (sliceBounds lo hi none n).2.1 = ((HT.sIx n n hi : Nat) : Int) ∧ (sliceBounds lo hi none n).2.2 = 1 := by
  refine ⟨?_, ?_, rfl⟩
  · cases lo with
    | none => simp [sliceBounds, HT.sIx]
    | some i =>
      simp only [sliceBounds, HT.sIx, Option.getD_none, show (1 : Int) > 0 by decide, if_true]
      by_cases h : i < 0
      · simp only [h, if_true] <;> omega
      · simp only [h, if_false] <;> omega
  · cases hi with
    | none => simp [sliceBounds, HT.sIx]
    | some i =>
      simp only [sliceBounds, HT.sIx, Option.getD_none, show (1 : Int) > 0 by decide, if_true]
      by_cases h : i < 0
      · simp only [h, if_true] <;> omega
      · simp only [h, if_false] <;> omega
theorem slicePick_cut (its : List Value) (lo hi : Option Int) : slicePick its.toArray lo hi none = ((its.drop (HT.sIx its.length 0 lo)).take (HT.sIx its.length its.length hi - HT.sIx its.length 0 lo)).toArray := by
  obtain ⟨h1, h2, h3⟩ := slice_bounds lo hi its.toArray.size
  unfold slicePick
  rw [h1, h2, h3]
  simp only [sliceRange_one, pick_run, List.size_toArray] <;> rfl
/-- xs[lo:hi] of a list: a new list -/
def rSlL (K : PySem.W.Frag) : V → Option Int → Option Int → Hp → VK → Prop := fun x lo hi H Q => ∃ a xs, x = .ref a ∧ SqL K H a xs ∧ ∀ p, H p = none → Q (.ref p) (upd H p (.lst (cutV xs lo hi)))
theorem sl_list : SlR X (rSlL X.K) := by
  intro pins s σ H x v vl vu lo hi sl Q I rx hs pl pu h
  obtain ⟨a, xs, rfl, hx, q⟩ := h
  cases rx
  obtain ⟨its, r, ht, hz⟩ := I.list hx
  have hlen := r.length
  refine ⟨"list", _, slot_list_getitem.lookup, ht.isList.typeIs, ?_⟩
  refine wpAny_getItem_list_slice ht.isList hs pl pu .none (by simp) ?_ (by rw [List.size_toArray] <;> omega)
  rw [slicePick_cut, ← hlen]
  refine ⟨.ref s.heap.objs.size, _, I.laid (t' := s.toks) (o := .lst (cutV xs lo hi)) (fun b ob q => Heap.get?_push_of_some _ q) (Nat.le_refl _) ?_, rfl, q _ (I.hok.fresh (Nat.le_refl _))⟩
  exact ⟨Nat.le_trans (cutV_length xs lo hi) hz, _, 0, (r.drop (HT.sIx xs.length 0 lo)).take (HT.sIx xs.length xs.length hi - HT.sIx xs.length 0 lo), Heap.get?_push_size _ rfl⟩

/-! ### in, not in: flat items -/
def flatV : V → Bool
  | .non => true
  | .bl _ => true
  | .int _ => true
  | .str _ => true
  | _ => false
/-- == of flat values -/
def eqV : V → V → Bool
  | .non, .non => true
  | .bl a, .bl b => a == b
  | .bl a, .int b => (if a then 1 else 0) == b
  | .int a, .bl b => a == (if b then 1 else 0)
  | .int a, .int b => a == b
  | .str a, .str b => a == b
  | _, _ => false
theorem eqAt_V {A : Around} {s : Shared} {y x : V} {u v : Value} (ry : RelV y u) (rx : RelV x v) (fy : flatV y = true) (fx : flatV x = true) : SeqAt.EqAt A s u v (eqV y x) := by
  cases y with
  | non =>
    cases ry
    cases x with
    | non => cases rx; exact SeqAt.EqAt.same _
    | bl b => cases rx; exact SeqAt.EqAt.none_bool b
    | int b => obtain ⟨t, rfl⟩ := rx; exact SeqAt.EqAt.none_int b t
    | str b => obtain ⟨t, rfl⟩ := rx; exact SeqAt.EqAt.none_str b t
    | _ => exact absurd (show false = true from fx) Bool.false_ne_true
  | bl a =>
    cases ry
    cases x with
    | non => cases rx; exact SeqAt.EqAt.bool_none a
    | bl b => cases rx; exact SeqAt.EqAt.bool_bool a b
    | int b => obtain ⟨t, rfl⟩ := rx; exact SeqAt.EqAt.bool_int a b t
    | str b => obtain ⟨t, rfl⟩ := rx; exact SeqAt.EqAt.bool_str a b t
    | _ => exact absurd (show false = true from fx) Bool.false_ne_true
  | int a =>
    obtain ⟨t', rfl⟩ := ry
    cases x with
    | non => cases rx; exact SeqAt.EqAt.int_none a t'
    | bl b => cases rx; exact SeqAt.EqAt.int_bool a t' b
    | int b => obtain ⟨t, rfl⟩ := rx; exact SeqAt.EqAt.int_int a t' b t
    | str b => obtain ⟨t, rfl⟩ := rx; exact SeqAt.EqAt.int_str a t' b t
    | _ => exact absurd (show false = true from fx) Bool.false_ne_true
  | str a =>
    obtain ⟨t', rfl⟩ := ry
    cases x with
    | non => cases rx; exact SeqAt.EqAt.str_none a t'
    | bl b => cases rx; exact SeqAt.EqAt.str_bool a t' b
    | int b => obtain ⟨t, rfl⟩ := rx; exact SeqAt.EqAt.str_int a t' b t
    | str b => obtain ⟨t, rfl⟩ := rx; exact SeqAt.EqAt.str_str a t' b t
    | _ => exact absurd (show false = true from fx) Bool.false_ne_true
  | _ => exact absurd (show false = true from fy) Bool.false_ne_true
/-- the items' answers, read off the values (a value's own answer does not lean on its token) -/
def eqU (x : V) (u : Value) : Bool := match u with
  | .none => eqV .non x
  | .bool b => eqV (.bl b) x
  | .int i _ => eqV (.int i) x
  | .str z _ => eqV (.str z) x
  | _ => false
theorem eqU_of {x y : V} {u : Value} (r : RelV y u) (f : flatV y = true) : eqU x u = eqV y x := by
  cases y with
  | non => cases r; rfl
  | bl b => cases r; rfl
  | int i => obtain ⟨t, rfl⟩ := r; rfl
  | str z => obtain ⟨t, rfl⟩ := r; rfl
  | _ => exact absurd (show false = true from f) Bool.false_ne_true
theorem any_eqU {x : V} : ∀ {xs : List V} {us : List Value}, Vals xs us → xs.all flatV = true → us.any (eqU x) = xs.any fun y => eqV y x
  | _, _, .nil, _ => rfl
  | y :: xs, u :: us, .cons r t, f => by
    rw [List.all_cons, Bool.and_eq_true] at f
    rw [List.any_cons, List.any_cons, eqU_of r f.1, any_eqU t f.2]
theorem mem_eqAt {A : Around} {s : Shared} {x : V} {v : Value} (rx : RelV x v) (fx : flatV x = true) : ∀ {xs : List V} {us : List Value}, Vals xs us → xs.all flatV = true → ∀ u ∈ us, SeqAt.EqAt A s u v (eqU x u)
  | _, _, .nil, _ => fun u hu => by cases hu
  | y :: xs, u :: us, .cons r t, f => fun u' hu => by
    rw [List.all_cons, Bool.and_eq_true] at f
    rcases List.mem_cons.mp hu with rfl | hu
    · rw [eqU_of r f.1]; exact eqAt_V r rx f.1 fx
    · exact mem_eqAt rx fx t f.2 u' hu
def inV (x : V) (xs : List V) : Bool := xs.any fun y => eqV y x
/-- x in a list or tuple of flat items -/
def rIn (K : PySem.W.Frag) (neg : Bool) : R2 := fun x y H Q => ∃ p xs, y = .ref p ∧ (SqL K H p xs ∨ SqT K H p xs) ∧ flatV x = true ∧ xs.all flatV = true ∧ Q (.bl (if neg then !inV x xs else inV x xs)) H
theorem op_in_seq : OpR X (compareOp .In) (rIn X.K false) := by
  intro pins s σ H x y v u Q I rx ry h
  obtain ⟨p, xs, rfl, hq, fx, fs, q⟩ := h
  cases ry
  rcases hq with hq | hq
  · obtain ⟨its, r, pl, hz⟩ := I.list hq
    refine SeqAt.in_listAt (eqU x) pl.isList (fun w hw => mem_eqAt rx fx r fs w (by simpa using hw)) ⟨.bl _, H, I, rfl, ?_⟩
    rw [show its.toArray.any (eqU x) = its.any (eqU x) by simp, any_eqU r fs]
    exact q
  · obtain ⟨its, r, pl, hz⟩ := I.tuple hq
    refine SeqAt.in_tupleAt (eqU x) pl (fun w hw => mem_eqAt rx fx r fs w (by simpa using hw)) ⟨.bl _, H, I, rfl, ?_⟩
    rw [show its.toArray.any (eqU x) = its.any (eqU x) by simp, any_eqU r fs]
    exact q
theorem op_notIn_seq : OpR X (compareOp .NotIn) (rIn X.K true) := by
  intro pins s σ H x y v u Q I rx ry h
  obtain ⟨p, xs, rfl, hq, fx, fs, q⟩ := h
  cases ry
  rcases hq with hq | hq
  · obtain ⟨its, r, pl, hz⟩ := I.list hq
    refine SeqAt.notIn_listAt (eqU x) pl.isList (fun w hw => mem_eqAt rx fx r fs w (by simpa using hw)) ⟨.bl _, H, I, rfl, ?_⟩
    rw [show its.toArray.any (eqU x) = its.any (eqU x) by simp, any_eqU r fs]
    exact q
  · obtain ⟨its, r, pl, hz⟩ := I.tuple hq
    refine SeqAt.notIn_tupleAt (eqU x) pl (fun w hw => mem_eqAt rx fx r fs w (by simpa using hw)) ⟨.bl _, H, I, rfl, ?_⟩
    rw [show its.toArray.any (eqU x) = its.any (eqU x) by simp, any_eqU r fs]
    exact q
theorem op_notIn_str : OpR X (compareOp .NotIn) (fun x y H Q => ∃ i j, x = .str i ∧ y = .str j ∧ Q (.bl (!(!(Builtin.Str.occurrences j i 0 j.length 1).isEmpty))) H) := by
  intro pins s σ H x y v u Q I rx ry h
  obtain ⟨i, j, rfl, rfl, q⟩ := h
  obtain ⟨t, rfl⟩ := rx
  obtain ⟨t', rfl⟩ := ry
  exact notIn_str ⟨.bl _, H, I, rfl, q⟩

/-! ### len, list(x), tuple(x) of any list or tuple that is read -/
theorem call_len_seq : CallR X (.builtin "len") (fun xs H Q => ∃ p ys, xs = [.ref p] ∧ (SqL X.K H p ys ∨ SqT X.K H p ys) ∧ Q (.int ys.length) H) := by
  intro pins s σ H xs us Q I r h
  obtain ⟨p, ys, rfl, hq, q⟩ := h
  obtain ⟨u, rfl, rx⟩ := vals1 r
  cases rx
  have hn := line63
  rcases hq with hq | hq
  · obtain ⟨its, r', pl, hz⟩ := I.list hq
    have hlen := r'.length
    exact Calls.call_len_list pl.isList (by simp only [List.size_toArray] <;> omega) ⟨.int ys.length, H, I.tok _, ⟨s.toks + 1, by rw [List.size_toArray, hlen]⟩, q⟩
  · obtain ⟨its, r', pl, hz⟩ := I.tuple hq
    have hlen := r'.length
    exact len_tuple pl (by simp only [List.size_toArray] <;> omega) ⟨.int ys.length, H, I.tok _, ⟨s.toks + 1, by rw [List.size_toArray, hlen]⟩, q⟩
theorem call_len_str : CallR X (.builtin "len") (fun xs H Q => ∃ z, xs = [.str z] ∧ z.length ≤ sizeLine ∧ Q (.int z.length) H) := by
  intro pins s σ H xs us Q I r h
  obtain ⟨z, rfl, hz, q⟩ := h
  obtain ⟨u, rfl, t, rfl⟩ := vals1 r
  have hn := line63
  exact len_str (by omega) ⟨.int z.length, H, I.tok _, ⟨_, rfl⟩, q⟩
theorem CallR.or {f : Value} {r r' : List V → Hp → VK → Prop} (h : CallR X f r) (h' : CallR X f r') : CallR X f (fun xs H Q => r xs H Q ∨ r' xs H Q) := by
  intro pins s σ H xs us Q I rs q
  rcases q with q | q
  · exact h pins s σ H xs us Q I rs q
  · exact h' pins s σ H xs us Q I rs q
theorem call_list_of : CallR X (.type "list") (fun xs H Q => ∃ p ys, xs = [.ref p] ∧ (SqL X.K H p ys ∨ SqT X.K H p ys) ∧ ∀ l, H l = none → Q (.ref l) (upd H l (.lst ys))) := by
  intro pins s σ H xs us Q I r h
  obtain ⟨p, ys, rfl, hq, q⟩ := h
  obtain ⟨u, rfl, rx⟩ := vals1 r
  cases rx
  have fin : ∀ (its : List Value), Vals ys its → ys.length ≤ sizeLine → ∀ (h' : Heap) (c' : Nat), (∀ b o', s.heap.get? b = some o' → h'.get? b = some o') →
      h'.get? s.heap.objs.size = some { cls := .type "list", dict := none, data := .seq its.toArray c', slots := #[] } → EP X pins σ Q (.ref s.heap.objs.size) { s with heap := h' } := fun its r' hz h' c' kp e =>
    ⟨.ref s.heap.objs.size, _, I.laid (t' := s.toks) kp (Nat.le_refl _) (show ObjOk X.prog X.w _ h' _ (.lst ys) from ⟨hz, its, c', r', e⟩), rfl, q _ (I.hok.fresh (Nat.le_refl _))⟩
  rcases hq with hq | hq
  · obtain ⟨its, r', pl, hz⟩ := I.list hq
    have hlen := r'.length
    obtain ⟨o, ho, hc, n, hd⟩ := pl.isList
    exact call_list_seq p (.inl rfl) ho hc hd (fun h' c' kp e => fin its r' hz h' c' kp e) (by simp only [List.size_toArray] <;> omega)
  · obtain ⟨its, r', pl, hz⟩ := I.tuple hq
    have hlen := r'.length
    obtain ⟨o, ho, hc, n, hd⟩ := pl
    exact call_list_seq p (.inr rfl) ho hc hd (fun h' c' kp e => fin its r' hz h' c' kp e) (by simp only [List.size_toArray] <;> omega)
theorem call_tuple_of : CallR X (.type "tuple") (fun xs H Q => ∃ p ys, xs = [.ref p] ∧ ((SqL X.K H p ys ∧ ∀ l, H l = none → Q (.ref l) (upd H l (.tup ys))) ∨ (SqT X.K H p ys ∧ Q (.ref p) H))) := by
  intro pins s σ H xs us Q I r h
  obtain ⟨p, ys, rfl, h⟩ := h
  obtain ⟨u, rfl, rx⟩ := vals1 r
  cases rx
  rcases h with ⟨hq, q⟩ | ⟨hq, q⟩
  · obtain ⟨its, r', pl, hz⟩ := I.list hq
    have hlen := r'.length
    refine call_tuple_list pl.isList (fun h' kp => ?_) (by simp only [List.size_toArray] <;> omega)
    have I1 : Inv X pins σ H { s with heap := h' } := I.kept (t' := s.toks) kp
    have I2 : Inv X pins σ (upd H h'.objs.size (.tup ys)) { s with heap := h'.push { cls := .type "tuple", data := .seq its.toArray } } :=
      I1.laid (t' := s.toks) (fun b o e => Heap.get?_push_of_some _ e) (Nat.le_refl _) (show ObjOk X.prog X.w _ _ _ (.tup ys) from ⟨hz, its, r', IsTup.new _ _⟩)
    exact ⟨.ref h'.objs.size, _, I2, rfl, q _ (I1.hok.fresh (Nat.le_refl _))⟩
  · obtain ⟨its, r', pl, hz⟩ := I.tuple hq
    exact call_tuple_same pl ⟨.ref p, H, I, rfl, q⟩

/-! ### the call of a builtin's method: o.m(..) -/
/-- the value is of that builtin type -/
def tyV (K : PySem.W.Frag) (T : String) (x : V) (H : Hp) : Prop := match x with
  | .str _ => T = "str"
  | .int _ => T = "int"
  | .ref p => (T = "list" ∧ ∃ xs, SqL K H p xs) ∨ (T = "tuple" ∧ ∃ o, K.lookup p = some o ∧ o.cls = .type "tuple" ∧ o.dict = none) ∨
      (T = "dict" ∧ ((∃ kvs, H p = some (.dK kvs)) ∨ ∃ kvs, H p = some (.dT kvs))) ∨ (T = "set" ∧ ∃ S n, H p = some (.set S n))
  | _ => False
theorem tyV_is {pins : List (Addr × Obj)} {σ : St} {H : Hp} {s : Shared} {T : String} {x : V} {v : Value} (I : Inv X pins σ H s) (r : RelV x v) (ty : tyV X.K T x H) :
    s.TypeIs v T ∧ ∀ a, v = .ref a → ∃ ob, s.heap.get? a = some ob ∧ ob.dict = none := by
  cases x with
  | str z =>
    obtain ⟨t, rfl⟩ := r
    cases (show T = "str" from ty)
    exact ⟨typeIs_str s z t, fun _ e => nomatch e⟩
  | int i =>
    obtain ⟨t, rfl⟩ := r
    cases (show T = "int" from ty)
    exact ⟨typeIs_int s i t, fun _ e => nomatch e⟩
  | ref p =>
    cases r
    rcases ty with ⟨rfl, xs, hq⟩ | ⟨rfl, o, hk, hc, hd⟩ | ⟨rfl, hk⟩ | ⟨rfl, S, n, hk⟩
    · obtain ⟨its, _, pl, _⟩ := I.list hq
      refine ⟨pl.isList.typeIs, fun a e => ?_⟩
      cases e
      obtain ⟨o, n, e, c, hd, _⟩ := pl
      exact ⟨o, e, hd⟩
    · refine ⟨⟨o, I.kIn p o hk, hc⟩, fun a e => ?_⟩
      cases e
      exact ⟨o, I.kIn _ o hk, hd⟩
    · have z : ∃ o, s.heap.get? p = some o ∧ o.ExactDict := by
        rcases hk with ⟨kvs, hk⟩ | ⟨kvs, hk⟩
        · obtain ⟨_, _, _, _, o, _, _, e, ex, _⟩ := I.hok p _ hk
          exact ⟨o, e, ex⟩
        · obtain ⟨_, _, _, _, o, _, _, e, ex, _⟩ := I.hok p _ hk
          exact ⟨o, e, ex⟩
      obtain ⟨o, e, ex⟩ := z
      refine ⟨⟨o, e, ex.1⟩, fun a e2 => ?_⟩
      cases e2
      exact ⟨o, e, ex.2.1⟩
    · obtain ⟨o, _, _, _, e, ex, _⟩ := I.hok p _ hk
      refine ⟨⟨o, e, ex.1⟩, fun a e2 => ?_⟩
      cases e2
      exact ⟨o, e, ex.2.1⟩
  | _ => exact False.elim ty
def tBM0 (K : PySem.W.Frag) (T : String) (r : V → List V → Hp → VK → Prop) (to : TE) : TE := fun σ H Q => to σ H fun x H1 => tyV K T x H1 ∧ r x [] H1 Q
def tBM (K : PySem.W.Frag) (T : String) (r : V → List V → Hp → VK → Prop) (to : TE) (t : TA) : TE := fun σ H Q => to σ H fun x H1 => tyV K T x H1 ∧ t σ H1 fun xs H2 => r x xs H2 Q
variable {o e : Expr} {es : List Expr} {to : TE} {t : TA} {name : Str} {apos cpos : Pos} {T id : String} {r : V → List V → Hp → VK → Prop}
theorem pe_bm0 (pa : PlainAttrs T) (slot : Slot T name id) (hty : typeOf (.builtin id) = pure (.type "method_descriptor")) (hm : MtR X id r) (ho : PE X o to)
    (hbase : attributeBase o name X.env (eval o X.env) = eval o X.env := by rfl) (hline : (apos.endLine == cpos.line) = true := by rfl) : PE X (.Call (.Attribute o name apos) [] [] cpos) (tBM0 X.K T r to) := by
  intro pins s σ H Q I h
  refine wpAny_Call_method0_late hbase hline (thn (ho pins s σ H _ I h) fun v s1 ⟨x, H1, I1, r1, ty, q1⟩ => ?_)
  obtain ⟨h1, h2⟩ := tyV_is I1 r1 ty
  exact ⟨T, id, pa, slot, hty, h1, h2, Calls.callWith_builtin rfl (PySem.evalArgs_none (hm pins s1 σ H1 x [] v [] Q I1 r1 .nil q1))⟩
theorem pe_bm (pa : PlainAttrs T) (slot : Slot T name id) (hty : typeOf (.builtin id) = pure (.type "method_descriptor")) (hm : MtR X id r) (ho : PE X o to) (ha : PA X (e :: es) t)
    (hbase : attributeBase o name X.env (eval o X.env) = eval o X.env := by rfl)
    (hfew : ((backTo cpos (starEach (e :: es) X.env)).all (fun x => !x.1) && (backToKw cpos (keywordEach [] X.env)).all (fun x => x.1.isSome)
      && decide ((e :: es).length + ([] : List Keyword).length + (if ([] : List Keyword).isEmpty then 0 else 1) < 30)) = true := by rfl)
    (hline : (apos.endLine == cpos.line) = true := by rfl) (hs : starEach (e :: es) X.env = (false, eval e X.env) :: starEach es X.env := by rfl) (hplain : (backTo cpos (starEach es X.env)).any (·.1) = false := by rfl) :
    PE X (.Call (.Attribute o name apos) (e :: es) [] cpos) (tBM X.K T r to t) := by
  intro pins s σ H Q I h
  refine wpAny_Call_method_late hbase hfew hline rfl (thn (ho pins s σ H _ I h) fun v s1 ⟨x, H1, I1, r1, ty, q1⟩ => ?_)
  obtain ⟨h1, h2⟩ := tyV_is I1 r1 ty
  refine ⟨T, id, pa, slot, hty, h1, h2, ?_⟩
  have hA := ha cpos pins s1 σ H1 _ I1 q1
  rw [hs] at hA ⊢
  refine Calls.callWith_builtin (by show (false || (backTo cpos (starEach es X.env)).any (·.1)) = false; rw [hplain] <;> rfl) (Calls.evalArgs_plain ?_)
  exact thn hA fun us s2 ⟨vs, H2, I2, r2, q2⟩ => hm pins s2 σ H2 x vs v us Q I2 r1 r2 q2
/- xs.append(e), list.index on a module's tuple .. are MtR facts of 06m -/
end
end L2

namespace L2
open PySem PySem.Spec PyProof.Rows

def MtM (X : Cx) (id : String) (r : V → List V → Hp → VK → Prop) : Prop :=
  ∀ (pins : List (Addr × Obj)) (s : Shared) (σ : St) (H : Hp) (x : V) (xs : List V) (v : Value) (us : List Value) (Q : VK), Inv X pins σ H s → RelV x v → Vals xs us → r x xs H Q →
    wpAny (model X.prog X.w) X.A (call (.builtin id) (v :: us)) (EP X pins σ Q) X.xe s

/-! ### lists of values -/
theorem Vals.one : ∀ {x : V} {us : List Value}, Vals [x] us → ∃ u, us = [u] ∧ RelV x u
  | _, _, .cons r .nil => ⟨_, rfl, r⟩
theorem Vals.two : ∀ {x y : V} {us : List Value}, Vals [x, y] us → ∃ u v, us = [u, v] ∧ RelV x u ∧ RelV y v
  | _, _, _, .cons r (.cons q .nil) => ⟨_, _, rfl, r, q⟩
theorem Vals.zero : ∀ {us : List Value}, Vals [] us → us = []
  | _, .nil => rfl
theorem Vals.dropLast {xs : List V} {us : List Value} (h : Vals xs us) : Vals xs.dropLast us.dropLast := by
  induction h with
  | nil => exact .nil
  | cons r t ih =>
    cases t with
    | nil => exact .nil
    | cons q t' => exact .cons r ih
theorem Vals.eraseIdx : ∀ {xs : List V} {us : List Value} (i : Nat), Vals xs us → Vals (xs.eraseIdx i) (us.eraseIdx i)
  | _, _, _, .nil => .nil
  | _, _, 0, .cons _ t => t
  | _, _, i + 1, .cons r t => .cons r (Vals.eraseIdx i t)
theorem Vals.reverse {xs : List V} {us : List Value} (h : Vals xs us) : Vals xs.reverse us.reverse := by
  induction h with
  | nil => exact .nil
  | cons r t ih => rw [List.reverse_cons, List.reverse_cons]; exact Vals.append ih (.cons r .nil)
theorem Vals.rep {xs : List V} {us : List Value} (h : Vals xs us) : ∀ k : Nat, Vals (List.replicate k xs).flatten (List.replicate k us).flatten
  | 0 => .nil
  | k + 1 => by
    rw [List.replicate_succ, List.replicate_succ, List.flatten_cons, List.flatten_cons]
    exact Vals.append h (Vals.rep h k)
theorem erase_last {α : Type} (l : List α) : l.eraseIdx (l.length - 1) = l.dropLast := by
  induction l with
  | nil => rfl
  | cons a r ih =>
    cases r with
    | nil => rfl
    | cons b r =>
      have e : (a :: b :: r).length - 1 = ((b :: r).length - 1) + 1 := by
        have h1 : (a :: b :: r).length = r.length + 2 := rfl
        have h2 : (b :: r).length = r.length + 1 := rfl
        omega
      rw [e, List.eraseIdx_cons_succ, ih]
      all_goals rfl
theorem len_erase {α : Type} : ∀ (l : List α) (i : Nat), (l.eraseIdx i).length ≤ l.length
  | [], _ => Nat.le_refl _
  | _ :: _, 0 => Nat.le_succ _
  | _ :: r, i + 1 => Nat.succ_le_succ (len_erase r i)
theorem foldl_rep (its : List Value) : ∀ (k : Nat) (acc : List Value),
    List.foldl (fun x1 x2 => x1 ++ x2) acc.toArray (List.replicate k its.toArray) = (acc ++ (List.replicate k its).flatten).toArray
  | 0, acc => by simp
  | k + 1, acc => by
    have e : acc.toArray ++ its.toArray = (acc ++ its).toArray := by simp
    have e2 : (acc ++ its) ++ (List.replicate k its).flatten = acc ++ (List.replicate (k + 1) its).flatten := by
      rw [List.replicate_succ, List.flatten_cons, List.append_assoc]
    rw [← e2, ← foldl_rep its k (acc ++ its), ← e, List.replicate_succ, List.foldl_cons]

section
variable {X : Cx} {pins : List (Addr × Obj)} {σ : St} {H : Hp} {s : Shared} {l b : Addr} {xs ys zs : List V}

/-! ### the two steps: a tracked list is rewritten, a new list is laid -/
theorem Inv.lset {its its' : List Value} {n : Nat} {f : Array Value → Array Value} {t' : Nat} (I : Inv X pins σ H s) (hH : H l = some (.lst xs))
    (e : s.heap.get? l = some { cls := .type "list", data := .seq its.toArray n }) (hf : f its.toArray = its'.toArray) (hv : Vals ys its') (hz : ys.length ≤ sizeLine) :
    Inv X pins σ (upd H l (.lst ys)) { s with heap := s.heap.update l (Obj.mapSeq f), toks := t' } := by
  have q := PySem.IsL.update e f
  rw [hf] at q
  refine I.write (x := l) (e := l) (by rw [hH]; exact trivial) (.inl rfl) (fun b' u hb hu => (Heap.get?_update_other s.heap (Obj.mapSeq f) (Ne.symm hb)).trans hu) ⟨_, q⟩ ?_
  exact ⟨hz, its', _, hv, q⟩
theorem Inv.lnew {its : List Value} {t' : Nat} (I : Inv X pins σ H s) (hv : Vals ys its) (hz : ys.length ≤ sizeLine) :
    Inv X pins σ (upd H s.heap.objs.size (.lst ys)) { s with heap := s.heap.push { cls := .type "list", data := .seq its.toArray }, toks := t' } :=
  I.laid (fun _ _ q => Heap.get?_push_of_some _ q) (Nat.le_refl _) ⟨hz, its, 0, hv, Heap.get?_push_size _ rfl⟩
theorem Inv.fresh (I : Inv X pins σ H s) : H s.heap.objs.size = none := I.hok.fresh (Nat.le_refl _)
theorem Inv.lstM (I : Inv X pins σ H s) (hH : H l = some (.lst xs)) : xs.length ≤ sizeLine ∧ ∃ (its : List Value) (n : Nat), Vals xs its ∧ xs.length = its.length ∧ s.heap.get? l = some { cls := .type "list", data := .seq its.toArray n } := by
  obtain ⟨z, its, n, r, e⟩ := I.hok l _ hH
  exact ⟨z, its, n, r, r.length, e⟩

theorem notLongL {n : Nat} (h : n ≤ sizeLine) : Builtin.List.listTooLong n = false := by
  unfold Builtin.List.listTooLong
  exact decide_eq_false (by omega)
end

section
variable {X : Cx}

/-! ### methods -/
def rAppend : V → List V → Hp → VK → Prop := fun x vs H Q => ∃ l xs y, x = .ref l ∧ vs = [y] ∧ H l = some (.lst xs) ∧ xs.length < sizeLine ∧ Q .non (upd H l (.lst (xs ++ [y])))
theorem mt_append : MtM X "list.append" rAppend := by
  intro pins s σ H x vs v us Q I rx rv h
  obtain ⟨l, xs, y, rfl, rfl, hH, hz, q⟩ := h
  cases rx
  obtain ⟨u, rfl, ru⟩ := rv.one
  obtain ⟨z, its, n, r, hl, e⟩ := I.lstM hH
  refine call_meets F.slot_list_append ⟨_, e, rfl⟩ F.entry_list_append (F.args_list_append_2 _ _) (PySem.list_append l its.toArray n u (by rw [List.size_toArray]; omega)) ⟨e, ?_⟩
  refine ⟨.non, _, I.lset (its' := its ++ [u]) hH e (by simp) (r.append (.cons ru .nil)) ?_, rfl, q⟩
  rw [List.length_append, List.length_singleton]
  omega

def rExtend : V → List V → Hp → VK → Prop := fun x vs H Q => ∃ l b xs zs, x = .ref l ∧ vs = [.ref b] ∧ H l = some (.lst xs) ∧ H b = some (.lst zs) ∧ xs.length + zs.length ≤ sizeLine ∧ Q .non (upd H l (.lst (xs ++ zs)))
theorem mt_extend : MtM X "list.extend" rExtend := by
  intro pins s σ H x vs v us Q I rx rv h
  obtain ⟨l, b, xs, zs, rfl, rfl, hH, hB, hz, q⟩ := h
  cases rx
  obtain ⟨u, rfl, ru⟩ := rv.one
  cases ru
  obtain ⟨z, its, n, r, hl, e⟩ := I.lstM hH
  obtain ⟨z2, its2, n2, r2, hl2, e2⟩ := I.lstM hB
  have hsz : its.toArray.size + its2.toArray.size ≤ sizeLine := by rw [List.size_toArray, List.size_toArray]; omega
  have hlong : ¬ (!its.toArray.isEmpty && Builtin.List.listTooLong (its.toArray.size + its2.toArray.size)) = true := by
    rw [notLongL hsz, Bool.and_false]
    exact Bool.false_ne_true
  refine call_meets F.slot_list_extend ⟨_, e, rfl⟩ F.entry_list_extend (F.args_list_extend_2 _ _)
    (AutoSeq1.list_extend_list_list_0 l its.toArray n b its2.toArray n2 hlong (by rw [List.size_toArray]; omega) (by omega)) ⟨e, e2, ?_⟩
  refine ⟨.non, _, I.lset (its' := its ++ its2) hH e (by simp) (r.append r2) ?_, rfl, q⟩
  rw [List.length_append]
  omega

def rPop : V → List V → Hp → VK → Prop := fun x vs H Q => ∃ l xs y, x = .ref l ∧ vs = [] ∧ H l = some (.lst xs) ∧ xs[xs.length - 1]? = some y ∧ Q y (upd H l (.lst xs.dropLast))
theorem mt_pop : MtM X "list.pop" rPop := by
  intro pins s σ H x vs v us Q I rx rv h
  obtain ⟨l, xs, y, rfl, rfl, hH, hy, q⟩ := h
  cases rx
  have hus := rv.zero
  subst hus
  obtain ⟨z, its, n, r, hl, e⟩ := I.lstM hH
  obtain ⟨u, hu, ru⟩ := r.get hy
  have hy' : its.toArray[its.toArray.size - 1]? = some u := by
    show its.toArray[its.length - 1]? = some u
    rw [← Array.getElem?_toList, ← hl]
    exact hu
  refine call_meets F.slot_list_pop ⟨_, e, rfl⟩ F.entry_list_pop (F.args_list_pop_1 _) (MeetsSeq.list_pop_last l its.toArray n u hy' (by rw [List.size_toArray]; omega)) ⟨e, ?_⟩
  refine ⟨y, _, I.lset (its' := its.dropLast) hH e ?_ r.dropLast ?_, ru, q⟩
  · show its.toArray.eraseIdxIfInBounds (its.toArray.size - 1) = its.dropLast.toArray
    rw [List.size_toArray, List.eraseIdxIfInBounds_toArray, erase_last]
  · rw [List.length_dropLast]
    omega

def rPopAt : V → List V → Hp → VK → Prop := fun x vs H Q => ∃ l xs i k y, x = .ref l ∧ vs = [.int i] ∧ H l = some (.lst xs) ∧ -(2 ^ 63) ≤ i ∧ i < 2 ^ 63 ∧ seqIndex? i xs.length = some k ∧ xs[k]? = some y ∧ Q y (upd H l (.lst (xs.eraseIdx k)))
theorem mt_popAt : MtM X "list.pop" rPopAt := by
  intro pins s σ H x vs v us Q I rx rv h
  obtain ⟨l, xs, i, k, y, rfl, rfl, hH, h1, h2, hk, hy, q⟩ := h
  cases rx
  obtain ⟨u, rfl, ru⟩ := rv.one
  obtain ⟨t, rfl⟩ := ru
  obtain ⟨z, its, n, r, hl, e⟩ := I.lstM hH
  obtain ⟨w, hw, rw'⟩ := r.get hy
  refine call_meets F.slot_list_pop ⟨_, e, rfl⟩ F.entry_list_pop (F.args_list_pop_2 _ _)
    (MeetsSeq.list_pop_at l its.toArray n i t k w (fitsIndex_both h1 h2) (by rw [List.size_toArray, ← hl]; exact hk) (by rw [← Array.getElem?_toList]; exact hw) (by rw [List.size_toArray]; omega)) ⟨e, ?_⟩
  refine ⟨y, _, I.lset (its' := its.eraseIdx k) hH e ?_ (r.eraseIdx k) ?_, rw', q⟩
  · show its.toArray.eraseIdxIfInBounds k = (its.eraseIdx k).toArray
    rw [List.eraseIdxIfInBounds_toArray]
  · have := len_erase xs k
    omega

def rReverse : V → List V → Hp → VK → Prop := fun x vs H Q => ∃ l xs, x = .ref l ∧ vs = [] ∧ H l = some (.lst xs) ∧ Q .non (upd H l (.lst xs.reverse))
theorem mt_reverse : MtM X "list.reverse" rReverse := by
  intro pins s σ H x vs v us Q I rx rv h
  obtain ⟨l, xs, rfl, rfl, hH, q⟩ := h
  cases rx
  have hus := rv.zero
  subst hus
  obtain ⟨z, its, n, r, hl, e⟩ := I.lstM hH
  refine call_meets F.slot_list_reverse ⟨_, e, rfl⟩ F.entry_list_reverse (F.args_list_reverse_1 _) (AutoSeq1.list_reverse_list_0 l its.toArray n (by rw [List.size_toArray]; omega)) ⟨e, ?_⟩
  refine ⟨.non, _, I.lset (its' := its.reverse) hH e (by simp) r.reverse ?_, rfl, q⟩
  rw [List.length_reverse]
  omega

def rClear : V → List V → Hp → VK → Prop := fun x vs H Q => ∃ l xs, x = .ref l ∧ vs = [] ∧ H l = some (.lst xs) ∧ Q .non (upd H l (.lst []))
theorem mt_clear : MtM X "list.clear" rClear := by
  intro pins s σ H x vs v us Q I rx rv h
  obtain ⟨l, xs, rfl, rfl, hH, q⟩ := h
  cases rx
  have hus := rv.zero
  subst hus
  obtain ⟨z, its, n, r, hl, e⟩ := I.lstM hH
  refine call_meets F.slot_list_clear ⟨_, e, rfl⟩ F.entry_list_clear (F.args_list_clear_1 _) (AutoSeq1.list_clear_list_0 l its.toArray n (by rw [List.size_toArray]; omega)) ⟨e, ?_⟩
  exact ⟨.non, _, I.lset (its' := []) (ys := []) hH e rfl .nil (Nat.zero_le _), rfl, q⟩

/-! ### list + list, list += list, list * int -/
def rCat : R2 := fun x y H Q => ∃ l b xs zs, x = .ref l ∧ y = .ref b ∧ H l = some (.lst xs) ∧ H b = some (.lst zs) ∧ xs.length + zs.length ≤ sizeLine ∧ ∀ p, H p = none → Q (.ref p) (upd H p (.lst (xs ++ zs)))
theorem op_cat : OpR X (binaryOp .Add) rCat := by
  intro pins s σ H x y v u Q I rx ry h
  obtain ⟨l, b, xs, zs, rfl, rfl, hH, hB, hz, q⟩ := h
  cases rx
  cases ry
  obtain ⟨z, its, n, r, hl, e⟩ := I.lstM hH
  obtain ⟨z2, its2, n2, r2, hl2, e2⟩ := I.lstM hB
  refine PySem.P.add_list e e2 ?_ (by rw [List.size_toArray, List.size_toArray]; omega)
  have ea : its.toArray ++ its2.toArray = (its ++ its2).toArray := by simp
  rw [ea]
  exact ⟨.ref _, _, I.lnew (t' := s.toks) (r.append r2) (by rw [List.length_append]; omega), rfl, q _ I.fresh⟩
/-- a list times an int (a negative one is nothing) -/
def rRep : R2 := fun x y H Q => ∃ l k xs, x = .ref l ∧ y = .int k ∧ H l = some (.lst xs) ∧ -(2 ^ 63) ≤ k ∧ k < 2 ^ 63 ∧ xs.length * k.toNat ≤ sizeLine ∧
  ∀ p, H p = none → Q (.ref p) (upd H p (.lst (List.replicate k.toNat xs).flatten))
theorem len_rep {α : Type} (xs : List α) (k : Nat) : (List.replicate k xs).flatten.length = k * xs.length := by
  induction k with
  | zero => simp
  | succ k ih => rw [List.replicate_succ, List.flatten_cons, List.length_append, ih, Nat.succ_mul, Nat.add_comm]
theorem op_rep : OpR X (binaryOp .Mult) rRep := by
  intro pins s σ H x y v u Q I rx ry h
  obtain ⟨l, k, xs, rfl, rfl, hH, h1, h2, hz, q⟩ := h
  cases rx
  obtain ⟨t, rfl⟩ := ry
  obtain ⟨z, its, n, r, hl, e⟩ := I.lstM hH
  have hlen : its.toArray.size * k.toNat ≤ sizeLine := by rw [List.size_toArray, ← hl]; exact hz
  have hcap : ¬ its.toArray.size * k.toNat > (2 ^ 63 - 1) / 8 := by
    have : (sizeLine : Nat) ≤ (2 ^ 63 - 1) / 8 := by decide
    omega
  have hfit : ¬ (!Builtin.List.listFitsIndex k) = true := by
    rw [fitsIndex_both h1 h2]
    exact Bool.false_ne_true
  have hlong : ¬ Builtin.List.listTooLong (its.toArray.size * k.toNat) = true := by
    rw [notLongL hlen]
    exact Bool.false_ne_true
  have hnew : List.foldl (fun x1 x2 => x1 ++ x2) #[] (List.replicate (if its.toArray.isEmpty = true then 0 else k.toNat) its.toArray) = (List.replicate k.toNat its).flatten.toArray := by
    have f0 : ∀ m : Nat, List.foldl (fun x1 x2 => x1 ++ x2) #[] (List.replicate m its.toArray) = (List.replicate m its).flatten.toArray := fun m => by
      have := foldl_rep its m []
      rw [List.nil_append] at this
      exact this
    rw [f0]
    cases its with
    | nil => simp
    | cons a r' => rw [if_neg (by simp)]
  refine wpAny_binaryOp_repeat_ref (T := "list") (U := "int") (by decide) ⟨_, e, rfl⟩ (fun s' => typeIs_int s' k t) noFill_list_mul F.fills_int_mul F.slot_int_rmul repeat_list F.slot_int_index.lookup
    (call_meets F.slot_int_rmul (typeIs_int s k t) F.entry_int_rmul (F.args_int_rmul_2 _ _) (int___rmul___int_list k t l its.toArray n)
      ⟨e, rfl, ⟨_, e, rfl⟩, call_meets F.slot_list_mul ⟨_, e, rfl⟩ F.entry_list_mul (F.args_list_mul_2 _ _) (AutoListH.list___mul___list_int_3 l its.toArray n k t hfit hcap hlong) ⟨e, ?_⟩⟩)
  rw [hnew]
  exact ⟨.ref _, _, I.lnew (t' := s.toks) (r.rep k.toNat) (by rw [len_rep, Nat.mul_comm]; exact hz), rfl, q _ I.fresh⟩

/-! ### del xs[i] -/
theorem del_list {pins : List (Addr × Obj)} {s : Shared} {σ : St} {H : Hp} {l : Addr} {xs : List V} {i : Int} {t : Tok} {k : Nat} {Q : Unit → Shared → Prop} (I : Inv X pins σ H s) (hH : H l = some (.lst xs))
    (h1 : -(2 ^ 63) ≤ i) (h2 : i < 2 ^ 63) (hk : seqIndex? i xs.length = some k) (h : ∀ s', Inv X pins σ (upd H l (.lst (xs.eraseIdx k))) s' → Q () s') :
    wpAny (model X.prog X.w) X.A (delItem (.ref l) (.int i t)) Q X.xe s := by
  obtain ⟨z, its, n, r, hl, e⟩ := I.lstM hH
  refine PySem.P.delItem_list (k := k) e (fitsIndex_both h1 h2) (by rw [List.size_toArray, ← hl]; exact hk) (h _ ?_) (by rw [List.size_toArray]; omega)
  refine I.lset (its' := its.eraseIdx k) (t' := s.toks) hH e ?_ (r.eraseIdx k) ?_
  · show its.toArray.eraseIdxIfInBounds k = (its.eraseIdx k).toArray
    rw [List.eraseIdxIfInBounds_toArray]
  · have := len_erase xs k
    omega
end

/-! ### xs[a:b] = ys -/
section
variable {prog : Program} {w : World} {A : Around} {E : Value → Shared → Prop} {s : Shared}
theorem splice_eq (its its2 : List Value) (a c : Nat) : its.toArray.extract 0 a ++ its2.toArray ++ its.toArray.extract c its.toArray.size = (its.take a ++ its2 ++ its.drop c).toArray := by
  apply Array.toList_inj.mp
  first
    | (simp
       exact List.take_of_length_le (by simp))
    | simp [List.take_of_length_le]
    | simp
theorem bounds_run {a c n : Nat} (hac : a ≤ c) (hc : c ≤ n) : sliceBounds (some (a : Int)) (some (c : Int)) none n = ((a : Int), (c : Int), 1) := by
  simp only [sliceBounds, Option.getD_none]
  have h1 : ¬ ((a : Int) < 0) := by omega
  have h2 : ¬ ((c : Int) < 0) := by omega
  simp only [h1, h2, if_false, show (1 : Int) > 0 by decide, if_true]
  congr 1
  · omega
  · congr 1; omega
set_option maxRecDepth 100000 in
/-- list.__setitem__ with a slice of step one and another list -/
theorem setItem_slice {l b sl : Addr} {items new : Array Value} {n n2 : Nat} {vl vu : Value} {a c : Nat} {Q : Unit → Shared → Prop}
    (e : s.heap.get? l = some { cls := .type "list", data := .seq items n }) (e2 : s.heap.get? b = some { cls := .type "list", data := .seq new n2 }) (hne : l ≠ b)
    (hs : s.heap.IsSliceOf sl vl vu .none) (pl : IsPart vl (some (a : Int))) (pu : IsPart vu (some (c : Int))) (hac : a ≤ c) (hc : c ≤ items.size)
    (hsz : items.size + new.size ≤ sizeLine) (h : Q () { s with heap := s.heap.update l (Obj.mapSeq fun xs => xs.extract 0 a ++ new ++ xs.extract c xs.size) }) :
    wpAny (model prog w) A (setItem (.ref l) (.ref sl) (.ref b)) Q E s := by
  have hl : s.heap.IsList l items := PySem.IsL.isList e
  have hb : s.heap.IsList b new := PySem.IsL.isList e2
  obtain ⟨os, hos, hcs, hds⟩ := id hs
  have hTs : s.TypeIs (.ref sl) "slice" := ⟨os, hos, hcs⟩
  have hstep : ¬ ((rawPart none == rawInt 0) = true) := Bool.false_ne_true
  have hsame : Builtin.List.listSameRef (.ref l) (.ref b) = false := by
    unfold Builtin.List.listSameRef
    exact beq_eq_false_iff_ne.mpr hne
  have hmax : (max (a : Int) (c : Int)).toNat = c := by omega
  have hz' : ((fun xs : Array Value => xs.extract 0 a ++ new ++ xs.extract c xs.size) items).size ≤ sizeLine + 1 := by
    simp only [Array.size_append, Array.size_extract]
    omega
  unfold setItem
  try with_reducible refine wpAny_holding ?_
  first | refine wpAny_bind (wpAny_pure ?_) | skip
  refine wpAny_bind (wpAny_sequenceKey hl.typeIs (by decide) ?_)
  refine wpAny_bind (wpAny_callSpecial?_slot (name := Str.ofString "__setitem__") hl.typeIs slot_list_setitem
    (wpAny_call_entry slot_list_setitem hl.typeIs entry_list_setitem ?_ (args_list_setitem _ _ _)))
  show wpAny _ _ (Builtin.List.listSubscript? (.ref sl) >>= _) _ _ s
  refine wpAny_bind ?_
  unfold Builtin.List.listSubscript?
  refine wpAny_bind (wpAny_specialOf hTs slice_no_index ?_)
  simp only [Option.isNone_none, if_true]
  refine wpAny_pure ?_
  show wpAny _ _ (typeOf (.ref sl) >>= _) _ _ s
  refine wpAny_bind (wpAny_typeOf hTs ?_)
  first
    | rw [if_neg (by decide)]
    | refine PySem.W.KFB.if_not (by decide) ?_
  rw [listSliceParts_eq]
  refine wpAny_bind (wpAny_bind (wpAny_field hos hds (x := .none) rfl (wpAny_bind (wpAny_listPart .none ?_))))
  rw [if_neg hstep]
  refine wpAny_bind (wpAny_field hos hds (x := vl) rfl (wpAny_bind (wpAny_listPart pl ?_)))
  refine wpAny_bind (wpAny_field hos hds (x := vu) rfl (wpAny_bind (wpAny_listPart pu (wpAny_pure ?_))))
  first
    | simp only [hsame, Bool.false_eq_true, if_false]
    | refine PySem.W.KFB.if_not hsame ?_
    | (dsimp only
       rw [if_neg (by rw [hsame]; exact Bool.false_ne_true)])
  refine wpAny_bind (m := Builtin.List.listAllItems (.ref b) "must assign iterable to extended slice") ?_
  unfold Builtin.List.listAllItems
  refine wpAny_bind (wpAny_typeOf hb.typeIs ?_)
  first
    | refine PySem.W.KFB.if_so (by decide) ?_
    | rw [if_pos (by decide)]
    | simp only [beq_self_eq_true, Bool.true_or, if_true]
  unfold Builtin.List.listItems
  refine wpAny_bind (wpAny_seqItems e2 rfl (wpAny_pure ?_))
  refine wpAny_bind (wpAny_bind (wpAny_seqItems e rfl (wpAny_pure ?_)))
  refine wpAny_bind (wpAny_of_eq ((sliceIndices_raw (some (a : Int)) (some (c : Int)) none items.size (by simp)).trans (congrArg (pure : Int × Int × Int → Sem (Int × Int × Int)) (bounds_run hac hc))) ?_)
  show wpAny _ _ (if ((1 : Int) == 1) = true then _ else _) _ _ s
  rw [if_pos (by decide)]
  refine wpAny_bind (wpAny_rule ?_)
  first
    | simp only [notLongL hsz, Bool.false_eq_true, if_false]
    | refine PySem.W.KFB.if_not (notLongL hsz) ?_
  first | refine wpAny_bind (wpAny_pure ?_) | skip
  show wpAny _ _ (updateSeq l (fun xs => xs.extract 0 ((a : Int)).toNat ++ new ++ xs.extract (max (a : Int) (c : Int)).toNat xs.size) >>= _) _ _ s
  rw [hmax, Int.toNat_natCast]
  refine wpAny_bind (wpAny_updateSeq (hz := Nat.le_trans (Nat.le_add_right _ _) hsz) (_hz' := hz') e rfl ?_)
  refine wpAny_bind (wpAny_letGo ?_)
  first
    | exact wpAny_bind (wpAny_pure (wpAny_pure ⟨.none, rfl, wpAny_pure h⟩))
    | exact wpAny_pure ⟨.none, rfl, wpAny_pure h⟩
end

section
variable {X : Cx}
/-- xs[a:c] = ys of another list, at the value level: sl is the slice object that was just made -/
theorem set_slice {pins : List (Addr × Obj)} {s : Shared} {σ : St} {H : Hp} {l b sl : Addr} {xs ys : List V} {a c : Int} {vl vu : Value} {Q : Unit → Shared → Prop} (I : Inv X pins σ H s)
    (hH : H l = some (.lst xs)) (hB : H b = some (.lst ys)) (hne : l ≠ b) (hs : s.heap.IsSliceOf sl vl vu .none) (ra : RelV (.int a) vl) (rc : RelV (.int c) vu) (h0 : 0 ≤ a) (hac : a ≤ c) (hc : c ≤ xs.length)
    (hz : xs.length + ys.length ≤ sizeLine) (h : ∀ s', Inv X pins σ (upd H l (.lst (xs.take a.toNat ++ ys ++ xs.drop c.toNat))) s' → Q () s') :
    wpAny (model X.prog X.w) X.A (setItem (.ref l) (.ref sl) (.ref b)) Q X.xe s := by
  obtain ⟨ta, rfl⟩ := ra
  obtain ⟨tc, rfl⟩ := rc
  obtain ⟨z, its, n, r, hl, e⟩ := I.lstM hH
  obtain ⟨z2, its2, n2, r2, hl2, e2⟩ := I.lstM hB
  obtain ⟨a', rfl⟩ := Int.eq_ofNat_of_zero_le h0
  obtain ⟨c', rfl⟩ := Int.eq_ofNat_of_zero_le (Int.le_trans h0 hac)
  simp only [Int.toNat_natCast] at h
  refine setItem_slice (a := a') (c := c') e e2 hne hs (.int _ _) (.int _ _) (by omega) (by rw [List.size_toArray]; omega) (by rw [List.size_toArray, List.size_toArray]; omega) (h _ ?_)
  refine I.lset (its' := its.take a' ++ its2 ++ its.drop c') (t' := s.toks) hH e ?_ (Vals.append (Vals.append (r.take _) r2) (r.drop _)) ?_
  · exact splice_eq its its2 a' c'
  · rw [List.length_append, List.length_append, List.length_take, List.length_drop]
    omega
end
end L2

namespace Att
open PySem PySem.W PySem.Calls PyProof.Rows

/-! ### the script -/
theorem ints_of_wellAll {P : Params} {h : Heap} : ∀ (ns : List Int) (vs : List Value), WellAll P h vs (ns.map WData.int) → IntsAre vs ns := by
  intro ns
  induction ns with
  | nil =>
    intro vs w
    rw [List.map_nil] at w
    cases w
    exact .nil
  | cons n ns ih =>
    intro vs w
    rw [List.map_cons] at w
    cases w with
    | cons a b =>
      cases a
      exact .cons _ _ (ih _ b)

theorem script_of {l : OpenLaw} {n : Nat} (hn : l.most = some n) {P : Params} {h : Heap} {args : List WData} {vals : List Value}
    (hpre : l.row.toRowW.claim.pre args = true) (hwl : WellAll P h vals args) :
    ∃ a vs ns, vals = [Value.ref a] ∧ args = [WData.list (ns.map WData.int)] ∧ h.get? a = some { cls := .type "list", data := .seq vs.toArray } ∧ IntsAre vs ns ∧ ns.length ≤ n := by
  have hsh : WShape.hasAll [] args [.list .int] = true := (pre_splitW hpre).1
  have hc : l.pre.holds [] { args := args } = true := (pre_splitW hpre).2
  obtain ⟨d, r, rfl, h1, h2⟩ := hasAllW_cons hsh
  obtain rfl := hasAllW_nil h2
  obtain ⟨xs, rfl, h3⟩ := hasW_list h1
  obtain ⟨ns, rfl⟩ := items_int h3
  have hlen : ns.length ≤ n := by
    unfold OpenLaw.pre at hc
    have h4 : (WTm.not (.lt (.lit (.int (n : Int))) (.len (.arg 0)))).holds [] { args := [.list (ns.map .int)] } = true := by
      have h4 := (holds_andW hc).1
      rw [hn] at h4
      exact h4
    have h5 := condW_of h4 (w_not (w_lt w_lit (w_len_list (w_arg rfl))))
    rw [List.length_map] at h5
    refine Nat.le_of_not_lt fun q => ?_
    have q' : (n : Int) < ((ns.length : Nat) : Int) := by omega
    first
      | (rw [decide_eq_true q'] at h5; exact absurd h5 (by decide))
      | (simp at h5; omega)
  cases hwl with
  | cons w1 w2 =>
    cases w2
    cases w1 with
    | list ho hall => exact ⟨_, _, ns, rfl, rfl, ho, ints_of_wellAll ns _ hall, hlen⟩

theorem post_true (l : OpenLaw) (args : List WData) : l.row.toRowW.claim.post args (.bool true) args = true :=
  postW_of (r := l.row.toRowW) (X := (true == true))
    (show WShape.has [] (.bool true) .bool = true by first | rfl | decide | simp [WShape.has, WShape.arms, WShape.armsAll])
    (show (WTm.eq .res (.lit (.bool true))).value [] { args := args, res := some (.bool true), after := args } = some (.bool (true == true)) from w_eq_bool (w_res rfl) w_lit) rfl

/-! ### the attachment: holds_open's last premise (the goal 'hc' behind k_head) from a wpAny of the law's body -/
theorem attach {l : OpenLaw} {n : Nat} {q : Program} {loose : List Str} {XP : (Str → Option Value) → Heap → Prop} {YP : World → Heap → Prop} {d : DefRec} {x : Str}
    (hn : l.most = some n) (hdf : d.params.defaults = [])
    (hbind : ∀ pm cd doc v : Value, bindArgs (docDef d.name d.params d.body d.scope pm cd doc) ⟨[v], []⟩ = pure [(x, v)])
    (hx : d.scope.names.lookup x = some .local ∨ d.scope.names.lookup x = some .cell)
    (hk : d.scope.kind = .function) (hco : d.scope.isCoroutine = false) (hgen : d.scope.isGenerator = false)
    (body : ∀ (w : World) (s₀ s₁ s : Shared) (mg mb : Str → Option Value) (fa : Addr) (o : Obj) (pm cd doc : Value) (a : Addr) (vs : List Value) (ns : List Int),
      Ground q loose [] XP w s₀ mg mb s₁.heap → YP w s₁.heap →
      s₁.heap.get? fa = some o → o.data = .func (docDef d.name d.params d.body d.scope pm cd doc) → s₁.heap.CodeRec cd d.name → mg d.name = some (.ref fa) →
      s₁.heap.get? a = some { cls := .type "list", data := .seq vs.toArray } → IntsAre vs ns → ns.length ≤ n →
      s.gens = #[] → s.os = s₁.os →
      Fr s₁.heap s₁.heap.objs.size s.heap (bindL (envOfC d.name d.scope s₁.heap.objs.size fa cd).kindOf [(x, .ref a)] fun _ => none) →
      Cl s₁.heap.objs.size (cellsFrom (s₁.heap.objs.size + 1) d.scope.names []) s.heap (bindC (envOfC d.name d.scope s₁.heap.objs.size fa cd).kindOf [(x, .ref a)] fun _ => none) →
      wpAny (model l.prog w) (callerA.deeper (envOfC d.name d.scope s₁.heap.objs.size fa cd)) (execs d.body (envOfC d.name d.scope s₁.heap.objs.size fa cd))
        (fun f s' => f = .ret (.bool true) ∧ OldK s₁.heap s'.heap ∧ s'.os = s₁.os ∧ AllBare s'.gens) (fun _ _ => False) s) :
    WalkO q loose XP YP l.row.toRowW d [] (fun f vs => PySem.call f vs) := by
  intro w s₀ s₁ mg mb G Y fa o pm cd doc dV kV ho hd hcd hD hmg hg args vals as hpre hlay hrd hwl hlo
  obtain rfl : dV = .none := Dflts.none hD hdf
  obtain rfl : kV = .none := Dflts.noKw hD
  obtain ⟨a, vs, ns, rfl, rfl, hobj, hints, hlen⟩ := script_of hn hpre hwl
  refine enter_call ?_
  refine call_cells_ret (o := o) (by rw [depth_caller]; decide) ho (fd_plain hd) G.T.nolimit hcd (hbind pm cd doc (.ref a)) (fun y hy => ?_) (fun h₁ tk F X => ?_) hco hgen hk
  · obtain rfl : y = (x, Value.ref a) := List.mem_singleton.mp hy
    rcases hx with e | e
    · exact .inl e
    · exact .inr ⟨e, cellsFrom_some _ _ _ (.inl e)⟩
  · refine wpAny_mono (body w s₀ s₁ { s₁ with heap := h₁, toks := tk } mg mb fa o pm cd doc a vs ns G Y ho (fd_plain hd) hcd hmg hobj hints hlen hg rfl F X) (fun f s' hq => ?_) (fun _ _ hq => hq)
    obtain ⟨rfl, h2, h3, h4⟩ := hq
    exact ⟨.inl ⟨.bool true, .bool true, [], rfl, fun _ => rfl, .bool true, post_true l _, fun _ => ⟨List.Pairwise.nil, fun _ hm => (nomatch hm)⟩⟩, h2, h3, h4⟩

/-- the same from a codeAny of the CALL (for a layer whose function contracts speak of calls) -/
theorem attach_call {l : OpenLaw} {n : Nat} {q : Program} {loose : List Str} {XP : (Str → Option Value) → Heap → Prop} {YP : World → Heap → Prop} {d : DefRec}
    (hn : l.most = some n) (hdf : d.params.defaults = [])
    (call : ∀ (w : World) (s₀ s₁ : Shared) (mg mb : Str → Option Value) (fa : Addr) (o : Obj) (pm cd doc : Value) (a : Addr) (vs : List Value) (ns : List Int),
      Ground q loose [] XP w s₀ mg mb s₁.heap → YP w s₁.heap →
      s₁.heap.get? fa = some o → o.data = .func (docDef d.name d.params d.body d.scope pm cd doc) → s₁.heap.CodeRec cd d.name → mg d.name = some (.ref fa) →
      s₁.heap.get? a = some { cls := .type "list", data := .seq vs.toArray } → IntsAre vs ns → ns.length ≤ n → s₁.gens = #[] →
      codeAny (model l.prog w) callerA (.call (.ref fa) ⟨[.ref a], []⟩) (fun r s' => r = .ok (.ret (.bool true)) ∧ OldK s₁.heap s'.heap ∧ s'.os = s₁.os ∧ AllBare s'.gens) s₁) :
    WalkO q loose XP YP l.row.toRowW d [] (fun f vs => PySem.call f vs) := by
  intro w s₀ s₁ mg mb G Y fa o pm cd doc dV kV ho hd hcd hD hmg hg args vals as hpre hlay hrd hwl hlo
  obtain rfl : dV = .none := Dflts.none hD hdf
  obtain rfl : kV = .none := Dflts.noKw hD
  obtain ⟨a, vs, ns, rfl, rfl, hobj, hints, hlen⟩ := script_of hn hpre hwl
  refine enter_call (codeAny_mono (call w s₀ s₁ mg mb fa o pm cd doc a vs ns G Y ho (fd_plain hd) hcd hmg hobj hints hlen hg) fun r s' hq => ?_)
  obtain ⟨rfl, h2, h3, h4⟩ := hq
  exact ⟨.inl ⟨.bool true, .bool true, [], rfl, fun _ => rfl, .bool true, post_true l _, fun _ => ⟨List.Pairwise.nil, fun _ hm => (nomatch hm)⟩⟩, h2, h3, h4⟩

/-- the same where the top left finished generators (o_head chose holds_openN): nothing may have changed at all and no generator may be left -/
theorem attachN {l : OpenLaw} {n : Nat} {q : Program} {loose : List Str} {XP : (Str → Option Value) → Heap → Prop} {YP : World → Heap → Prop} {d : DefRec} {x : Str}
    (hn : l.most = some n) (hdf : d.params.defaults = [])
    (hbind : ∀ pm cd doc v : Value, bindArgs (docDef d.name d.params d.body d.scope pm cd doc) ⟨[v], []⟩ = pure [(x, v)])
    (hx : d.scope.names.lookup x = some .local ∨ d.scope.names.lookup x = some .cell)
    (hk : d.scope.kind = .function) (hco : d.scope.isCoroutine = false) (hgen : d.scope.isGenerator = false)
    (body : ∀ (w : World) (s₀ s₁ s : Shared) (mg mb : Str → Option Value) (fa : Addr) (o : Obj) (pm cd doc : Value) (a : Addr) (vs : List Value) (ns : List Int),
      Ground q loose [] XP w s₀ mg mb s₁.heap → YP w s₁.heap →
      s₁.heap.get? fa = some o → o.data = .func (docDef d.name d.params d.body d.scope pm cd doc) → s₁.heap.CodeRec cd d.name → mg d.name = some (.ref fa) →
      s₁.heap.get? a = some { cls := .type "list", data := .seq vs.toArray } → IntsAre vs ns → ns.length ≤ n →
      s.gens = #[] → s.os = s₁.os →
      Fr s₁.heap s₁.heap.objs.size s.heap (bindL (envOfC d.name d.scope s₁.heap.objs.size fa cd).kindOf [(x, .ref a)] fun _ => none) →
      Cl s₁.heap.objs.size (cellsFrom (s₁.heap.objs.size + 1) d.scope.names []) s.heap (bindC (envOfC d.name d.scope s₁.heap.objs.size fa cd).kindOf [(x, .ref a)] fun _ => none) →
      wpAny (model l.prog w) (callerA.deeper (envOfC d.name d.scope s₁.heap.objs.size fa cd)) (execs d.body (envOfC d.name d.scope s₁.heap.objs.size fa cd))
        (fun f s' => f = .ret (.bool true) ∧ (∀ b o, s₁.heap.get? b = some o → s'.heap.get? b = some o) ∧ s'.os = s₁.os ∧ s'.gens = #[]) (fun _ _ => False) s) :
    WalkN q loose XP YP l.row.toRowW d [] (fun f vs => PySem.call f vs) := by
  intro w s₀ s₁ mg mb G Y fa o pm cd doc dV kV ho hd hcd hD hmg hg args vals as hpre hlay hrd hwl hlo
  obtain rfl : dV = .none := Dflts.none hD hdf
  obtain rfl : kV = .none := Dflts.noKw hD
  obtain ⟨a, vs, ns, rfl, rfl, hobj, hints, hlen⟩ := script_of hn hpre hwl
  refine enter_callW ?_
  refine call_cells_ret (o := o) (by rw [depth_caller]; decide) ho (fd_plain hd) G.T.nolimit hcd (hbind pm cd doc (.ref a)) (fun y hy => ?_) (fun h₁ tk F X => ?_) hco hgen hk
  · obtain rfl : y = (x, Value.ref a) := List.mem_singleton.mp hy
    rcases hx with e | e
    · exact .inl e
    · exact .inr ⟨e, cellsFrom_some _ _ _ (.inl e)⟩
  · refine wpAny_mono (body w s₀ s₁ { s₁ with heap := h₁, toks := tk } mg mb fa o pm cd doc a vs ns G Y ho (fd_plain hd) hcd hmg hobj hints hlen hg rfl F X) (fun f s' hq => ?_) (fun _ _ hq => hq)
    obtain ⟨rfl, h2, h3, h4⟩ := hq
    exact ⟨.inl ⟨.bool true, .bool true, [], rfl, fun _ => rfl, .bool true, post_true l _, fun _ => ⟨List.Pairwise.nil, fun _ hm => (nomatch hm)⟩⟩, h2, h3, h4⟩

/-! ### rules over ANY heap (no ledger) from facts about the written part K: the library's own take a ledger (News) for what they write -/
section
variable {prog : Program} {w : World} {A : Around} {E : Value → Shared → Prop} {s : Shared} {K : Frag}

/-- a def of the module, or a method (qual 'C.m'), entered: the frame is the next address; cells behind it -/
theorem call_fn {R : Result → Shared → Prop} {name qual : Str} {params : Arguments} {body : List Stmt} {scope : Scope} {dV kV doc pm cdv ct oc : Value} {an od : Option Addr} {osl : Array (Option Value)} {f : Addr} {args : Args} {binds : List (Str × Value)}
    (X : K.In s.heap) (hlim : s.heap.NoLimit) (ho : K.lookup f = some ⟨oc, od, .func (fnOf name qual params body scope dV kV doc pm an cdv ct), osl⟩) (hcd : codeIn K cdv qual = true) (hroom : A.depth < recursionLimit)
    (hbind : BindsTo s (fnOf name qual params body scope dV kV doc pm an cdv ct) args binds)
    (hkind : (binds.all fun y => scope.names.lookup y.1 == some .local || scope.names.lookup y.1 == some .cell) = true)
    (h : ∀ s₁, InCallC s s.heap.objs.size (bindL (envOfC qual scope s.heap.objs.size f cdv).kindOf binds fun _ => none) (cellsFrom (s.heap.objs.size + 1) scope.names [])
        (bindC (envOfC qual scope s.heap.objs.size f cdv).kindOf binds fun _ => none) s₁ →
      wpAny (model prog w) (A.deeper (envOfC qual scope s.heap.objs.size f cdv)) (execs body (envOfC qual scope s.heap.objs.size f cdv))
        (fun fl s' => R (.ok (.ret (match fl with | .ret v => v | _ => .none))) s')
        (fun e s' => wpAny (model prog w) (A.deeper (envOfC qual scope s.heap.objs.size f cdv)) (leaving (envOfC qual scope s.heap.objs.size f cdv) e) (fun _ s'' => R (.error e) s'') (fun e' s'' => R (.error e') s'') s') s₁)
    (hco : scope.isCoroutine = false) (hgen : scope.isGenerator = false) (hk : scope.kind = .function) : codeAny (model prog w) A (.call (.ref f) args) R s := by
  refine codeAny_call_function hroom (X _ _ ho) rfl hco hgen rfl (codeRec_of X hcd) (hbind _ _ _ _ ?_)
  refine wpAny_newFunctionEnv_cells hk (kindsX hkind _) fun env he s₁ x => ?_
  subst he
  exact ⟨hlim.keeps x.toInCall.keep, codeAny_func (h s₁ x)⟩

/-- C(..): dict at size, instance at size + 1, then __init__ -/
theorem make_obj {R : Result → Shared → Prop} {C fI : Addr} {rest : List Value} {kw : List (Str × Value)}
    (X : K.In s.heap) (hm : makesIn K C = true) (hi : findIn K (.ref C) "__init__" = some (some (.ref fI))) (hf : isFn K (.ref fI) = true)
    (h : codeAny (model prog w) (A.under (.builtin "type.__call__" ⟨.ref C :: rest, kw⟩)) (.call (.ref fI) ⟨.ref (s.heap.objs.size + 1) :: rest, kw⟩) (InitBack (s.heap.objs.size + 1) R)
      { s with heap := (s.heap.push emptyDict).push (instObj C s.heap.objs.size) }) : codeAny (model prog w) A (.call (.ref C) ⟨rest, kw⟩) R s := by
  obtain ⟨hh, g, d, t, os⟩ := s
  exact make_core (makes_of X hm) (looks_findIn X hi) (fun self => bind_fn X self (beq_iff_eq.mp hf)) (.inl rfl) h

/-- x.name where the instance's dict holds the name and the class does not -/
theorem get_field {x C : Addr} {ox : Obj} {es : List DictEntry} {n : Nat} {name : Str} {expr : Bool} {v : Value} {Q : Value → Shared → Prop}
    (X : K.In s.heap) (I : PySem.W.InstAt s.heap x ox C (some (dictOf es n))) (hg : plainGet K C name = true) (hh : hasDictIn K C = true) (ha : findIn K (.ref C) name = some none)
    (hl : getL name es = some (some v)) (hv : handedIn v = true) (h : Q v { s with toks := s.toks + 1 }) : wpAny (model prog w) A (getAttr (.ref x) name expr) Q E s :=
  get_value X I (plainGet_of hg).1 (findObj_own hh ha rfl hl) hv h

/-- x.m(..): the method found in the class -/
theorem get_method {x C f : Addr} {ox : Obj} {es : List DictEntry} {n : Nat} {name : Str} {pl : Sem Bool} {Q : Value × List Value → Shared → Prop}
    (X : K.In s.heap) (I : PySem.W.InstAt s.heap x ox C (some (dictOf es n))) (hg : plainGet K C name = true) (hf : findIn K (.ref C) name = some (some (.ref f))) (ht : isFn K (.ref f) = true)
    (hl : getL name es = some none) (h : Q (.ref f, [.ref x]) s) : wpAny (model prog w) A (getMethod (.ref x) name pl) Q E s :=
  method_fn X I (plainGet_of hg).1 (plainGet_of hg).2 hf (beq_iff_eq.mp ht) (by show (lookIn name (dictOf es n)).map _ = _; rw [lookIn_dict, hl]; rfl) h

/-! the whole heap as the ledger: makes every rule that writes through a ledger a rule over any heap -/
def noObjs (h : Heap) : Heap := { h with objs := #[] }
theorem noObjs_get (h : Heap) (b : Addr) : (noObjs h).get? b = none := by
  cases e : (noObjs h).get? b with
  | none => rfl
  | some o => exact absurd (Heap.lt_size e) (Nat.not_lt_zero _)
def ledger (h : Heap) (L d : Addr) : List (Addr × Obj) := (List.range h.objs.size).filterMap fun a => if a = L ∨ a = d then none else (h.get? a).map fun o => (a, o)
theorem mem_ledger {h : Heap} {L d a : Addr} {o : Obj} : (a, o) ∈ ledger h L d ↔ a ≠ L ∧ a ≠ d ∧ h.get? a = some o := by
  unfold ledger
  rw [List.mem_filterMap]
  constructor
  · rintro ⟨b, _, e⟩
    split at e
    · cases e
    · rename_i hb
      obtain ⟨o', ho, e'⟩ := Option.map_eq_some_iff.mp e
      cases e'
      exact ⟨fun q => hb (.inl q), fun q => hb (.inr q), ho⟩
  · rintro ⟨n1, n2, ho⟩
    refine ⟨a, List.mem_range.mpr (Heap.lt_size ho), ?_⟩
    rw [if_neg (show ¬ (a = L ∨ a = d) from fun q => q.elim n1 n2), ho] <;> rfl
theorem news_ledger {h : Heap} {L d : Addr} {od : Obj} (hne : d ≠ L) (ho : h.get? d = some od) : News (noObjs h) L h ([] ++ (d, od) :: ledger h L d) := by
  rintro ⟨a, o⟩ hp
  rcases List.mem_cons.mp hp with e | hp
  · cases e
    exact ⟨ho, hne, noObjs_get _ _⟩
  · obtain ⟨n1, n2, e⟩ := mem_ledger.mp hp
    exact ⟨e, n1, noObjs_get _ _⟩
theorem fr_all {h : Heap} {L : Addr} {m : Str → Option Value} (n : h.Ns L m) : Fr (noObjs h) L h m :=
  ⟨n, fun b o e => (by rw [noObjs_get] at e; cases e), Nat.zero_le _⟩
/-- Upd of the head entry (for append_K, setItem_K ..) -/
theorem upd_ledger {h : Heap} {L d : Addr} {o o' : Obj} : Upd d o o' ((d, o) :: ledger h L d) ((d, o') :: ledger h L d) :=
  .head fun ⟨_, _⟩ hp => (mem_ledger.mp hp).2.1

/-- x.name = v over any heap: L is any namespace of the heap (the frame's, say): its map stays, its object is not told; all else but the dict stays -/
theorem set_field {x C dx L : Addr} {ox : Obj} {m : Str → Option Value} {es es' : List DictEntry} {n n' : Nat} {name : Str} {v : Value} {Q : Unit → Shared → Prop}
    (X : K.In s.heap) (I : PySem.W.InstAt s.heap x ox C (some (dictOf es n))) (hd : ox.dict = some dx) (hL : s.heap.Ns L m) (hne : dx ≠ L)
    (hs : findIn K (.ref C) "__setattr__" = some (some (.builtin "object.__setattr__"))) (hp : plainOver K C = true) (ht : takerIn K C name = some none) (hh : hasDictIn K C = true) (hl : (getL name es).isSome = true)
    (e : (putL name (PyData.keyHash w.params name) (.str name (s.toks + 1)) v es, putN name es n) = (es', n')) (hz : es'.length ≤ 1000)
    (h : ∀ h' : Heap, h'.Ns L m → h'.get? dx = some (dictOf es' n') → (∀ b o, b ≠ dx → b ≠ L → s.heap.get? b = some o → h'.get? b = some o) → Q () { s with heap := h', toks := s.toks + 2 }) :
    wpAny (model prog w) A (setAttr (.ref x) name v) Q E s := by
  obtain ⟨e1, e2⟩ := Prod.mk.inj e
  have hdx : s.heap.get? dx = some (dictOf es n) := by
    have := I.dict
    rw [hd] at this
    exact this
  refine set_plain X I hs (osa_dict (s := { s with toks := s.toks + 1 }) (h₀ := noObjs s.heap) (L := L) (m := m) (od := dictOf es n) (od' := dictOf es' n') (es := es') (n := n') (pre := []) (post := ledger s.heap L dx)
    (fr_all hL) (news_ledger hne hdx) X I hd hp ht hh hl (fun _ q => nomatch q) (fun ⟨_, _⟩ q => (mem_ledger.mp q).2.1) (by rw [putName_dict, e1, e2]) rfl hz fun h' F' N' => ?_)
  exact h h' F'.ns (N'.get (List.Mem.head _)) fun b o n1 n2 ho => N'.get (List.Mem.tail _ (mem_ledger.mpr ⟨n2, n1, ho⟩))
end
end Att

namespace L2
open PySem PySem.Spec PyProof.Rows

theorem vals_ints : ∀ {vs : List Value} {ns : List Int}, IntsAre vs ns → Vals (ns.map V.int) vs
  | _, _, .nil => .nil
  | _, _, .cons n t h => .cons ⟨t, rfl⟩ (vals_ints h)

/-- nothing is tracked but the script, known to the object (or it is an object of the module) -/
def Only (H : Hp) : Prop := ∀ b, H b = none ∨ ∃ o xs, H b = some (.frz o (.lst xs))

/-- THE HEAD: the law's promise, at the heap behind the top. F, the promise of the law's def, may use that base is part of the heap (so K.In base, base.Ns mainGlobals mg stand in Mod) -/
theorem law_call {P : Program} {w : World} {K : PySem.W.Frag} {mg mb : Str → Option Value} {CX : CXT} {k : Nat} {fa a : Addr} {fd : FuncData} {x : Str} {sp : Sp} {s₁ : Shared} {vs : List Value} {ns : List Int}
    (KX : K.In s₁.heap) (hns : s₁.heap.Ns mainGlobals mg) (hb : s₁.heap.Ns builtinsNs mb) (hbb : ∀ x : Str, x ≠ "__name__" → mb x = bootBuiltins x) (hlim : s₁.heap.NoLimit) (hg : s₁.gens = #[])
    (ha : s₁.heap.get? a = some { cls := .type "list", data := .seq vs.toArray }) (hi : IntsAre vs ns) (hl : ns.length ≤ sizeLine) (hr : Room k callerA)
    (F : ∀ base : Heap, K.In base → base.Ns mainGlobals mg → FnOk P w K mg base CX k fa fd [x] sp) (hbind : ∀ (s : Shared) (u : Value), BindsTo s fd ⟨[u], []⟩ [(x, u)])
    (hsp : ∀ H : Hp, Only H → SqL K H a (ns.map V.int) → sp [.ref a] H (fun v _ => v = .bl true) fun _ _ _ => False)
    (hCX : ∀ H e s', CX [] H s₁ (fun _ _ _ => False) e s' → False) :
    codeAny (model P w) callerA (.call (.ref fa) ⟨[.ref a], []⟩) (fun r s' => r = .ok (.ret (.bool true)) ∧ OldK s₁.heap s'.heap ∧ s'.os = s₁.os ∧ AllBare s'.gens) s₁ := by
  have rv := vals_ints hi
  have lenV := hi.length
  -- from an abstract heap in which nothing but the script may be tracked
  have core : ∀ H : Hp, Only H → SqL K H a (ns.map V.int) → HOk P w H s₁.heap → (∀ b, H b ≠ none → b = a) → (H a ≠ none → K.lookup a = none) →
      codeAny (model P w) callerA (.call (.ref fa) ⟨[.ref a], []⟩) (fun r s' => r = .ok (.ret (.bool true)) ∧ OldK s₁.heap s'.heap ∧ s'.os = s₁.os ∧ AllBare s'.gens) s₁ := by
    intro H hO hS hok hA hK
    have base_of : ∀ {b : Addr} {o : Obj}, s₁.heap.get? b = some o → H b = none → (hidT s₁.heap H).get? b = some o := fun e n => hidT_get e n
    have noA : ∀ {b : Addr} {o : Obj} {es : Array DictEntry} {ep : Nat}, s₁.heap.get? b = some o → o.data = .dict es ep → H b = none := fun {b o es ep} e d => by
      cases q : H b with
      | none => rfl
      | some u =>
        have e' : b = a := hA b (by rw [q]; simp)
        subst e'
        rw [ha] at e; cases e
        have d' : Data.seq vs.toArray _ = Data.dict es ep := d
        cases d'
    have nsK : ∀ {b : Addr} {m : Str → Option Value}, s₁.heap.Ns b m → (hidT s₁.heap H).Ns b m := fun {b m} ⟨o, es, ep, e, d, r⟩ => ⟨o, es, ep, base_of e (noA e d), d, r⟩
    have hKb : K.In (hidT s₁.heap H) := fun b o e => base_of (KX b o e) (by
      cases q : H b with
      | none => rfl
      | some u =>
        have e' : b = a := hA b (by rw [q]; simp)
        subst e'
        rw [hK (by rw [q]; simp)] at e; cases e)
    have hM : Mod K mg (hidT s₁.heap H) := ⟨hKb, nsK hns, ⟨mb, nsK hb, hbb⟩, let ⟨mc, h1, h2⟩ := hlim; ⟨mc, nsK h1, h2⟩⟩
    have e0 : Env0 P w K mg (hidT s₁.heap H) callerA [] s₁ H := ⟨rfl, hM, fun b o e => of_hidT e, Nat.le_of_eq (hidT_size _ _), trivial, fun b hb => absurd (show b ∈ ([] : List Addr) from hb) (by simp), hok, .of_eq hg⟩
    refine codeAny_mono ((F _ hKb (nsK hns)).run callerA [] s₁ H ⟨[.ref a], []⟩ [.ref a] [.ref a] _ _ hr e0 (hbind s₁ (.ref a)) (.cons rfl .nil) (hsp H hO hS)) fun r s' h => ?_
    cases r with
    | error e => exact (hCX H e s' h).elim
    | ok fl =>
      cases fl with
      | next => exact False.elim h
      | brk => exact False.elim h
      | cont => exact False.elim h
      | ret u =>
        obtain ⟨v, H', os, bare, un, hok', r', q⟩ := h
        have q' : v = .bl true := q
        subst q'
        obtain rfl : u = Value.bool true := r'
        refine ⟨rfl, OldK.of_keep fun b o e => ?_, os, bare⟩
        cases q : H b with
        | none => exact un.keep b o e q (by intro z; exact absurd (show b ∈ ([] : List Addr) from z) (by simp)) (by simp)
        | some u =>
          rcases hO b with z | ⟨ob, xs, z⟩
          · rw [q] at z; cases z
          · have z2 := un.frzs b ob _ z
            obtain ⟨e1, _⟩ := hok b _ z
            obtain ⟨e2, _⟩ := hok' b _ z2
            rw [e] at e1; cases e1
            exact e2
  cases hk : K.lookup a with
  | some o =>
    -- the script is one of the module's own objects
    have e := KX a o hk
    rw [ha] at e
    cases e
    refine core (fun _ => none) (fun _ => .inl rfl) (.inr ⟨_, vs.toArray, _, hk, rfl, rfl, rfl, by rw [List.size_toArray, lenV]; exact hl, by simpa using rv⟩) (fun b u z => by have z' : (none : Option HO) = some u := z; cases z') (fun b z => absurd rfl z) fun z => absurd rfl z
  | none =>
    refine core (fun b => if b = a then some (.frz { cls := .type "list", data := .seq vs.toArray } (.lst (ns.map V.int))) else none) (fun b => ?_) (.inl (.inr ⟨{ cls := .type "list", data := .seq vs.toArray }, if_pos rfl⟩)) (fun b u z => ?_) (fun b z => ?_) fun _ => hk
    · by_cases hb : b = a
      · exact .inr ⟨_, _, if_pos hb⟩
      · exact .inl (if_neg hb)
    · by_cases hb : b = a
      · have z' := (if_pos hb).symm.trans z
        cases z'
        subst hb
        exact ⟨ha, by rw [List.length_map]; exact hl, vs, _, rv, ha⟩
      · have z' := (if_neg hb).symm.trans z
        cases z'
    · by_cases hb : b = a
      · exact hb
      · exact absurd (if_neg hb) z
end L2

namespace L2
open PySem PySem.Spec PyProof.Rows

abbrev KOf {K : PySem.W.Frag} {h : Heap} (_ : K.In h) : PySem.W.Frag := K

/-- the goal that k_head leaves (case hc), from the law's promise. F gives the function object fd (K's own) once, then the promise over every base -/
theorem walk_of {l : PySem.W.OpenLaw} {n k : Nat} {q : Program} {loose : List Str} {XP : (Str → Option Value) → Heap → Prop} {YP : World → Heap → Prop} {d : DefRec} {K : Params → PySem.W.Frag} {CX : World → CXT} {sp : World → Sp} {x : Str}
    (hn : l.most = some n) (hn2 : n ≤ sizeLine) (hdf : d.params.defaults = []) (hr : Room k callerA)
    (hY : ∀ (w : World) (h : Heap), YP w h → (K w.params).In h)
    (F : ∀ (w : World) (mg : Str → Option Value) (fa : Addr) (h : Heap), (K w.params).In h → h.Ns mainGlobals mg → mg d.name = some (.ref fa) →
      ∃ fd : FuncData, (∀ (s : Shared) (u : Value), BindsTo s fd ⟨[u], []⟩ [(x, u)]) ∧
        ∀ base : Heap, (K w.params).In base → base.Ns mainGlobals mg → FnOk l.prog w (K w.params) mg base (CX w) k fa fd [x] (sp w))
    (hsp : ∀ (w : World) (H : Hp) (a : Addr) (ns : List Int), ns.length ≤ n → Only H → SqL (K w.params) H a (ns.map V.int) → sp w [.ref a] H (fun v _ => v = .bl true) fun _ _ _ => False)
    (hCX : ∀ (w : World) (H : Hp) (s : Shared) (e : Value) (s' : Shared), CX w [] H s (fun _ _ _ => False) e s' → False) :
    PySem.W.WalkO q loose XP YP l.row.toRowW d [] (fun f vs => PySem.call f vs) := by
  refine Att.attach_call hn hdf fun w s₀ s₁ mg mb fa o pm cd doc a vs ns G Y ho hd hcd hmg hobj hints hlen hg => ?_
  have KX := hY w _ Y
  obtain ⟨fd, hb, hF⟩ := F w mg fa _ KX G.T.g hmg
  exact law_call KX G.T.g G.T.b G.T.builtins G.T.nolimit hg hobj hints (Nat.le_trans hlen hn2) hr hF hb (fun H hO hS => hsp w H a ns hlen hO hS) fun H e s' => hCX w H s₁ e s'
/-- the same where the promise hangs on the written part alone: (sp := My.sp_law), no hole under a binder -/
theorem walk_ofK {l : PySem.W.OpenLaw} {n k : Nat} {q : Program} {loose : List Str} {XP : (Str → Option Value) → Heap → Prop} {YP : World → Heap → Prop} {d : DefRec} {K : Params → PySem.W.Frag} {CX : CXT} {sp : PySem.W.Frag → Sp} {x : Str}
    (hn : l.most = some n) (hn2 : n ≤ sizeLine) (hdf : d.params.defaults = []) (hr : Room k callerA)
    (hY : ∀ (w : World) (h : Heap), YP w h → (K w.params).In h)
    (F : ∀ (w : World) (mg : Str → Option Value) (fa : Addr) (h : Heap), (K w.params).In h → h.Ns mainGlobals mg → mg d.name = some (.ref fa) →
      ∃ fd : FuncData, (∀ (s : Shared) (u : Value), BindsTo s fd ⟨[u], []⟩ [(x, u)]) ∧
        ∀ base : Heap, (K w.params).In base → base.Ns mainGlobals mg → FnOk l.prog w (K w.params) mg base CX k fa fd [x] (sp (K w.params)))
    (hsp : ∀ (K : PySem.W.Frag) (H : Hp) (a : Addr) (ns : List Int), ns.length ≤ n → Only H → SqL K H a (ns.map V.int) → sp K [.ref a] H (fun v _ => v = .bl true) fun _ _ _ => False)
    (hCX : ∀ (H : Hp) (s : Shared) (e : Value) (s' : Shared), CX [] H s (fun _ _ _ => False) e s' → False) :
    PySem.W.WalkO q loose XP YP l.row.toRowW d [] (fun f vs => PySem.call f vs) :=
  walk_of (K := K) (CX := fun _ => CX) (sp := fun w => sp (K w.params)) hn hn2 hdf hr hY F (fun w H a ns h1 h2 h3 => hsp (K w.params) H a ns h1 h2 h3) fun _ H s e s' => hCX H s e s'
end L2

/- THE LAST THEOREM (shape; LID, My.* are yours):
   My.Adr: a structure of the addresses that your layer names (classes, functions); My.Txt K t: a structure (Prop) of the equations over K;
   My.txt_mk : {K} {implicit addresses ..} (e1 : nsIn K mainGlobals "law" = some (some (.ref f))) (e2 : K.lookup f = some ⟨oc, od, .func (fnOf "law" "law" params body scope dV kV doc pm an cdv ct), sl⟩) (e3 : codeIn K cdv "law" = true) .. : ∃ t, My.Txt K t

set_option maxRecDepth 100000 in
set_option maxHeartbeats 0 in
theorem PySem.Challenge.cw_LID_holds : PySem.Challenge.rw_LID.Holds := by
  w_on; o_law; k_head; (case hw => w_witness2)
  k_fill
  refine L2.walk_of (l := PySem.Challenge.rw_LID) (n := 63) (k := 40) (x := "script") (CX := fun w => ..) (sp := fun _ => My.sp_law) rfl (by decide) rfl ⟨rfl, by decide, by decide⟩ (fun w h Y => PySem.W.kIn_of Y) ?F ?S ?C
  case F =>
    intro w mg fa h KX G hmg
    have T : ∃ t, My.Txt (L2.KOf KX) t := by
      dsimp only [L2.KOf]                          -- K must stand as «<heap const> w.params» for k_is
      refine' My.txt_mk ?e1 ?e2 ?e3 ..
      (case e1 => PySem.W.k_is)                    -- in the order: a name -> its address -> its object -> its parts
      (case e2 => PySem.W.k_is)
      ..
    obtain ⟨t, T⟩ := T
    have e0 := hmg.symm.trans (PySem.W.mg_of KX G T.law)
    cases e0                                       -- fa is the law's own address
    exact ⟨_, fun s u => .of_eq rfl, fun base kb nb => My.law_fn T kb nb⟩     -- if «.of_eq rfl» comes too early: refine' ⟨_, ?b, fun base kb nb => My.law_fn T kb nb⟩; exact fun s u => .of_eq rfl
  case S => exact fun w H a ns hl hO hS => ..
  case C => exact ..
(the tactic k_is has no namespace: write k_is) -/

/-! SHORT WORDS over the layer: a def of the text, its body, what a loop and a test want. -/
namespace L2
open PySem PySem.Spec PyProof.Rows

/-! ### the text by places -/
/-- the j-th statement of a class's body -/
def inClass (s : Stmt) (j : Nat) : Stmt := match s with
  | .ClassDef _ _ _ body _ _ _ _ _ _ _ => body.getD j (.Pass ⟨0, 0, 0, 0⟩)
  | _ => .Pass ⟨0, 0, 0, 0⟩
def defArgs (s : Stmt) : Arguments := match s with
  | .FunctionDef _ a _ _ _ _ _ _ _ _ => a
  | _ => { posonlyargs := [], args := [], vararg := none, kwonlyargs := [], kw_defaults := [], kwarg := none, defaults := [] }
def defBody (s : Stmt) : List Stmt := match s with
  | .FunctionDef _ _ b _ _ _ _ _ _ _ => b
  | _ => []
def defScope (s : Stmt) : Scope := match s with
  | .FunctionDef _ _ _ _ _ _ sc _ _ _ => sc
  | _ => { kind := .function, names := [], isGenerator := false, isCoroutine := false }

/-! ### no exception leaves a def -/
abbrev CX0 : CXT := fun _ _ _ _ _ _ => False
abbrev E0 : XK := fun _ _ _ => False
theorem pass0 {X : Cx} : Passes CX0 X E0 := fun _ _ _ _ _ _ _ h => h.elim

/-! ### a def (or method) of the text as it stands behind the top -/
structure Fun (K : PySem.W.Frag) (x qual : Str) (st : Stmt) (f : Addr) (fd : FuncData) : Prop where
  ex : ∃ (oc : Value) (od : Option Addr) (kV doc pm : Value) (an : Option Addr) (cdv ct : Value) (osl : Array (Option Value)),
    fd = PySem.W.fnOf x qual (defArgs st) (defBody st) (defScope st) .none kV doc pm an cdv ct ∧ K.lookup f = some ⟨oc, od, .func fd, osl⟩ ∧ PySem.W.codeIn K cdv qual = true
  kp : PySem.W.keepIn K (.ref f) = true
section
variable {P : Program} {w : World} {K : PySem.W.Frag} {mg : Str → Option Value} {base : Heap}
/-- THE RULE for a def: its body as a term of rules, and the reading of that term -/
theorem Fun.ok {x qual : Str} {st : Stmt} {f : Addr} {fd : FuncData} {N ps : List Str} {k : Nat} {sp : Sp} (F : Fun K x qual st f fd) (S : FnScope N ps (defScope st)) (len : ∀ vs H Q E, sp vs H Q E → vs.length = ps.length)
    (hbody : ∀ (cdv : Value) (A : Around) (outer : List Env) (s : Shared) (H : Hp) (vs : List V) (Q : VK) (E : XK), Room k (A.deeper (envOfC qual (defScope st) s.heap.objs.size f cdv)) → sp vs H Q E →
      ∃ t, PSs (cxOf CX0 P w K mg base N qual (defScope st) f cdv A outer s H E).nox (defBody st) t ∧ t { nx := fun _ H' => Q .non H', rt := Q } (start N vs) H) : FnOk P w K mg base CX0 (k + 1) f fd ps sp := by
  obtain ⟨oc, od, kV, doc, pm, an, cdv, ct, osl, rfl, lk, hcd⟩ := F.ex
  refine fn_of lk hcd S len fun A outer s H vs Q E hr hsp => ?_
  obtain ⟨t, h, q⟩ := hbody cdv A outer s H vs Q E hr hsp
  exact ⟨t, h.nox, q⟩
/-- how its arguments bind (no defaults): h is «fun _ _ _ _ _ _ us hl => match us, hl with | [_, _], _ => rfl», one _ a parameter -/
theorem Fun.binds {x qual : Str} {st : Stmt} {f : Addr} {fd : FuncData} {ps : List Str} (F : Fun K x qual st f fd)
    (h : ∀ (kV doc pm : Value) (an : Option Addr) (cdv ct : Value) (us : List Value), us.length = ps.length → bindArgs (PySem.W.fnOf x qual (defArgs st) (defBody st) (defScope st) .none kV doc pm an cdv ct) ⟨us, []⟩ = pure (ps.zip us)) : Binds K fd ps [] := by
  obtain ⟨oc, od, kV, doc, pm, an, cdv, ct, osl, rfl, lk, hcd⟩ := F.ex
  exact .all (h kV doc pm an cdv ct)
theorem fun_mk {x qual : Str} {st : Stmt} {f : Addr} {oc : Value} {od an : Option Addr} {osl : Array (Option Value)} {kV doc pm cdv ct : Value} (l : K.lookup f = some ⟨oc, od, .func (PySem.W.fnOf x qual (defArgs st) (defBody st) (defScope st) .none kV doc pm an cdv ct), osl⟩)
    (c : PySem.W.codeIn K cdv qual = true) (k : PySem.W.keepIn K (.ref f) = true) : Fun K x qual st f (PySem.W.fnOf x qual (defArgs st) (defBody st) (defScope st) .none kV doc pm an cdv ct) := ⟨⟨oc, od, kV, doc, pm, an, cdv, ct, osl, rfl, l, c⟩, k⟩
end
theorem hu_of {A : Around} {k : Nat} (hr : Room k A) : A.units + 1 < cLine := Nat.lt_of_le_of_lt (Nat.add_le_add_left (by decide : 1 ≤ 64) _) hr.units
theorem small1000 {n : Nat} (h : n ≤ 1000) : n < sizeLine := Nat.lt_of_le_of_lt h (by decide)

/-! ### expressions in short: the name that stands in the i-th slot -/
section
variable {X : Cx}
theorem pv (i : Nat) {x : Str} {pos : Pos} (hN : X.N[i]? = some x := by rfl) (hv : Vis X.env.scope x := by first | exact Or.inl rfl | exact Or.inr (Or.inl rfl) | exact Or.inr (Or.inr rfl)) (hd : (x == ("__debug__" : Str)) = false := by decide)
    (hcd : (x == ("__classdict__" : Str)) = false := by decide) : PE X (.Name x pos) (tVar i) := pe_var hN hv hd hcd
end

/-! ### tests -/
theorem iteF {A B : Prop} (h : B) : if false = true then A else B := by
  rw [if_neg Bool.false_ne_true]
  exact h
theorem iteT {A B : Prop} (h : A) : if true = true then A else B := by
  rw [if_pos rfl]
  exact h
theorem ite2 {c A B : Prop} [Decidable c] (h1 : c → A) (h2 : ¬ c → B) : if c then A else B := by
  by_cases h : c
  · rw [if_pos h]
    exact h1 h
  · rw [if_neg h]
    exact h2 h
theorem iteNS {c A B : Prop} [Decidable c] (hc : c) (h : B) : if (!decide c) = true then A else B := by
  rw [decide_eq_true hc]
  exact iteF h

/-! ### heaps -/
/-- all that was tracked is as it was -/
def Same (H H' : Hp) : Prop := ∀ b o, H b = some o → H' b = some o
theorem Same.refl (H : Hp) : Same H H := fun _ _ h => h
theorem Same.trans {H H1 H2 : Hp} (a : Same H H1) (b : Same H1 H2) : Same H H2 := fun c o h => b c o (a c o h)
theorem Same.free {H H' : Hp} (e : Same H H') {l : Addr} (h : H' l = Option.none) : H l = Option.none := by
  cases q : H l with
  | none => rfl
  | some o =>
    rw [e l o q] at h
    cases h
theorem Same.seq {K : PySem.W.Frag} {H H' : Hp} {a : Addr} {xs : List V} (e : Same H H') (h : SqL K H a xs) : SqL K H' a xs := by
  rcases h with (h | ⟨o, h⟩) | h
  · exact .inl (.inl (e _ _ h))
  · exact .inl (.inr ⟨o, e _ _ h⟩)
  · exact .inr h

end L2

/-! SORTING BY ANY COMPARISON: as the library's own for one kind, here for whatever keyLt' is known to answer at this very state. -/
namespace SG
open PySem PyProof.Rows

/-- the state of a sort of fewer than 64 items, of kind kd -/
structure Fit (src : Array Keyed) (kd : SortKind) (z : SortSt) : Prop where
  mix : (arrOf z).Perm src
  kd : kindOf z = kd
  fine : failedOf z = none
  none : pendingOf z = #[]
theorem Fit.len {src : Array Keyed} {kd : SortKind} {z : SortSt} (f : Fit src kd z) : (arrOf z).size = src.size := f.mix.size_eq
theorem Fit.re {src : Array Keyed} {kd : SortKind} {z : SortSt} (f : Fit src kd z) {ys : Array Keyed} (m : ys.Perm (arrOf z)) : Fit src kd (setArr z ys) := ⟨m.trans f.mix, f.kd, f.fine, f.none⟩

section
variable {prog : Program} {w : World} {A : Around} {E : Value → Shared → Prop} {s : Shared} {src : Array Keyed} {κ : KeyKind} {kd : SortKind}
/-- what keyLt' answers here -/
def Asks (prog : Program) (w : World) (A : Around) (s : Shared) (κ : KeyKind) (kd : SortKind) : Prop :=
  ∀ (x y : Value) (a b : κ.α) (E : Value → Shared → Prop) (Q : Bool → Shared → Prop), κ.keyOf x = some a → κ.keyOf y = some b → Q (κ.blt a b) s → wpAny (model prog w) A (keyLt' kd x y) Q E s

theorem Fit.item {z : SortSt} (f : Fit src kd z) (all : KeysOf κ src) {i : Nat} (h : i < src.size) : ∃ x y a, (arrOf z)[i]? = some (x, y) ∧ κ.keyOf x = some a ∧ KK κ (arrOf z) i = a := by
  have h' : i < (arrOf z).size := by rw [f.len]; exact h
  have e := getElem?_pos (arrOf z) i h'
  obtain ⟨a, ha⟩ := all (arrOf z)[i] ((Array.perm_iff_toList_perm.mp f.mix).mem_iff.mp (by simp))
  exact ⟨_, _, a, e, ha, by unfold KK; rw [e]; simp [ha]⟩
theorem lt_at {z : SortSt} {i j : Nat} {Q : Option Bool → SortSt → Prop} (L : Asks prog w A s κ kd) (f : Fit src kd z) (all : KeysOf κ src) (hi : i < src.size) (hj : j < src.size)
    (k : Q (some (κ.blt (KK κ (arrOf z) i) (KK κ (arrOf z) j))) z) : wpS (model prog w) A E s (ltAt' i j) Q z := by
  obtain ⟨x, x', a, e1, ka, qa⟩ := f.item all hi
  obtain ⟨y, y', b, e2, kb, qb⟩ := f.item all hj
  rw [qa, qb] at k
  rw [ltAt'_eq]
  refine wpS_bind (wpS_get ?_)
  show wpS _ _ _ _ (elem' (arrOf z) i >>= fun u => elem' (arrOf z) j >>= fun v => lt' u v) Q z
  rw [elem'_eq, e1, elem'_eq, e2]
  refine wpS_bind (wpS_pure (wpS_bind (wpS_pure ?_)))
  rw [lt'_eq]
  refine wpS_bind (wpS_get (wpS_bind (wpS_lift (wpAny_attempt ?_))))
  rw [f.kd]
  exact L x y a b _ _ ka kb ⟨rfl, wpS_pure k⟩

/-- a rising stretch -/
theorem up_loop {z : SortSt} {a top : Nat} {Q : AscSt → SortSt → Prop} (L : Asks prog w A s κ kd) (all : KeysOf κ src) (f : Fit src kd z) (h1 : 1 ≤ a) (h2 : a ≤ top) (h3 : top ≤ src.size) (r : SortedToK κ (arrOf z) a)
    (k : ∀ n, a ≤ n → n ≤ top → SortedToK κ (arrOf z) n → n = top ∨ κ.klt (KK κ (arrOf z) n) (KK κ (arrOf z) (n - 1)) → Q (none, n) z) : wpS (model prog w) A E s (ascLoop a top) Q z := by
  unfold ascLoop
  refine wpS_forRange (fun x c z' => z' = z ∧ c = (none, x) ∧ SortedToK κ (arrOf z) x) (fun x c z' g1 g2 hI => ?_) (fun c z' hI => ?_) ⟨rfl, rfl, r⟩
  · obtain ⟨hz, hc, hr⟩ := hI
    subst hz hc
    dsimp only
    refine wpS_bind (lt_at L f all (Nat.lt_of_lt_of_le g2 h3) (by omega) ?_)
    cases q : κ.blt (KK κ (arrOf z') x) (KK κ (arrOf z') (x - 1)) with
    | true => simp only [if_true]; exact wpS_pure (k x g1 (Nat.le_of_lt g2) hr (Or.inr q))
    | false =>
      simp only [Bool.false_eq_true, if_false]
      refine wpS_pure ⟨rfl, rfl, fun i j le lt => ?_⟩
      rcases Nat.lt_or_ge j x with c1 | c1
      · exact hr i j le c1
      · obtain rfl : j = x := by omega
        rcases Nat.eq_or_lt_of_le le with c2 | c2
        · subst c2; exact KeyOrd.kle_refl _
        · exact KeyOrd.kle_trans (hr i (j - 1) (by omega) (by omega)) q
  · obtain ⟨hz, hc, hr⟩ := hI
    subst hz hc
    have e : max a top = top := by omega
    rw [e] at hr ⊢
    exact k top h2 (Nat.le_refl _) hr (Or.inl rfl)
/-- a falling stretch is turned, and goes on rising -/
theorem turn3 {z : SortSt} {n top : Nat} {Q : Option Nat → SortSt → Prop} (L : Asks prog w A s κ kd) (all : KeysOf κ src) (f : Fit src kd z) (h1 : 1 ≤ n) (h2 : n ≤ top) (h3 : top ≤ src.size) (r : NonIncK κ (arrOf z) n)
    (k : ∀ m z', Fit src kd z' → 1 ≤ m → m ≤ top → SortedToK κ (arrOf z') m → Q (some m) z') : wpS (model prog w) A E s (tail3 n top) Q z := by
  have sz : n ≤ (arrOf z).size := by rw [f.len]; omega
  have f' : Fit src kd (setArr z (mirror (arrOf z) 0 n ((n - 0) / 2))) := f.re (mirror_perm _ _ _ _)
  have r' : SortedToK κ (arrOf (setArr z (mirror (arrOf z) 0 n ((n - 0) / 2)))) n := by
    intro i j le lt
    show κ.kle (KK κ (mirror (arrOf z) 0 n ((n - 0) / 2)) i) (KK κ (mirror (arrOf z) 0 n ((n - 0) / 2)) j)
    rw [KK_mirror sz, KK_mirror sz, if_pos ⟨Nat.zero_le _, by omega⟩, if_pos ⟨Nat.zero_le _, lt⟩]
    exact r _ _ (by omega) (by omega)
  unfold tail3
  refine wpS_bind (wpS_reverse (wpS_bind (up_loop L all f' h1 h2 h3 r' fun m g1 g2 g3 _ => ?_)))
  exact wpS_pure (k m _ f' (Nat.le_trans h1 g1) g2 g3)
/-- a falling stretch, with equal ones in it -/
theorem down_loop {z : SortSt} {n top : Nat} {Q : DescSt → SortSt → Prop} (L : Asks prog w A s κ kd) (all : KeysOf κ src) (f : Fit src kd z) (h1 : 1 ≤ n) (h2 : n ≤ top) (h3 : top ≤ src.size) (r : NonIncK κ (arrOf z) n)
    (k : ∀ m q z', Fit src kd z' → n ≤ m → m ≤ top → NonIncK κ (arrOf z') m → q + 1 ≤ m → (∀ i, m - (q + 1) ≤ i → i < m → KK κ (arrOf z') i = KK κ (arrOf z') (m - 1)) → Q (none, m, q) z') : wpS (model prog w) A E s (descLoop n top) Q z := by
  have one : ∀ (ys : Array Keyed) (x : Nat) (i : Nat), x - (0 + 1) ≤ i → i < x → KK κ ys i = KK κ ys (x - 1) := fun ys x i c1 c2 => by
    have : i = x - 1 := by omega
    rw [this]
  unfold descLoop
  refine wpS_forRange (fun x c z' => ∃ q, c = (none, x, q) ∧ Fit src kd z' ∧ NonIncK κ (arrOf z') x ∧ q + 1 ≤ x ∧ ∀ i, x - (q + 1) ≤ i → i < x → KK κ (arrOf z') i = KK κ (arrOf z') (x - 1))
    (fun x c z' g1 g2 hI => ?_) (fun c z' hI => ?_) ⟨0, rfl, f, r, h1, one _ _⟩
  · obtain ⟨q, hc, f', r', hq, he⟩ := hI
    subst hc
    dsimp only
    have lx : x < src.size := Nat.lt_of_lt_of_le g2 h3
    have sz : x ≤ (arrOf z').size := by rw [f'.len]; omega
    refine wpS_bind (lt_at L f' all lx (by omega) ?_)
    cases c1 : κ.blt (KK κ (arrOf z') x) (KK κ (arrOf z') (x - 1)) with
    | true =>
      simp only [if_true]
      have more : ∀ ys : Array Keyed, (∀ m, KK κ ys m = KK κ (arrOf z') m) → NonIncK κ ys (x + 1) := fun ys same i j le lt => by
        rw [same i, same j]
        rcases Nat.lt_or_ge j x with d1 | d1
        · exact r' i j le d1
        · obtain rfl : j = x := by omega
          rcases Nat.eq_or_lt_of_le le with d2 | d2
          · subst d2; exact KeyOrd.kle_refl _
          · exact KeyOrd.kle_trans (KeyOrd.kle_of_klt c1) (r' i (j - 1) (by omega) (by omega))
      by_cases c2 : q > 0
      · rw [if_pos c2]
        exact wpS_bind (wpS_reverse (wpS_pure ⟨0, rfl, f'.re (mirror_perm _ _ _ _), more _ (KK_mirror_equal sz he), by omega, one _ _⟩))
      · rw [if_neg c2]
        exact wpS_pure ⟨0, rfl, f', more _ fun _ => rfl, by omega, one _ _⟩
    | false =>
      simp only [Bool.false_eq_true, if_false]
      refine wpS_bind (lt_at L f' all (by omega) lx ?_)
      cases c2 : κ.blt (KK κ (arrOf z') (x - 1)) (KK κ (arrOf z') x) with
      | true => simp only [if_true]; exact wpS_pure (k x q z' f' g1 (Nat.le_of_lt g2) r' hq he)
      | false =>
        simp only [Bool.false_eq_true, if_false]
        have same : KK κ (arrOf z') x = KK κ (arrOf z') (x - 1) := KeyOrd.kle_antisymm c2 c1
        refine wpS_pure ⟨q + 1, rfl, f', fun i j le lt => ?_, by omega, fun i d1 d2 => ?_⟩
        · rcases Nat.lt_or_ge j x with e1 | e1
          · exact r' i j le e1
          · obtain rfl : j = x := by omega
            rcases Nat.eq_or_lt_of_le le with e2 | e2
            · subst e2; exact KeyOrd.kle_refl _
            · rw [same]; exact r' i (j - 1) (by omega) (by omega)
        · show KK κ (arrOf z') i = KK κ (arrOf z') x
          rcases Nat.lt_or_ge i x with e1 | e1
          · rw [same]; exact he i (by omega) e1
          · have : i = x := by omega
            rw [this]
  · obtain ⟨q, hc, f', r', hq, he⟩ := hI
    have e : max n top = top := by omega
    rw [e] at hc r' hq he
    subst hc
    exact k top q z' f' h2 (Nat.le_refl _) r' hq he
theorem down_part {z : SortSt} {n top : Nat} {Q : Option Nat → SortSt → Prop} (L : Asks prog w A s κ kd) (all : KeysOf κ src) (f : Fit src kd z) (h2 : n + 1 ≤ top) (h3 : top ≤ src.size) (r : NonIncK κ (arrOf z) (n + 1))
    (k : ∀ m z', Fit src kd z' → 1 ≤ m → m ≤ top → SortedToK κ (arrOf z') m → Q (some m) z') : wpS (model prog w) A E s (descPart n top) Q z := by
  unfold descPart
  refine wpS_bind (wpS_lift (wpAny_rule ⟨rfl, wpS_bind (down_loop L all f (Nat.le_add_left 1 n) h2 h3 r fun m q z' f' g1 g2 r' hq he => ?_)⟩))
  have sz : m ≤ (arrOf z').size := by rw [f'.len]; omega
  dsimp only
  by_cases c : q > 0
  · rw [if_pos c]
    refine wpS_bind (wpS_reverse (turn3 L all (f'.re (mirror_perm _ _ _ _)) (by omega) g2 h3 (fun i j le lt => ?_) k))
    show κ.kle (KK κ (mirror (arrOf z') (m - (q + 1)) m ((m - (m - (q + 1))) / 2)) j) (KK κ (mirror (arrOf z') (m - (q + 1)) m ((m - (m - (q + 1))) / 2)) i)
    rw [KK_mirror_equal sz he, KK_mirror_equal sz he]
    exact r' i j le lt
  · rw [if_neg c]
    exact turn3 L all f' (by omega) g2 h3 r' k
theorem first_run {z : SortSt} {top : Nat} {Q : Option Nat → SortSt → Prop} (L : Asks prog w A s κ kd) (all : KeysOf κ src) (f : Fit src kd z) (h1 : 1 ≤ top) (h3 : top ≤ src.size)
    (k : ∀ m z', Fit src kd z' → 1 ≤ m → m ≤ top → SortedToK κ (arrOf z') m → Q (some m) z') : wpS (model prog w) A E s (countRun' 0 top) Q z := by
  have r1 : SortedToK κ (arrOf z) 1 := fun i j le lt => by
    obtain rfl : i = j := by omega
    exact KeyOrd.kle_refl _
  rw [countRun0_eq]
  refine wpS_bind (up_loop L all f (Nat.le_refl 1) h1 h3 r1 fun n g1 g2 g3 g4 => ?_)
  dsimp only
  by_cases c : n = top
  · rw [if_pos (beq_iff_eq.mpr c)]
    exact wpS_pure (k n z f g1 g2 g3)
  · rw [if_neg (fun h => c (beq_iff_eq.mp h))]
    have fall := g4.resolve_left c
    by_cases c2 : n > 1
    · rw [if_pos c2]
      refine wpS_bind (lt_at L f all (by omega) (by omega) ?_)
      cases c3 : κ.blt (KK κ (arrOf z) 0) (KK κ (arrOf z) (n - 1)) with
      | true => simp only [if_true]; exact wpS_pure (k n z f g1 g2 g3)
      | false =>
        simp only [Bool.false_eq_true, if_false]
        have sz : n ≤ (arrOf z).size := by rw [f.len]; omega
        have eq : ∀ m, 0 ≤ m → m < n → KK κ (arrOf z) m = KK κ (arrOf z) (n - 1) := fun m _ lt =>
          KeyOrd.kle_antisymm (g3 m (n - 1) (by omega) (by omega)) (KeyOrd.kle_trans c3 (g3 0 m (Nat.zero_le _) lt))
        refine wpS_bind (wpS_reverse (down_part L all (f.re (mirror_perm _ _ _ _)) (by omega) h3 (fun i j le lt => ?_) k))
        show κ.kle (KK κ (mirror (arrOf z) 0 n ((n - 0) / 2)) j) (KK κ (mirror (arrOf z) 0 n ((n - 0) / 2)) i)
        rw [KK_mirror_equal sz eq, KK_mirror_equal sz eq]
        rcases Nat.lt_or_ge j n with d | d
        · rw [eq i (Nat.zero_le _) (by omega), eq j (Nat.zero_le _) d]
          exact KeyOrd.kle_refl _
        · obtain rfl : j = n := by omega
          rcases Nat.eq_or_lt_of_le le with d2 | d2
          · subst d2; exact KeyOrd.kle_refl _
          · rw [eq i (Nat.zero_le _) d2]; exact KeyOrd.kle_of_klt fall
    · rw [if_neg c2]
      obtain rfl : n = 1 := by omega
      refine down_part L all f (by omega) h3 (fun i j le lt => ?_) k
      rcases Nat.eq_or_lt_of_le le with d2 | d2
      · subst d2; exact KeyOrd.kle_refl _
      · obtain rfl : i = 0 := by omega
        obtain rfl : j = 1 := by omega
        exact KeyOrd.kle_of_klt fall
/-- binary insertion -/
theorem ins_sort {z : SortSt} {n ok : Nat} {Q : Bool → SortSt → Prop} (L : Asks prog w A s κ kd) (all : KeysOf κ src) (f : Fit src kd z) (h1 : ok ≤ n) (h3 : n ≤ src.size) (r : SortedToK κ (arrOf z) ok)
    (k : ∀ z', Fit src kd z' → SortedToK κ (arrOf z') n → Q true z') : wpS (model prog w) A E s (binarySort' 0 n ok) Q z := by
  rw [binarySort'_eq]
  simp only [Nat.zero_add]
  have r0 : SortedToK κ (arrOf z) (min (max ok 1) n) := fun i j le lt => by
    rcases Nat.eq_or_lt_of_le le with c | c
    · subst c; exact KeyOrd.kle_refl _
    · exact r i j le (by omega)
  refine wpS_bind (wpS_mono (wpS_forRange (fun m c z' => c = (none, ()) ∧ Fit src kd z' ∧ SortedToK κ (arrOf z') (min m n)) (Q := fun c z' => c = (none, ()) ∧ Fit src kd z' ∧ SortedToK κ (arrOf z') n)
    (fun m c z' g1 g2 hI => ?_) (fun c z' hI => ?_) ⟨rfl, f, r0⟩) fun c z' hQ => ?_)
  · obtain ⟨hc, f', r'⟩ := hI
    subst hc
    have em : min m n = m := by omega
    rw [em] at r'
    have lm : m < src.size := by omega
    refine wpS_bind (wpS_mono (wpS_forRange (fun t c z2 => z2 = z' ∧ ∃ lo hi, c = (none, lo, hi) ∧ lo ≤ hi ∧ hi ≤ m ∧ hi - lo ≤ m - t ∧ (∀ i, i < lo → κ.kle (KK κ (arrOf z') i) (KK κ (arrOf z') m)) ∧
        ∀ i, hi ≤ i → i < m → κ.klt (KK κ (arrOf z') m) (KK κ (arrOf z') i))
      (Q := fun c z2 => z2 = z' ∧ ∃ lo hi, c = (none, lo, hi) ∧ lo ≤ m ∧ (∀ i, i < lo → κ.kle (KK κ (arrOf z') i) (KK κ (arrOf z') m)) ∧ ∀ i, lo ≤ i → i < m → κ.klt (KK κ (arrOf z') m) (KK κ (arrOf z') i))
      (fun t c z2 _ lt hJ => ?_) (fun c z2 hJ => ?_) ⟨rfl, 0, m, rfl, Nat.zero_le _, Nat.le_refl _, by omega, fun i c => absurd c (Nat.not_lt_zero _), fun i c1 c2 => absurd c2 (Nat.not_lt.mpr c1)⟩) fun c z2 hJ => ?_)
    · obtain ⟨hz, lo, hi, hc, c1, c2, c3, c4, c5⟩ := hJ
      subst hz hc
      dsimp only
      by_cases d : lo ≥ hi
      · rw [if_pos d]
        obtain rfl : lo = hi := by omega
        exact wpS_pure ⟨rfl, lo, lo, rfl, c2, c4, c5⟩
      · rw [if_neg d]
        refine wpS_bind (lt_at L f' all lm (by omega) ?_)
        cases q : κ.blt (KK κ (arrOf z2) m) (KK κ (arrOf z2) ((lo + hi) / 2)) with
        | true =>
          simp only [if_true]
          exact wpS_pure ⟨rfl, lo, (lo + hi) / 2, rfl, by omega, by omega, by omega, c4, fun i e1 e2 => KeyOrd.klt_of_klt_of_kle q (r' _ _ e1 e2)⟩
        | false =>
          simp only [Bool.false_eq_true, if_false]
          refine wpS_pure ⟨rfl, (lo + hi) / 2 + 1, hi, rfl, by omega, c2, by omega, fun i e1 => ?_, c5⟩
          have q' : κ.kle (KK κ (arrOf z2) ((lo + hi) / 2)) (KK κ (arrOf z2) m) := q
          exact KeyOrd.kle_trans (r' i ((lo + hi) / 2) (by omega) (by omega)) q'
    · obtain ⟨hz, lo, hi, hc, c1, c2, c3, c4, c5⟩ := hJ
      obtain rfl : lo = hi := by omega
      exact ⟨hz, lo, lo, hc, c2, c4, c5⟩
    · obtain ⟨hz, lo, hi, hc, c2, c4, c5⟩ := hJ
      subst hz hc
      show wpS _ _ _ _ (moveDown' m lo >>= fun _ => pure (ForInStep.yield (none, ()))) _ _
      rw [moveDown'_eq]
      refine wpS_bind (wpS_modify (wpS_pure ⟨rfl, f'.re (bubble_perm _ _ _), ?_⟩))
      have es : m < (arrOf z2).size := by rw [f'.len]; exact lm
      have e2 : min (m + 1) n = m + 1 := by omega
      rw [e2]
      intro i j le lt
      show κ.kle (KK κ (bubble (arrOf z2) m (m - lo)) i) (KK κ (bubble (arrOf z2) m (m - lo)) j)
      have e3 : m - (m - lo) = lo := by omega
      rw [KK_bubble es (by omega), KK_bubble es (by omega), e3]
      by_cases i1 : i = lo <;> by_cases j1 : j = lo
      · rw [if_pos i1, if_pos j1]; exact KeyOrd.kle_refl _
      · rw [if_pos i1, if_neg j1, if_pos ⟨by omega, by omega⟩]
        exact KeyOrd.kle_of_klt (c5 _ (by omega) (by omega))
      · rw [if_neg i1, if_pos j1, if_neg (by omega)]
        exact c4 _ (by omega)
      · rw [if_neg i1, if_neg j1]
        by_cases i2 : lo < i ∧ i ≤ m <;> by_cases j2 : lo < j ∧ j ≤ m
        · rw [if_pos i2, if_pos j2]; exact r' _ _ (by omega) (by omega)
        · exact absurd ⟨by omega, by omega⟩ j2
        · rw [if_neg i2, if_pos j2]; exact r' _ _ (by omega) (by omega)
        · rw [if_neg i2, if_neg j2]; exact r' _ _ le (by omega)
  · obtain ⟨hc, f', r'⟩ := hI
    have e : min (max (max ok 1) n) n = n := by omega
    rw [e] at r'
    exact ⟨hc, f', r'⟩
  · obtain ⟨hc, f', r'⟩ := hQ
    subst hc
    exact wpS_pure (k z' f' r')
theorem all_runs {z : SortSt} {Q : Unit → SortSt → Prop} (L : Asks prog w A s κ kd) (all : KeysOf κ src) (f : Fit src kd z) (h2 : 2 ≤ src.size) (h64 : src.size < 64)
    (k : ∀ z', (arrOf z').Perm src → failedOf z' = none → SortedToK κ (arrOf z') src.size → Q () z') : wpS (model prog w) A E s sortRuns' Q z := by
  have em : minRun' src.size src.size 0 = src.size := by
    have g : ∀ t, t = src.size → minRun' t src.size 0 = src.size := fun t e => by
      cases t with
      | zero => omega
      | succ t => rw [minRun'_succ, if_pos h64]; rfl
    exact g _ rfl
  rw [sortRuns'_eq]
  refine wpS_bind (wpS_get ?_)
  dsimp only
  simp only [f.len, em]
  refine wpS_bind (wpS_mono (wpS_forRange (fun t c z' => (t = 0 ∧ c = (none, 0) ∧ Fit src kd z') ∨ (0 < t ∧ c = (none, src.size) ∧ (arrOf z').Perm src ∧ failedOf z' = none ∧ pendingOf z' = #[(0, src.size, 0)] ∧ SortedToK κ (arrOf z') src.size))
    (Q := fun c z' => c = (none, src.size) ∧ (arrOf z').Perm src ∧ failedOf z' = none ∧ pendingOf z' = #[(0, src.size, 0)] ∧ SortedToK κ (arrOf z') src.size)
    (fun t c z' _ lt hI => ?_) (fun c z' hI => ?_) (Or.inl ⟨rfl, rfl, f⟩)) fun c z' hQ => ?_)
  · rcases hI with ⟨ht, hc, f'⟩ | ⟨ht, hc, d1, d2, d3, d4⟩
    · subst ht hc
      dsimp only
      rw [if_neg (by omega)]
      simp only [Nat.sub_zero, Nat.min_self, Nat.zero_add]
      have close : ∀ z3, Fit src kd z3 → SortedToK κ (arrOf z3) src.size → (0 < 0 + 1 ∧ ((none : Option Unit), src.size) = (none, src.size) ∧ (arrOf (setPending z3 ((pendingOf z3).push (0, src.size, 0)))).Perm src ∧ failedOf (setPending z3 ((pendingOf z3).push (0, src.size, 0))) = none ∧
          pendingOf (setPending z3 ((pendingOf z3).push (0, src.size, 0))) = #[(0, src.size, 0)] ∧ SortedToK κ (arrOf (setPending z3 ((pendingOf z3).push (0, src.size, 0)))) src.size) := fun z3 f3 r3 =>
        ⟨Nat.zero_lt_succ _, rfl, f3.mix, f3.fine, by show (pendingOf z3).push (0, src.size, 0) = _; rw [f3.none]; rfl, r3⟩
      refine wpS_bind (first_run L all f' (by omega) (Nat.le_refl _) fun m z2 f2 g1 g2 r2 => ?_)
      dsimp only
      by_cases c : m < src.size
      · rw [if_pos c]
        refine wpS_bind (wpS_lift (wpAny_rule ⟨rfl, wpS_bind (ins_sort L all f2 g2 (Nat.le_refl _) r2 fun z3 f3 r3 => ?_)⟩))
        simp only [Bool.not_true, Bool.false_eq_true, if_false]
        refine wpS_bind (wpS_get ?_)
        have eb : (pendingOf z3).back? = none := by rw [f3.none]; rfl
        rw [eb]
        dsimp only
        exact wpS_bind (wpS_modify (wpS_pure (Or.inr (close z3 f3 r3))))
      · rw [if_neg c]
        obtain rfl : m = src.size := by omega
        refine wpS_bind (wpS_get ?_)
        have eb : (pendingOf z2).back? = none := by rw [f2.none]; rfl
        rw [eb]
        dsimp only
        exact wpS_bind (wpS_modify (wpS_pure (Or.inr (close z2 f2 r2))))
    · subst hc
      dsimp only
      rw [if_pos (Nat.le_refl _)]
      exact wpS_pure ⟨rfl, d1, d2, d3, d4⟩
  · rcases hI with ⟨ht, _⟩ | ⟨_, d⟩
    · omega
    · exact d
  · obtain ⟨hc, d1, d2, d3, d4⟩ := hQ
    subst hc
    dsimp only
    refine wpS_bind (wpS_mono (wpS_forRange (fun _ c z2 => z2 = z' ∧ c = (none, ())) (Q := fun c z2 => z2 = z' ∧ c = (none, ())) (fun t c z2 _ _ hJ => ?_) (fun _ _ hJ => hJ) ⟨rfl, rfl⟩) fun c z2 hJ => ?_)
    · obtain ⟨hz, hc⟩ := hJ
      subst hz hc
      refine wpS_bind (wpS_get ?_)
      rw [if_pos (by rw [d3]; exact Nat.le_refl 1)]
      exact wpS_pure ⟨rfl, rfl⟩
    · obtain ⟨hz, hc⟩ := hJ
      subst hz hc
      exact wpS_pure (k _ d1 d2 d4)
/-- list.sort() of a list of fewer than 64 items -/
theorem sort_at {a : Addr} {vs : List Value} {n : Nat} {P : Fin → Shared → Prop} (ho : s.heap.get? a = some (seqObj "list" vs.toArray n)) (all : KeysOf κ (pairsOf vs)) (h64 : vs.length < 64)
    (kind : ∀ h', (∀ b o, b ≠ a → s.heap.get? b = some o → h'.get? b = some o) → 2 ≤ vs.length → wpAny (model prog w) A (keyKind' vs.toArray) (fun q s' => q = kd ∧ s' = { s with heap := h' }) E { s with heap := h' })
    (L : ∀ h', (∀ b o, b ≠ a → s.heap.get? b = some o → h'.get? b = some o) → Asks prog w A { s with heap := h' } κ kd)
    (k : ∀ z' : SortSt, (arrOf z').Perm (pairsOf vs) → SortedToK κ (arrOf z') (pairsOf vs).size → P (.done (.ret .none)) { s with heap := sortedHeap s.heap a vs ((arrOf z').map (·.2)) }) :
    wpAny (model prog w) A (Builtin.«list.sort» ⟨[.ref a], []⟩) P E s := by
  have ha : a < s.heap.objs.size := Heap.lt_size ho
  have hl : vs.toArray.size = vs.length := by simp
  rw [list_sort_plain]
  refine wpAny_bind (listItems_at ho rfl (wpAny_bind (listUpdate_at ho rfl ?_)))
  obtain ⟨t, h1⟩ : ∃ t, (s.heap.update a (Obj.mapSeq fun _ => #[])).get? a = some (seqObj "list" #[] t) := ⟨_, get?_update_seq ho fun _ => #[]⟩
  refine wpAny_bind (seqEpoch_at h1 rfl (wpAny_bind (wpAny_newTuple (wpAny_bind (wpAny_newList (wpAny_holding ?_))))))
  show wpAny (model prog w) A _ P E { s with heap := ((s.heap.update a (Obj.mapSeq fun _ => #[])).push (seqObj "tuple" vs.toArray 0)).push (seqObj "list" #[] 0) }
  have keep : ∀ b o, b ≠ a → s.heap.get? b = some o → (((s.heap.update a (Obj.mapSeq fun _ => #[])).push (seqObj "tuple" vs.toArray 0)).push (seqObj "list" #[] 0)).get? b = some o := fun b o nb e =>
    Heap.get?_push_of_some _ (Heap.get?_push_of_some _ (by rw [Heap.get?_update_ne _ _ _ _ nb]; exact e))
  have h6 : (((s.heap.update a (Obj.mapSeq fun _ => #[])).push (seqObj "tuple" vs.toArray 0)).push (seqObj "list" #[] 0)).get? a = some (seqObj "list" #[] t) := Heap.get?_push_of_some _ (Heap.get?_push_of_some _ h1)
  dsimp only
  by_cases c : vs.toArray.size < 2
  · rw [if_pos c, if_pos c]
    refine wpAny_bind (wpAny_pure ?_)
    rw [StateT.run_pure]
    refine wpAny_bind (wpAny_pure (wpAny_bind (seqEpoch_at h6 rfl (wpAny_bind (listUpdate_at h6 rfl ?_ (hsz2 := by
      rw [Array.size_map]; show (pairsOf vs).size ≤ _; rw [pairsOf_size, sizeLine_eq]; omega))))))
    simp only [bne_self_eq_false, Bool.false_eq_true, if_false]
    refine wpAny_pure (k (SortSt.mk' general' (vs.toArray.zip vs.toArray) #[] 7 none) (Array.Perm.refl _) fun i j le lt => ?_)
    obtain rfl : i = j := by rw [pairsOf_size] at lt; omega
    exact KeyOrd.kle_refl _
  · rw [if_neg c, if_neg c]
    refine wpAny_bind (wpAny_mono (kind _ keep (by omega)) (fun q s' hq => ?_) fun _ _ e => e)
    obtain ⟨rfl, rfl⟩ := hq
    refine wpAny_bind (wpAny_mono (all_runs (src := pairsOf vs) (z := SortSt.mk' q (vs.toArray.zip vs.toArray) #[] 7 none)
      (Q := fun _ z' => (arrOf z').Perm (pairsOf vs) ∧ failedOf z' = none ∧ SortedToK κ (arrOf z') (pairsOf vs).size)
      (L _ keep) all ⟨Array.Perm.refl _, rfl, rfl, rfl⟩ (by rw [pairsOf_size]; omega) (by rw [pairsOf_size]; exact h64) fun z' d1 d2 d3 => ⟨d1, d2, d3⟩) (fun rz s' hq => ?_) fun _ _ e => e)
    obtain ⟨⟨⟩, z'⟩ := rz
    obtain ⟨rfl, d1, d2, d3⟩ := hq
    dsimp only at d1 d2 d3 ⊢
    refine wpAny_bind (seqEpoch_at h6 rfl (wpAny_bind (listUpdate_at h6 rfl ?_ (hsz2 := by
      refine Nat.le_trans (Nat.le_of_eq ((Array.size_map ..).trans (d1.size_eq.trans (pairsOf_size _)))) ?_
      rw [sizeLine_eq]; omega))))
    rw [d2]
    simp only [bne_self_eq_false, Bool.false_eq_true, if_false]
    exact wpAny_pure (k z' d1 d3)
end
end SG

/-! DATA OVER THE LAYER: values read as data, slots of a frame as data or as lists that the frame alone holds. -/
namespace DL
open PySem PySem.Spec PyProof.Rows L2

abbrev D := PyData

/-- a list that is read: a frozen one, or one of the module -/
def FzL (K : PySem.W.Frag) (F : Addr → Prop) (H : Hp) (a : Addr) (vs : List V) : Prop := (F a ∧ Rd H a (.lst vs)) ∨ SqL K (fun _ => none) a vs
theorem FzL.sq {K : PySem.W.Frag} {F : Addr → Prop} {H : Hp} {a : Addr} {vs : List V} (h : FzL K F H a vs) : SqL K H a vs := by
  rcases h with ⟨_, h⟩ | (h | ⟨o, h⟩) | h
  · exact .inl h
  · cases h
  · cases h
  · exact .inr h
/-! ### a value is a datum; the lists in it are among the frozen ones (F) -/
mutual
inductive Rep (K : PySem.W.Frag) (F : Addr → Prop) (H : Hp) : D → V → Prop
  | non : Rep K F H .none .non
  | bl (b : Bool) : Rep K F H (.bool b) (.bl b)
  | int (i : Int) : Rep K F H (.int i) (.int i)
  | str (x : Str) : Rep K F H (.str x) (.str x)
  | tup {a : Addr} {vs : List V} {ds : List D} : SqT K H a vs → Reps K F H ds vs → Rep K F H (.tuple ds) (.ref a)
  | lst {a : Addr} {vs : List V} {ds : List D} : FzL K F H a vs → Reps K F H ds vs → Rep K F H (.list ds) (.ref a)
inductive Reps (K : PySem.W.Frag) (F : Addr → Prop) (H : Hp) : List D → List V → Prop
  | nil : Reps K F H [] []
  | cons {d : D} {v : V} {ds : List D} {vs : List V} : Rep K F H d v → Reps K F H ds vs → Reps K F H (d :: ds) (v :: vs)
end

structure Stay (K : PySem.W.Frag) (F F' : Addr → Prop) (H H' : Hp) : Prop where
  up : ∀ a, F a → F' a
  tp : ∀ a xs, SqT K H a xs → SqT K H' a xs
  ls : ∀ a xs, F a → Rd H a (.lst xs) → Rd H' a (.lst xs)

theorem FzL.stay {K : PySem.W.Frag} {F F' : Addr → Prop} {H H' : Hp} (S : Stay K F F' H H') {a : Addr} {vs : List V} (h : FzL K F H a vs) : FzL K F' H' a vs := by
  rcases h with ⟨f, h⟩ | h
  · exact .inl ⟨S.up a f, S.ls a vs f h⟩
  · exact .inr h
mutual
theorem Rep.stay {K : PySem.W.Frag} {F F' : Addr → Prop} {H H' : Hp} (S : Stay K F F' H H') : ∀ {d : D} {v : V}, Rep K F H d v → Rep K F' H' d v
  | _, _, .non => .non
  | _, _, .bl b => .bl b
  | _, _, .int i => .int i
  | _, _, .str x => .str x
  | _, _, .tup h r => .tup (S.tp _ _ h) (Reps.stay S r)
  | _, _, .lst h r => .lst (h.stay S) (Reps.stay S r)
theorem Reps.stay {K : PySem.W.Frag} {F F' : Addr → Prop} {H H' : Hp} (S : Stay K F F' H H') : ∀ {ds : List D} {vs : List V}, Reps K F H ds vs → Reps K F' H' ds vs
  | _, _, .nil => .nil
  | _, _, .cons h r => .cons (Rep.stay S h) (Reps.stay S r)
end

theorem Reps.length {K : PySem.W.Frag} {F : Addr → Prop} {H : Hp} : ∀ {ds : List D} {vs : List V}, Reps K F H ds vs → ds.length = vs.length
  | _, _, .nil => rfl
  | _, _, .cons _ r => by simp [Reps.length r]
theorem Reps.get {K : PySem.W.Frag} {F : Addr → Prop} {H : Hp} : ∀ {ds : List D} {vs : List V} {i : Nat} {d : D}, Reps K F H ds vs → ds[i]? = some d → ∃ v, vs[i]? = some v ∧ Rep K F H d v
  | _, _, _, _, .nil, e => by simp at e
  | _, _, 0, _, .cons h _, e => by simp at e; subst e; exact ⟨_, rfl, h⟩
  | _, _, i + 1, d, .cons _ r, e => by
    obtain ⟨v, h1, h2⟩ := Reps.get (i := i) (d := d) r (by simpa using e)
    exact ⟨v, by simpa using h1, h2⟩
theorem Reps.getV {K : PySem.W.Frag} {F : Addr → Prop} {H : Hp} : ∀ {ds : List D} {vs : List V} {i : Nat} {v : V}, Reps K F H ds vs → vs[i]? = some v → ∃ d, ds[i]? = some d ∧ Rep K F H d v
  | _, _, _, _, .nil, e => by simp at e
  | _, _, 0, _, .cons h _, e => by simp at e; subst e; exact ⟨_, rfl, h⟩
  | _, _, i + 1, v, .cons _ r, e => by
    obtain ⟨d, h1, h2⟩ := Reps.getV (i := i) (v := v) r (by simpa using e)
    exact ⟨d, by simpa using h1, h2⟩
theorem Reps.append {K : PySem.W.Frag} {F : Addr → Prop} {H : Hp} : ∀ {ds es : List D} {vs us : List V}, Reps K F H ds vs → Reps K F H es us → Reps K F H (ds ++ es) (vs ++ us)
  | _, _, _, _, .nil, s => s
  | _, _, _, _, .cons h r, s => .cons h (Reps.append r s)
theorem Reps.take {K : PySem.W.Frag} {F : Addr → Prop} {H : Hp} : ∀ {ds : List D} {vs : List V} (n : Nat), Reps K F H ds vs → Reps K F H (ds.take n) (vs.take n)
  | _, _, 0, _ => .nil
  | _, _, _ + 1, .nil => .nil
  | _, _, n + 1, .cons h r => .cons h (Reps.take n r)
theorem Reps.drop {K : PySem.W.Frag} {F : Addr → Prop} {H : Hp} : ∀ {ds : List D} {vs : List V} (n : Nat), Reps K F H ds vs → Reps K F H (ds.drop n) (vs.drop n)
  | _, _, 0, r => r
  | _, _, _ + 1, .nil => .nil
  | _, _, n + 1, .cons _ r => Reps.drop n r
theorem Reps.reverse {K : PySem.W.Frag} {F : Addr → Prop} {H : Hp} : ∀ {ds : List D} {vs : List V}, Reps K F H ds vs → Reps K F H ds.reverse vs.reverse
  | _, _, .nil => .nil
  | _, _, .cons h r => by
    rw [List.reverse_cons, List.reverse_cons]
    exact Reps.append (Reps.reverse r) (.cons h .nil)

/-! ### heaps: what an expression may do -/
structure Ext (F F' : Addr → Prop) (H H' : Hp) : Prop where
  same : Same H H'
  up : ∀ a, F a → F' a
  new : ∀ a, F' a → F a ∨ (H a = none ∧ H' a ≠ none)
theorem Ext.refl (F : Addr → Prop) (H : Hp) : Ext F F H H := ⟨Same.refl H, fun _ h => h, fun _ h => .inl h⟩
theorem Ext.trans {F F1 F2 : Addr → Prop} {H H1 H2 : Hp} (a : Ext F F1 H H1) (b : Ext F1 F2 H1 H2) : Ext F F2 H H2 :=
  ⟨a.same.trans b.same, fun x h => b.up x (a.up x h), fun x h => by
    rcases b.new x h with h1 | ⟨h1, h2⟩
    · rcases a.new x h1 with h3 | ⟨h3, h4⟩
      · exact .inl h3
      · refine .inr ⟨h3, fun z => h4 (b.same.free z)⟩
    · exact .inr ⟨a.same.free h1, h2⟩⟩
theorem Same.sqT {K : PySem.W.Frag} {H H' : Hp} {a : Addr} {xs : List V} (e : Same H H') (h : SqT K H a xs) : SqT K H' a xs := by
  rcases h with (h | ⟨o, h⟩) | h
  · exact .inl (.inl (e _ _ h))
  · exact .inl (.inr ⟨o, e _ _ h⟩)
  · exact .inr h
theorem Same.rd {H H' : Hp} {a : Addr} {u : HO} (e : Same H H') (h : Rd H a u) : Rd H' a u := by
  rcases h with h | ⟨o, h⟩
  · exact .inl (e _ _ h)
  · exact .inr ⟨o, e _ _ h⟩
theorem Ext.stay {K : PySem.W.Frag} {F F' : Addr → Prop} {H H' : Hp} (e : Ext F F' H H') : Stay K F F' H H' :=
  ⟨e.up, fun _ _ h => Same.sqT e.same h, fun _ _ _ h => Same.rd e.same h⟩
/-- a new list that nobody else holds, a new tuple -/
theorem same_upd {H : Hp} {p : Addr} {o : HO} (hp : H p = none) : Same H (upd H p o) := fun b u e => by
  rw [upd_ne (ne_of_none e hp)]; exact e
theorem Ext.fresh {F : Addr → Prop} {H : Hp} {p : Addr} {o : HO} (hp : H p = none) : Ext F F H (upd H p o) := ⟨same_upd hp, fun _ h => h, fun _ h => .inl h⟩
theorem Ext.frozen {F : Addr → Prop} {H : Hp} {p : Addr} {o : HO} (hp : H p = none) : Ext F (fun a => F a ∨ a = p) H (upd H p o) :=
  ⟨same_upd hp, fun _ h => .inl h, fun a h => h.elim .inl fun e => .inr (by subst e; exact ⟨hp, by rw [upd_same]; simp⟩)⟩
theorem Rep.newTup {K : PySem.W.Frag} {F : Addr → Prop} {H : Hp} {p : Addr} {vs : List V} {ds : List D} (hp : H p = none) (r : Reps K F H ds vs) : Rep K F (upd H p (.tup vs)) (.tuple ds) (.ref p) :=
  .tup (.inl (.inl upd_same)) (r.stay (Ext.fresh hp).stay)
theorem Rep.newLst {K : PySem.W.Frag} {F : Addr → Prop} {H : Hp} {p : Addr} {vs : List V} {ds : List D} (hp : H p = none) (r : Reps K F H ds vs) : Rep K (fun a => F a ∨ a = p) (upd H p (.lst vs)) (.list ds) (.ref p) :=
  .lst (.inl ⟨.inr rfl, .inl upd_same⟩) (r.stay (Ext.frozen hp).stay)

/-! ### the frame's slots -/
inductive Sl where
  | no
  | dat (d : D)
  | own (ds : List D)

def SlOk (K : PySem.W.Frag) (F : Addr → Prop) (H H₀ : Hp) : Option V → Sl → Prop
  | _, .no => True
  | o, .dat d => ∃ v, o = some v ∧ Rep K F H d v
  | o, .own ds => ∃ a vs, o = some (.ref a) ∧ H a = some (.lst vs) ∧ ¬ F a ∧ H₀ a = none ∧ Reps K F H ds vs
structure StOk (K : PySem.W.Frag) (F : Addr → Prop) (H H₀ : Hp) (σ : L2.St) (ρ : List Sl) : Prop where
  len : σ.length = ρ.length
  sl : ∀ (i : Nat) (s : Sl), ρ[i]? = some s → ∃ o, σ[i]? = some o ∧ SlOk K F H H₀ o s
  sep : ∀ (i j : Nat) (a : Addr) (ds es : List D), i ≠ j → ρ[i]? = some (.own ds) → ρ[j]? = some (.own es) → σ[i]? = some (some (.ref a)) → σ[j]? ≠ some (some (.ref a))
  fz : ∀ a, F a → H a ≠ none
theorem SlOk.ext {K : PySem.W.Frag} {F F' : Addr → Prop} {H H' H₀ : Hp} (e : Ext F F' H H') {o : Option V} {s : Sl} (h : SlOk K F H H₀ o s) : SlOk K F' H' H₀ o s := by
  cases s with
  | no => trivial
  | dat d => obtain ⟨v, q, r⟩ := h; exact ⟨v, q, r.stay e.stay⟩
  | own ds =>
    obtain ⟨a, vs, q, ha, nf, h0, r⟩ := h
    refine ⟨a, vs, q, e.same _ _ ha, fun f => ?_, h0, r.stay e.stay⟩
    rcases e.new a f with f | ⟨f, _⟩
    · exact nf f
    · rw [ha] at f; cases f
theorem Ext.fz {F F' : Addr → Prop} {H H' : Hp} (e : Ext F F' H H') (z : ∀ a, F a → H a ≠ none) : ∀ a, F' a → H' a ≠ none := fun a f q => by
  rcases e.new a f with f | ⟨_, f⟩
  · exact z a f (e.same.free q)
  · exact f q
theorem StOk.ext {K : PySem.W.Frag} {F F' : Addr → Prop} {H H' H₀ : Hp} {σ : L2.St} {ρ : List Sl} (S : StOk K F H H₀ σ ρ) (e : Ext F F' H H') : StOk K F' H' H₀ σ ρ :=
  ⟨S.len, fun i s h => let ⟨o, q, r⟩ := S.sl i s h; ⟨o, q, r.ext e⟩, S.sep, e.fz S.fz⟩
theorem StOk.dat {K : PySem.W.Frag} {F : Addr → Prop} {H H₀ : Hp} {σ : L2.St} {ρ : List Sl} (S : StOk K F H H₀ σ ρ) {i : Nat} {d : D} (h : ρ[i]? = some (.dat d)) : ∃ v, σ[i]? = some (some v) ∧ Rep K F H d v := by
  obtain ⟨o, q, v, e, r⟩ := S.sl i _ h
  exact ⟨v, by rw [q, e], r⟩
theorem StOk.own {K : PySem.W.Frag} {F : Addr → Prop} {H H₀ : Hp} {σ : L2.St} {ρ : List Sl} (S : StOk K F H H₀ σ ρ) {i : Nat} {ds : List D} (h : ρ[i]? = some (.own ds)) :
    ∃ a vs, σ[i]? = some (some (.ref a)) ∧ H a = some (.lst vs) ∧ ¬ F a ∧ H₀ a = none ∧ Reps K F H ds vs := by
  obtain ⟨o, q, a, vs, e, r⟩ := S.sl i _ h
  exact ⟨a, vs, by rw [q, e], r⟩
/-- a datum is stored -/
theorem StOk.put {K : PySem.W.Frag} {F : Addr → Prop} {H H₀ : Hp} {σ : L2.St} {ρ : List Sl} (S : StOk K F H H₀ σ ρ) {i : Nat} {d : D} {v : V} (r : Rep K F H d v) : StOk K F H H₀ (σ.set i (some v)) (ρ.set i (.dat d)) := by
  refine ⟨by simp [S.len], fun j s h => ?_, fun j k a ds es hjk h1 h2 h3 => ?_, S.fz⟩
  · by_cases hij : i = j
    · subst hij
      have hl : i < ρ.length := by
        have := List.getElem?_eq_some_iff.mp h
        simpa using this.1
      rw [List.getElem?_set_self hl] at h
      cases h
      exact ⟨some v, by rw [List.getElem?_set_self (by rw [S.len]; exact hl)], v, rfl, r⟩
    · rw [List.getElem?_set_ne hij] at h
      obtain ⟨o, q, w⟩ := S.sl j s h
      exact ⟨o, by rw [List.getElem?_set_ne hij]; exact q, w⟩
  · have nj : i ≠ j := by
      intro e; subst e
      have hl : i < ρ.length := by
        have := List.getElem?_eq_some_iff.mp h1
        simpa using this.1
      rw [List.getElem?_set_self hl] at h1; cases h1
    have nk : i ≠ k := by
      intro e; subst e
      have hl : i < ρ.length := by
        have := List.getElem?_eq_some_iff.mp h2
        simpa using this.1
      rw [List.getElem?_set_self hl] at h2; cases h2
    rw [List.getElem?_set_ne nj] at h1 h3
    rw [List.getElem?_set_ne nk] at h2 ⊢
    exact S.sep j k a ds es hjk h1 h2 h3
/-- a list that is new is stored -/
theorem StOk.putOwn {K : PySem.W.Frag} {F : Addr → Prop} {H H₀ : Hp} {σ : L2.St} {ρ : List Sl} (S : StOk K F H H₀ σ ρ) {i : Nat} {ds : List D} {vs : List V} {p : Addr} (hp : H p = none) (h0 : H₀ p = none) (r : Reps K F H ds vs) :
    StOk K F (upd H p (.lst vs)) H₀ (σ.set i (some (.ref p))) (ρ.set i (.own ds)) := by
  have e : Ext F F H (upd H p (.lst vs)) := Ext.fresh hp
  have S' := S.ext e
  have hf : ¬ F p := fun f => S.fz p f hp
  refine ⟨by simp [S.len], fun j s h => ?_, fun j k a ds' es hjk h1 h2 h3 h4 => ?_, S'.fz⟩
  · by_cases hij : i = j
    · subst hij
      have hl : i < ρ.length := by
        have := List.getElem?_eq_some_iff.mp h
        simpa using this.1
      rw [List.getElem?_set_self hl] at h
      cases h
      exact ⟨some (.ref p), by rw [List.getElem?_set_self (by rw [S.len]; exact hl)], p, vs, rfl, upd_same, hf, h0, r.stay e.stay⟩
    · rw [List.getElem?_set_ne hij] at h
      obtain ⟨o, q, w⟩ := S'.sl j s h
      exact ⟨o, by rw [List.getElem?_set_ne hij]; exact q, w⟩
  · have old : ∀ (m : Nat) (a : Addr) (es : List D), i ≠ m → (ρ.set i (.own ds))[m]? = some (.own es) → (σ.set i (some (.ref p)))[m]? = some (some (.ref a)) → a ≠ p := fun m a es nm g1 g2 z => by
      rw [List.getElem?_set_ne nm] at g1 g2
      obtain ⟨b, us, q1, q2, _⟩ := S.own g1
      rw [q1] at g2; cases g2
      subst z
      rw [hp] at q2; cases q2
    by_cases hij : i = j
    · subst hij
      have hik : i ≠ k := hjk
      have hl : i < ρ.length := by
        have := List.getElem?_eq_some_iff.mp h1
        simpa using this.1
      rw [List.getElem?_set_self (by rw [S.len]; exact hl)] at h3
      cases h3
      exact old k p es hik h2 h4 rfl
    · by_cases hik : i = k
      · subst hik
        have hl : i < ρ.length := by
          have := List.getElem?_eq_some_iff.mp h2
          simpa using this.1
        rw [List.getElem?_set_self (by rw [S.len]; exact hl)] at h4
        cases h4
        exact old j p ds' hij h1 h3 rfl
      · rw [List.getElem?_set_ne hij] at h1 h3
        rw [List.getElem?_set_ne hik] at h2 h4
        exact S.sep j k a ds' es hjk h1 h2 h3 h4
/-- a list that the frame alone holds changes -/
theorem StOk.turn {K : PySem.W.Frag} {F : Addr → Prop} {H H₀ : Hp} {σ : L2.St} {ρ : List Sl} (S : StOk K F H H₀ σ ρ) {i : Nat} {ds es : List D} {vs us : List V} {p : Addr} (hi : ρ[i]? = some (.own ds)) (hs : σ[i]? = some (some (.ref p)))
    (hp : H p = some (.lst vs)) (hf : ¬ F p) (r : Reps K F H es us) : StOk K F (upd H p (.lst us)) H₀ σ (ρ.set i (.own es)) ∧ Stay K F F H (upd H p (.lst us)) := by
  have T : Stay K F F H (upd H p (.lst us)) := ⟨fun _ h => h, fun a xs h => by
      rcases h with (h | ⟨o, h⟩) | h
      · exact .inl (.inl (by rw [upd_ne (by intro z; subst z; rw [hp] at h; cases h)]; exact h))
      · exact .inl (.inr ⟨o, by rw [upd_ne (by intro z; subst z; rw [hp] at h; cases h)]; exact h⟩)
      · exact .inr h, fun a xs f h => by
      have na : a ≠ p := fun z => hf (z ▸ f)
      rcases h with h | ⟨o, h⟩
      · exact .inl (by rw [upd_ne na]; exact h)
      · exact .inr ⟨o, by rw [upd_ne na]; exact h⟩⟩
  refine ⟨⟨by simp [S.len], fun j s h => ?_, fun j k a ds' es' hjk h1 h2 h3 => ?_, fun a f z => S.fz a f (by
    have na : a ≠ p := fun y => hf (by rw [← y]; exact f)
    rwa [upd_ne na] at z)⟩, T⟩
  · by_cases hij : i = j
    · subst hij
      have hl : i < ρ.length := (List.getElem?_eq_some_iff.mp hi).1
      rw [List.getElem?_set_self hl] at h
      cases h
      obtain ⟨a, ws, q1, _, _, q4, _⟩ := S.own hi
      rw [hs] at q1; cases q1
      exact ⟨_, hs, p, us, rfl, upd_same, hf, q4, r.stay T⟩
    · rw [List.getElem?_set_ne hij] at h
      obtain ⟨o, q, w⟩ := S.sl j s h
      refine ⟨o, q, ?_⟩
      cases s with
      | no => trivial
      | dat d => obtain ⟨v, q', r'⟩ := w; exact ⟨v, q', r'.stay T⟩
      | own ds' =>
        obtain ⟨a, ws, q', ha, nf, h0, r'⟩ := w
        have na : a ≠ p := by
          intro z; subst z
          exact S.sep i j a ds ds' hij hi h hs (by rw [q, q'])
        exact ⟨a, ws, q', by rw [upd_ne na]; exact ha, nf, h0, r'.stay T⟩
  · have get : ∀ (m : Nat) (es' : List D), (ρ.set i (.own es))[m]? = some (.own es') → ∃ ds'' : List D, ρ[m]? = some (.own ds'') := fun m es' g => by
      by_cases him : i = m
      · subst him; exact ⟨ds, hi⟩
      · rw [List.getElem?_set_ne him] at g; exact ⟨es', g⟩
    obtain ⟨d1, g1⟩ := get j ds' h1
    obtain ⟨d2, g2⟩ := get k es' h2
    exact S.sep j k a d1 d2 hjk g1 g2 h3

/-! ### freezing: what the frame alone holds becomes a datum like any other -/
def frz : Sl → Sl
  | .own ds => .dat (.list ds)
  | s => s
/-- the addresses of the lists that the frame alone holds -/
def Own (σ : L2.St) (ρ : List Sl) (a : Addr) : Prop := ∃ (i : Nat) (ds : List D), ρ[i]? = some (.own ds) ∧ σ[i]? = some (some (.ref a))
theorem StOk.frz {K : PySem.W.Frag} {F : Addr → Prop} {H H₀ : Hp} {σ : L2.St} {ρ : List Sl} (S : StOk K F H H₀ σ ρ) : StOk K (fun a => F a ∨ Own σ ρ a) H H₀ σ (ρ.map frz) := by
  have T : Stay K F (fun a => F a ∨ Own σ ρ a) H H := ⟨fun _ h => .inl h, fun _ _ h => h, fun _ _ _ h => h⟩
  refine ⟨by simp [S.len], fun j s h => ?_, fun j k a ds es _ h1 => ?_, fun a f => ?_⟩
  · rw [List.getElem?_map] at h
    cases e : ρ[j]? with
    | none => rw [e] at h; cases h
    | some s' =>
      rw [e] at h
      obtain ⟨o, q, w⟩ := S.sl j s' e
      refine ⟨o, q, ?_⟩
      cases s' with
      | no => cases h; trivial
      | dat d => cases h; obtain ⟨v, q', r⟩ := w; exact ⟨v, q', r.stay T⟩
      | own ds =>
        cases h
        obtain ⟨a, vs, q', ha, nf, h0, r⟩ := w
        exact ⟨.ref a, q', .lst (.inl ⟨.inr ⟨j, ds, e, by rw [q, q']⟩, .inl ha⟩) (r.stay T)⟩
  · rw [List.getElem?_map] at h1
    cases e : ρ[j]? with
    | none => rw [e] at h1; cases h1
    | some s' => rw [e] at h1; cases s' <;> cases h1
  · rcases f with f | ⟨i, ds, q1, q2⟩
    · exact S.fz a f
    · obtain ⟨b, vs, g1, g2, _⟩ := S.own q1
      rw [g1] at q2; cases q2
      rw [g2]; simp
/-- one slot is frozen for good -/
theorem StOk.frz1 {K : PySem.W.Frag} {F : Addr → Prop} {H H₀ : Hp} {σ : L2.St} {ρ : List Sl} (S : StOk K F H H₀ σ ρ) {i : Nat} {ds : List D} (hi : ρ[i]? = some (.own ds)) :
    ∃ a, H₀ a = none ∧ StOk K (fun b => F b ∨ b = a) H H₀ σ (ρ.set i (.dat (.list ds))) := by
  obtain ⟨a, vs, q1, q2, nf, h0, r⟩ := S.own hi
  have T : Stay K F (fun b => F b ∨ b = a) H H := ⟨fun _ h => .inl h, fun _ _ h => h, fun _ _ _ h => h⟩
  have hl : i < ρ.length := (List.getElem?_eq_some_iff.mp hi).1
  refine ⟨a, h0, by simp [S.len], fun j s h => ?_, fun j k b ds' es hjk h1 h2 h3 => ?_, fun b f => f.elim (S.fz b) fun z => by subst z; rw [q2]; simp⟩
  · by_cases hij : i = j
    · subst hij
      rw [List.getElem?_set_self hl] at h
      cases h
      exact ⟨_, q1, .ref a, rfl, .lst (.inl ⟨.inr rfl, .inl q2⟩) (r.stay T)⟩
    · rw [List.getElem?_set_ne hij] at h
      obtain ⟨o, q, w⟩ := S.sl j s h
      refine ⟨o, q, ?_⟩
      cases s with
      | no => trivial
      | dat d => obtain ⟨v, q', r'⟩ := w; exact ⟨v, q', r'.stay T⟩
      | own ds' =>
        obtain ⟨b, ws, q', ha, nf', h0', r'⟩ := w
        refine ⟨b, ws, q', ha, fun f => ?_, h0', r'.stay T⟩
        rcases f with f | f
        · exact nf' f
        · subst f
          exact S.sep i j b ds ds' hij hi h q1 (by rw [q, q'])
  · have nj : i ≠ j := by intro e; subst e; rw [List.getElem?_set_self hl] at h1; cases h1
    have nk : i ≠ k := by intro e; subst e; rw [List.getElem?_set_self hl] at h2; cases h2
    rw [List.getElem?_set_ne nj] at h1
    rw [List.getElem?_set_ne nk] at h2
    exact S.sep j k b ds' es hjk h1 h2 h3
end DL

namespace DL
open PySem PySem.Spec PyProof.Rows L2

abbrev Rho := List Sl
section
variable {X : Cx}
theorem pe_mono {e : Expr} {t t' : TE} (h : PE X e t) (m : ∀ σ H Q, t' σ H Q → t σ H Q) : PE X e t' := fun pins s σ H Q I q => h pins s σ H Q I (m σ H Q q)
theorem pt_mono {e : Expr} {t t' : TT} (h : PT X e t) (m : ∀ σ H Q, t' σ H Q → t σ H Q) : PT X e t' := fun pins s σ H Q I q => h pins s σ H Q I (m σ H Q q)
theorem pw_mono {e : Expr} {t t' : TT} (h : PW X e t) (m : ∀ σ H Q, t' σ H Q → t σ H Q) : PW X e t' := fun wh pins s σ H Q I q => h wh pins s σ H Q I (m σ H Q q)
theorem pa_mono {es : List Expr} {t t' : TA} (h : PA X es t) (m : ∀ σ H Q, t' σ H Q → t σ H Q) : PA X es t' := fun pos pins s σ H Q I q => h pos pins s σ H Q I (m σ H Q q)
theorem ps_mono {e : Stmt} {t t' : TS} (h : PS X e t) (m : ∀ W σ H, t' W σ H → t W σ H) : PS X e t' := fun pins s σ H W I q => h pins s σ H W I (m W σ H q)
theorem pss_mono {e : List Stmt} {t t' : TS} (h : PSs X e t) (m : ∀ W σ H, t' W σ H → t W σ H) : PSs X e t' := fun pins s σ H W I q => h pins s σ H W I (m W σ H q)
theorem opr_mono {f : Value → Value → Sem Value} {r r' : R2} (h : OpR X f r) (m : ∀ x y H Q, r' x y H Q → r x y H Q) : OpR X f r' := fun pins s σ H x y v u Q I rx ry q => h pins s σ H x y v u Q I rx ry (m x y H Q q)
theorem unr_mono {f : Value → Sem Value} {r r' : V → Hp → VK → Prop} (h : UnR X f r) (m : ∀ x H Q, r' x H Q → r x H Q) : UnR X f r' := fun pins s σ H x v Q I rx q => h pins s σ H x v Q I rx (m x H Q q)
theorem callr_mono {f : Value} {r r' : List V → Hp → VK → Prop} (h : CallR X f r) (m : ∀ x H Q, r' x H Q → r x H Q) : CallR X f r' := fun pins s σ H x v Q I rx q => h pins s σ H x v Q I rx (m x H Q q)
theorem ixr_mono {r r' : R2} (h : IxR X r) (m : ∀ x y H Q, r' x y H Q → r x y H Q) : IxR X r' := fun a b pins s σ H x y v u Q I rx ry q hs => h a b pins s σ H x y v u Q I rx ry (m x y H Q q) hs
end

/-! ### the judgements over data -/
def tD (K : PySem.W.Frag) (g : Rho → Option D) : TE := fun σ H Q => ∃ (F : Addr → Prop) (H₀ : Hp) (ρ : Rho) (d : D), StOk K F H H₀ σ ρ ∧ g ρ = some d ∧ ∀ F' H' v, Ext F F' H H' → Rep K F' H' d v → Q v H'
def tDT (K : PySem.W.Frag) (g : Rho → Option Bool) : TT := fun σ H Q => ∃ (F : Addr → Prop) (H₀ : Hp) (ρ : Rho) (b : Bool), StOk K F H H₀ σ ρ ∧ g ρ = some b ∧ ∀ F' H', Ext F F' H H' → Q b H'
def tDA (K : PySem.W.Frag) (g : Rho → Option (List D)) : TA := fun σ H Q => ∃ (F : Addr → Prop) (H₀ : Hp) (ρ : Rho) (ds : List D), StOk K F H H₀ σ ρ ∧ g ρ = some ds ∧ ∀ F' H' vs, Ext F F' H H' → Reps K F' H' ds vs → Q vs H'
def DE (X : Cx) (e : Expr) (g : Rho → Option D) : Prop := PE X e (tD X.K g)
def DT (X : Cx) (e : Expr) (g : Rho → Option Bool) : Prop := PT X e (tDT X.K g)
def DW (X : Cx) (e : Expr) (g : Rho → Option Bool) : Prop := PW X e (tDT X.K g)
def DA (X : Cx) (es : List Expr) (g : Rho → Option (List D)) : Prop := PA X es (tDA X.K g)

def eC (d : D) : Rho → Option D := fun _ => some d
def eV (i : Nat) : Rho → Option D := fun ρ => match ρ[i]? with
  | some (.dat d) => some d
  | _ => none
def eOp (f : D → D → Option D) (ga gb : Rho → Option D) : Rho → Option D := fun ρ => (ga ρ).bind fun x => (gb ρ).bind fun y => f x y
def eUn (f : D → Option D) (ga : Rho → Option D) : Rho → Option D := fun ρ => (ga ρ).bind f
def eNil : Rho → Option (List D) := fun _ => some []
def eCons (ga : Rho → Option D) (gr : Rho → Option (List D)) : Rho → Option (List D) := fun ρ => (ga ρ).bind fun x => (gr ρ).bind fun xs => some (x :: xs)
def eTup (ga : Rho → Option (List D)) : Rho → Option D := fun ρ => (ga ρ).bind fun xs => if xs.length ≤ 1000 then some (.tuple xs) else none
def eLst (ga : Rho → Option (List D)) : Rho → Option D := fun ρ => (ga ρ).bind fun xs => if xs.length ≤ 1000 then some (.list xs) else none
def eCall (G : List D → Option D) (ga : Rho → Option (List D)) : Rho → Option D := fun ρ => (ga ρ).bind G
def asB : D → Option Bool
  | .bool b => some b
  | _ => none
def asI : D → Option Int
  | .int i => some i
  | _ => none
def eB (ga : Rho → Option D) : Rho → Option Bool := fun ρ => (ga ρ).bind asB
def eAnd (t u : Rho → Option Bool) : Rho → Option Bool := fun ρ => (t ρ).bind fun b => if b = true then u ρ else some false
def eOr (t u : Rho → Option Bool) : Rho → Option Bool := fun ρ => (t ρ).bind fun b => if b = true then some true else u ρ
def eNot (t : Rho → Option Bool) : Rho → Option Bool := fun ρ => (t ρ).bind fun b => some (!b)
def eIf (t : Rho → Option Bool) (ga gb : Rho → Option D) : Rho → Option D := fun ρ => (t ρ).bind fun b => if b = true then ga ρ else gb ρ
def eAndV (ga gb : Rho → Option D) : Rho → Option D := fun ρ => (ga ρ).bind fun x => (asB x).bind fun c => if c = true then gb ρ else some (.bool false)
def eOrV (ga gb : Rho → Option D) : Rho → Option D := fun ρ => (ga ρ).bind fun x => (asB x).bind fun c => if c = true then some (.bool true) else gb ρ
def eNotV (ga : Rho → Option D) : Rho → Option D := fun ρ => (ga ρ).bind fun x => (asB x).bind fun c => some (.bool (!c))
def eChain (h h' : D → D → Option D) (ga gb gc : Rho → Option D) : Rho → Option D := fun ρ => (ga ρ).bind fun x => (gb ρ).bind fun y => (h x y).bind fun z => (asB z).bind fun k => if k = true then (gc ρ).bind fun w => h' y w else some (.bool false)

/-- a two-place operation, a call, by data -/
def rD2 (K : PySem.W.Frag) (h : D → D → Option D) : R2 := fun x y H Q => ∃ (F : Addr → Prop) (d e r : D), (∀ a, F a → H a ≠ none) ∧ Rep K F H d x ∧ Rep K F H e y ∧ h d e = some r ∧ ∀ F' H' v, Ext F F' H H' → Rep K F' H' r v → Q v H'
def rD1 (K : PySem.W.Frag) (h : D → Option D) : V → Hp → VK → Prop := fun x H Q => ∃ (F : Addr → Prop) (d r : D), (∀ a, F a → H a ≠ none) ∧ Rep K F H d x ∧ h d = some r ∧ ∀ F' H' v, Ext F F' H H' → Rep K F' H' r v → Q v H'
def rDA (K : PySem.W.Frag) (h : List D → Option D) : List V → Hp → VK → Prop := fun xs H Q => ∃ (F : Addr → Prop) (ds : List D) (r : D), (∀ a, F a → H a ≠ none) ∧ Reps K F H ds xs ∧ h ds = some r ∧ ∀ F' H' v, Ext F F' H H' → Rep K F' H' r v → Q v H'

section
variable {X : Cx} {a b c e : Expr} {es : List Expr} {ga gb gc : Rho → Option D} {pos p : Pos}
theorem bnd {α β : Type} {o : Option α} {f : α → Option β} {b : β} (h : o.bind f = some b) : ∃ a, o = some a ∧ f a = some b := by
  cases o with
  | none => cases h
  | some a => exact ⟨a, rfl, h⟩

theorem de_of_c {v : V} {d : D} (h : PE X e (tC v)) (r : ∀ K F H, Rep K F H d v) : DE X e (eC d) :=
  pe_mono h fun σ H Q ⟨F, H₀, ρ, d', S, q, k⟩ => by
    cases q
    exact k F H v (Ext.refl F H) (r _ _ _)
theorem de_int {i : Int} {j : Nat} : DE X (.Constant (.int i) j pos) (eC (.int i)) := de_of_c pe_int fun _ _ _ => .int i
theorem de_bl {i : Bool} {j : Nat} : DE X (.Constant (.bool i) j pos) (eC (.bool i)) := de_of_c pe_bl fun _ _ _ => .bl i
theorem de_non {j : Nat} : DE X (.Constant .none j pos) (eC .none) := de_of_c pe_non fun _ _ _ => .non
theorem de_str {x : Str} {j : Nat} : DE X (.Constant (.str x) j pos) (eC (.str x)) := de_of_c pe_str fun _ _ _ => .str x
/-- a module's int -/
theorem de_gint {x : Str} {i : Int} {t : Tok} (hg : Gl X x) (hm : X.mg x = some (.int i t)) (hd : (x == ("__debug__" : Str)) = false := by decide) : DE X (.Name x pos) (eC (.int i)) :=
  de_of_c (pe_glob (v := .int i) hg hm ⟨t, rfl⟩ hd) fun _ _ _ => .int i
theorem de_var (i : Nat) {x : Str} (hN : X.N[i]? = some x := by rfl) (hv : Vis X.env.scope x := by first | exact Or.inl rfl | exact Or.inr (Or.inl rfl) | exact Or.inr (Or.inr rfl)) (hd : (x == ("__debug__" : Str)) = false := by decide)
    (hcd : (x == ("__classdict__" : Str)) = false := by decide) : DE X (.Name x pos) (eV i) :=
  pe_mono (pe_var hN hv hd hcd) fun σ H Q ⟨F, H₀, ρ, d, S, q, k⟩ => by
    unfold eV at q
    split at q
    · rename_i d' e
      cases q
      obtain ⟨v, hs, r⟩ := S.dat e
      exact ⟨v, hs, k F H v (Ext.refl F H) r⟩
    · cases q
theorem lift2 {h : D → D → Option D} {σ : L2.St} {H : Hp} {Q : VK} (q : tD X.K (eOp h ga gb) σ H Q) : tOp (rD2 X.K h) (tD X.K ga) (tD X.K gb) σ H Q := by
  obtain ⟨F, H₀, ρ, d, S, q, k⟩ := q
  obtain ⟨x, e1, q⟩ := bnd q
  obtain ⟨y, e2, q⟩ := bnd q
  exact ⟨F, H₀, ρ, x, S, e1, fun F1 H1 v E1 R1 => ⟨F1, H₀, ρ, y, S.ext E1, e2, fun F2 H2 u E2 R2 => ⟨F2, x, y, d, ((S.ext E1).ext E2).fz, R1.stay E2.stay, R2, q, fun F3 H3 w E3 R3 => k F3 H3 w (E1.trans (E2.trans E3)) R3⟩⟩⟩
theorem de_op {op : Operator} {h : D → D → Option D} (ho : OpR X (binaryOp op) (rD2 X.K h)) (ha : DE X a ga) (hb : DE X b gb) : DE X (.BinOp a op b pos) (eOp h ga gb) :=
  pe_mono (pe_op ho ha hb) fun _ _ _ q => lift2 q
theorem de_cmp {op : CmpOp} {h : D → D → Option D} (ho : OpR X (compareOp op) (rD2 X.K h)) (ha : DE X a ga) (hb : DE X b gb) (hm : behindInMarks op b = false) : DE X (.Compare a [op] [b] pos) (eOp h ga gb) :=
  pe_mono (pe_cmpR ho ha hb hm) fun _ _ _ q => lift2 q
theorem de_ix {h : D → D → Option D} (ho : IxR X (rD2 X.K h)) (ha : DE X a ga) (hb : DE X b gb) (hs : PlainIx b := by exact fun _ _ => rfl) : DE X (.Subscript a b pos) (eOp h ga gb) :=
  pe_mono (pe_ix ho ha hb hs) fun _ _ _ q => lift2 q
theorem de_un {op : UnaryOp} {h : D → Option D} (ho : UnR X (unaryOp op) (rD1 X.K h)) (ha : DE X a ga) : DE X (.UnaryOp op a pos) (eUn h ga) :=
  pe_mono (pe_un ho ha) fun σ H Q ⟨F, H₀, ρ, d, S, q, k⟩ => by
    obtain ⟨x, e1, q⟩ := bnd q
    exact ⟨F, H₀, ρ, x, S, e1, fun F1 H1 v E1 R1 => ⟨F1, x, d, (S.ext E1).fz, R1, q, fun F3 H3 w E3 R3 => k F3 H3 w (E1.trans E3) R3⟩⟩
theorem rep_bool {K : PySem.W.Frag} {F : Addr → Prop} {H : Hp} {d : D} {v : V} {b : Bool} (r : Rep K F H d v) (h : asB d = some b) : v = .bl b := by
  cases r with
  | bl c => cases h; rfl
  | _ => cases h
theorem rep_int {K : PySem.W.Frag} {F : Addr → Prop} {H : Hp} {d : D} {v : V} {i : Int} (r : Rep K F H d v) (h : asI d = some i) : v = .int i := by
  cases r with
  | int c => cases h; rfl
  | _ => cases h
theorem liftT {t : TE} {g : Rho → Option D} (m : ∀ σ H Q, tD X.K g σ H Q → t σ H Q) {σ : L2.St} {H : Hp} {Q : Bool → Hp → Prop} (q : tDT X.K (eB g) σ H Q) : tTest t σ H Q := by
  obtain ⟨F, H₀, ρ, b, S, q, k⟩ := q
  obtain ⟨d, e1, q⟩ := bnd q
  exact m σ H _ ⟨F, H₀, ρ, d, S, e1, fun F1 H1 v E1 R1 => ⟨b, rep_bool R1 q, k F1 H1 E1⟩⟩
theorem dt_cmp {op : CmpOp} {h : D → D → Option D} (ho : OpR X (compareOp op) (rD2 X.K h)) (ha : DE X a ga) (hb : DE X b gb) (hm : behindInMarks op b = false) : DT X (.Compare a [op] [b] pos) (eB (eOp h ga gb)) :=
  pt_mono (pt_cmpR ho ha hb hm) fun _ _ _ q => liftT (fun _ _ _ => lift2) q
theorem lift3 {h h' : D → D → Option D} {σ : L2.St} {H : Hp} {Q : VK} (q : tD X.K (eChain h h' ga gb gc) σ H Q) : tChain (rD2 X.K h) (rD2 X.K h') (tD X.K ga) (tD X.K gb) (tD X.K gc) σ H Q := by
  obtain ⟨F, H₀, ρ, d, S, q, k⟩ := q
  obtain ⟨x, e1, q⟩ := bnd q
  obtain ⟨y, e2, q⟩ := bnd q
  obtain ⟨z, e3, q⟩ := bnd q
  obtain ⟨c', e4, q⟩ := bnd q
  refine ⟨F, H₀, ρ, x, S, e1, fun F1 H1 v E1 R1 => ⟨F1, H₀, ρ, y, S.ext E1, e2, fun F2 H2 u E2 R2 => ⟨F2, x, y, z, ((S.ext E1).ext E2).fz, R1.stay E2.stay, R2, e3, fun F3 H3 w E3 R3 => ⟨c', rep_bool R3 e4, ?_⟩⟩⟩⟩
  cases c' with
  | false =>
    simp only [Bool.false_eq_true, if_false] at q ⊢
    cases q
    exact k F3 H3 _ (E1.trans (E2.trans E3)) (.bl false)
  | true =>
    simp only [if_true] at q ⊢
    obtain ⟨w', e5, q⟩ := bnd q
    have S3 := ((S.ext E1).ext E2).ext E3
    exact ⟨F3, H₀, ρ, w', S3, e5, fun F4 H4 v4 E4 R4 => ⟨F4, y, w', d, (S3.ext E4).fz, (R2.stay E3.stay).stay E4.stay, R4, q, fun F5 H5 v5 E5 R5 => k F5 H5 v5 (E1.trans (E2.trans (E3.trans (E4.trans E5)))) R5⟩⟩
theorem de_chain {op op' : CmpOp} {h h' : D → D → Option D} (ho : OpR X (compareOp op) (rD2 X.K h)) (ho' : OpR X (compareOp op') (rD2 X.K h')) (ha : DE X a ga) (hb : DE X b gb) (hc : DE X c gc)
    (hm : lastMarks [op, op'] [b, c] = false := by with_unfolding_all rfl) : DE X (.Compare a [op, op'] [b, c] pos) (eChain h h' ga gb gc) :=
  pe_mono (pe_chain ho ho' ha hb hc hm) fun _ _ _ q => lift3 q
theorem dt_chain {op op' : CmpOp} {h h' : D → D → Option D} (ho : OpR X (compareOp op) (rD2 X.K h)) (ho' : OpR X (compareOp op') (rD2 X.K h')) (ha : DE X a ga) (hb : DE X b gb) (hc : DE X c gc)
    (hm : lastMarks [op, op'] [b, c] = false := by with_unfolding_all rfl) : DT X (.Compare a [op, op'] [b, c] pos) (eB (eChain h h' ga gb gc)) :=
  pt_mono (pt_chain ho ho' ha hb hc hm) fun _ _ _ q => liftT (fun _ _ _ => lift3) q
/-- a bool's value as a test (a name, a call, a subscript) -/
theorem dt_val (ha : DE X a ga) (he : ∀ whole, isTrue a X.env whole = (do let v ← whole; standAt a.pos; holding [v] (truthy v)) := by intro _; rfl) : DT X a (eB ga) :=
  pt_mono (pt_val ha he) fun σ H Q ⟨F, H₀, ρ, b, S, q, k⟩ => by
    obtain ⟨d, e1, q⟩ := bnd q
    exact ⟨F, H₀, ρ, d, S, e1, fun F1 H1 v E1 R1 => ⟨b, rep_bool R1 q, k F1 H1 E1⟩⟩
variable {t u : Rho → Option Bool} {rest : List Expr}
theorem dw_and1 (ha : DT X a t) : DW X (.BoolOp .And [a] pos) t := pw_and1 ha
theorem dw_or1 (ha : DT X a t) : DW X (.BoolOp .Or [a] pos) t := pw_or1 ha
theorem dw_and (ha : DT X a t) (hb : DW X (.BoolOp .And (b :: rest) pos) u) : DW X (.BoolOp .And (a :: b :: rest) pos) (eAnd t u) :=
  pw_mono (pw_and ha hb) fun σ H Q ⟨F, H₀, ρ, r, S, q, k⟩ => by
    obtain ⟨d, e1, q⟩ := bnd q
    refine ⟨F, H₀, ρ, d, S, e1, fun F1 H1 E1 => ?_⟩
    cases d with
    | true => simp only [if_true] at q ⊢; exact ⟨F1, H₀, ρ, r, S.ext E1, q, fun F2 H2 E2 => k F2 H2 (E1.trans E2)⟩
    | false => simp only [Bool.false_eq_true, if_false] at q ⊢; cases q; exact k F1 H1 E1
theorem dw_or (ha : DT X a t) (hb : DW X (.BoolOp .Or (b :: rest) pos) u) : DW X (.BoolOp .Or (a :: b :: rest) pos) (eOr t u) :=
  pw_mono (pw_or ha hb) fun σ H Q ⟨F, H₀, ρ, r, S, q, k⟩ => by
    obtain ⟨d, e1, q⟩ := bnd q
    refine ⟨F, H₀, ρ, d, S, e1, fun F1 H1 E1 => ?_⟩
    cases d with
    | false => simp only [Bool.false_eq_true, if_false] at q ⊢; exact ⟨F1, H₀, ρ, r, S.ext E1, q, fun F2 H2 E2 => k F2 H2 (E1.trans E2)⟩
    | true => simp only [if_true] at q ⊢; cases q; exact k F1 H1 E1
theorem dw_t (h : DW X a t) : DT X a t := PW.pt h
theorem dt_not (ha : DT X a t) : DT X (.UnaryOp .Not a pos) (eNot t) :=
  pt_mono (pt_not ha) fun σ H Q ⟨F, H₀, ρ, r, S, q, k⟩ => by
    obtain ⟨d, e1, q⟩ := bnd q
    cases q
    exact ⟨F, H₀, ρ, d, S, e1, fun F1 H1 E1 => k F1 H1 E1⟩
theorem de_one {op : BoolOp} (ha : DE X a ga) : DE X (.BoolOp op [a] pos) ga := pe_one ha
theorem de_and (ha : DE X a ga) (hb : DE X (.BoolOp .And (b :: rest) pos) gb) : DE X (.BoolOp .And (a :: b :: rest) pos) (eAndV ga gb) :=
  pe_mono (pe_and ha hb) fun σ H Q ⟨F, H₀, ρ, r, S, q, k⟩ => by
    obtain ⟨d, e1, q⟩ := bnd q
    obtain ⟨c, e2, q⟩ := bnd q
    refine ⟨F, H₀, ρ, d, S, e1, fun F1 H1 v E1 R1 => ⟨c, rep_bool R1 e2, ?_⟩⟩
    cases c with
    | true => simp only [if_true] at q ⊢; exact ⟨F1, H₀, ρ, r, S.ext E1, q, fun F2 H2 w E2 R2 => k F2 H2 w (E1.trans E2) R2⟩
    | false => simp only [Bool.false_eq_true, if_false] at q ⊢; cases q; exact k F1 H1 _ E1 (.bl false)
theorem de_or (ha : DE X a ga) (hb : DE X (.BoolOp .Or (b :: rest) pos) gb) : DE X (.BoolOp .Or (a :: b :: rest) pos) (eOrV ga gb) :=
  pe_mono (pe_or ha hb) fun σ H Q ⟨F, H₀, ρ, r, S, q, k⟩ => by
    obtain ⟨d, e1, q⟩ := bnd q
    obtain ⟨c, e2, q⟩ := bnd q
    refine ⟨F, H₀, ρ, d, S, e1, fun F1 H1 v E1 R1 => ⟨c, rep_bool R1 e2, ?_⟩⟩
    cases c with
    | false => simp only [Bool.false_eq_true, if_false] at q ⊢; exact ⟨F1, H₀, ρ, r, S.ext E1, q, fun F2 H2 w E2 R2 => k F2 H2 w (E1.trans E2) R2⟩
    | true => simp only [if_true] at q ⊢; cases q; exact k F1 H1 _ E1 (.bl true)
theorem de_not (ha : DE X a ga) : DE X (.UnaryOp .Not a pos) (eNotV ga) :=
  pe_mono (pe_not ha) fun σ H Q ⟨F, H₀, ρ, r, S, q, k⟩ => by
    obtain ⟨d, e1, q⟩ := bnd q
    obtain ⟨c, e2, q⟩ := bnd q
    cases q
    exact ⟨F, H₀, ρ, d, S, e1, fun F1 H1 v E1 R1 => ⟨c, rep_bool R1 e2, k F1 H1 _ E1 (.bl _)⟩⟩
theorem de_if (hc : DT X c t) (ha : DE X a ga) (hb : DE X b gb) : DE X (.IfExp c a b pos) (eIf t ga gb) :=
  pe_mono (pe_ifExp hc ha hb) fun σ H Q ⟨F, H₀, ρ, r, S, q, k⟩ => by
    obtain ⟨d, e1, q⟩ := bnd q
    refine ⟨F, H₀, ρ, d, S, e1, fun F1 H1 E1 => ?_⟩
    cases d with
    | true => simp only [if_true] at q ⊢; exact ⟨F1, H₀, ρ, r, S.ext E1, q, fun F2 H2 w E2 R2 => k F2 H2 w (E1.trans E2) R2⟩
    | false => simp only [Bool.false_eq_true, if_false] at q ⊢; exact ⟨F1, H₀, ρ, r, S.ext E1, q, fun F2 H2 w E2 R2 => k F2 H2 w (E1.trans E2) R2⟩

/-! ### argument lists, displays, calls -/
variable {gr : Rho → Option (List D)}
theorem da_nil : DA X [] eNil := pa_mono pa_nil fun σ H Q ⟨F, H₀, ρ, d, S, q, k⟩ => by
  cases q
  exact k F H [] (Ext.refl F H) .nil
theorem da_cons (ha : DE X e ga) (hr : DA X es gr) (hs : starEach (e :: es) X.env = (false, eval e X.env) :: starEach es X.env := by rfl) : DA X (e :: es) (eCons ga gr) :=
  pa_mono (pa_cons ha hr hs) fun σ H Q ⟨F, H₀, ρ, d, S, q, k⟩ => by
    obtain ⟨x, e1, q⟩ := bnd q
    obtain ⟨xs, e2, q⟩ := bnd q
    cases q
    exact ⟨F, H₀, ρ, x, S, e1, fun F1 H1 v E1 R1 => ⟨F1, H₀, ρ, xs, S.ext E1, e2, fun F2 H2 vs E2 R2 => k F2 H2 _ (E1.trans E2) (.cons (R1.stay E2.stay) R2)⟩⟩
theorem line1000 {n : Nat} (h : n ≤ 1000) : n ≤ sizeLine := Nat.le_of_lt (small1000 h)
theorem de_tup {x1} (h : DA X es gr) : DE X (.Tuple es x1 pos) (eTup gr) :=
  pe_mono (pe_tup h) fun σ H Q ⟨F, H₀, ρ, d, S, q, k⟩ => by
    obtain ⟨xs, e1, q⟩ := bnd q
    refine ⟨F, H₀, ρ, xs, S, e1, fun F1 H1 vs E1 R1 => ?_⟩
    by_cases hl : xs.length ≤ 1000
    · rw [if_pos hl] at q
      cases q
      refine ⟨line1000 (by rw [← R1.length]; exact hl), fun p hp => k F1 _ _ (E1.trans (Ext.fresh hp)) (Rep.newTup hp R1)⟩
    · rw [if_neg hl] at q; cases q
theorem de_lst (h : DA X es gr) : DE X (.List es pos) (eLst gr) :=
  pe_mono (pe_lst h) fun σ H Q ⟨F, H₀, ρ, d, S, q, k⟩ => by
    obtain ⟨xs, e1, q⟩ := bnd q
    refine ⟨F, H₀, ρ, xs, S, e1, fun F1 H1 vs E1 R1 => ?_⟩
    by_cases hl : xs.length ≤ 1000
    · rw [if_pos hl] at q
      cases q
      refine ⟨line1000 (by rw [← R1.length]; exact hl), fun p hp => k _ _ _ (E1.trans (Ext.frozen hp)) (Rep.newLst hp R1)⟩
    · rw [if_neg hl] at q; cases q
theorem liftA {h : List D → Option D} {σ : L2.St} {H : Hp} {Q : VK} (q : tD X.K (eCall h gr) σ H Q) : tCB (rDA X.K h) (tDA X.K gr) σ H Q := by
  obtain ⟨F, H₀, ρ, d, S, q, k⟩ := q
  obtain ⟨xs, e1, q⟩ := bnd q
  exact ⟨F, H₀, ρ, xs, S, e1, fun F1 H1 vs E1 R1 => ⟨F1, xs, d, (S.ext E1).fz, R1, q, fun F2 H2 w E2 R2 => k F2 H2 w (E1.trans E2) R2⟩⟩
theorem de_callB {id : String} {x : Str} {h : List D → Option D} (hc : CallR X (.builtin id) (rDA X.K h)) (hg : Gl X x) (hm : X.mg x = none) (hv : bootBuiltins x = some (.builtin id)) (ha : DA X (e :: es) gr) (hn : x ≠ "__name__" := by decide) (hdb : (x == ("__debug__" : Str)) = false := by decide)
    (he : starEach (e :: es) X.env = (false, eval e X.env) :: starEach es X.env := by rfl) (hpl : (backTo pos (starEach es X.env)).any (·.1) = false := by rfl) : DE X (.Call (.Name x p) (e :: es) [] pos) (eCall h gr) :=
  pe_mono (pe_callB hc hg hm hv ha hn hdb he hpl) fun _ _ _ q => liftA q
theorem de_callTy {T : String} {x : Str} {h : List D → Option D} (hc : CallR X (.type T) (rDA X.K h)) (hg : Gl X x) (hm : X.mg x = none) (hv : bootBuiltins x = some (.type T)) (ha : DA X (e :: es) gr) (hn : x ≠ "__name__" := by decide) (hdb : (x == ("__debug__" : Str)) = false := by decide)
    (he : starEach (e :: es) X.env = (false, eval e X.env) :: starEach es X.env := by rfl) (hpl : (backTo pos (starEach es X.env)).any (·.1) = false := by rfl) : DE X (.Call (.Name x p) (e :: es) [] pos) (eCall h gr) :=
  pe_mono (pe_callTy hc hg hm hv ha hn hdb he hpl) fun _ _ _ q => liftA q
/-- a def's promise over data -/
def spD (K : PySem.W.Frag) (n : Nat) (G : List D → Option D) : Sp := fun vs H Q _ => ∃ (F : Addr → Prop) (ds : List D) (d : D), ds.length = n ∧ (∀ a, F a → H a ≠ none) ∧ Reps K F H ds vs ∧ G ds = some d ∧ ∀ F' H' v, Ext F F' H H' → Rep K F' H' d v → Q v H'
theorem de_call {k n : Nat} {f : Addr} {fd : FuncData} {ps : List Str} {x : Str} {G : List D → Option D} (F : FnOk X.prog X.w X.K X.mg X.base CX0 k f fd ps (spD X.K n G)) (hr : Room k X.A) (hg : Gl X x) (hm : X.mg x = some (.ref f)) (hk : PySem.W.keepIn X.K (.ref f) = true) (hb : Binds X.K fd ps [])
    (ha : DA X (e :: es) gr) (hln : ∀ ρ ds, gr ρ = some ds → ds.length = n) (hdb : (x == ("__debug__" : Str)) = false := by decide) (he : starEach (e :: es) X.env = (false, eval e X.env) :: starEach es X.env := by rfl) (hpl : (backTo pos (starEach es X.env)).any (·.1) = false := by rfl) :
    DE X (.Call (.Name x p) (e :: es) [] pos) (eCall G gr) :=
  pe_mono (pe_call (E := E0) F hr hg hm hk hb .nil pass0 ha hdb he hpl) fun σ H Q ⟨F, H₀, ρ, d, S, q, k⟩ => by
    obtain ⟨xs, e1, q⟩ := bnd q
    exact ⟨F, H₀, ρ, xs, S, e1, fun F1 H1 vs E1 R1 => by
      show spD X.K n G (vs ++ []) H1 Q E0
      rw [List.append_nil]
      exact ⟨F1, xs, d, hln ρ xs e1, (S.ext E1).fz, R1, q, fun F2 H2 w E2 R2 => k F2 H2 w (E1.trans E2) R2⟩⟩
theorem eNil_len {ρ : Rho} {ds : List D} (h : eNil ρ = some ds) : ds.length = 0 := by cases h; rfl
theorem eCons_len {n : Nat} (h' : ∀ ρ ds, gr ρ = some ds → ds.length = n) (ρ : Rho) (ds : List D) (h : eCons ga gr ρ = some ds) : ds.length = n + 1 := by
  obtain ⟨x, e1, q⟩ := bnd h
  obtain ⟨xs, e2, q⟩ := bnd q
  cases q
  simp [h' ρ xs e2]
end
end DL

namespace DL
open PySem PySem.Spec PyProof.Rows L2

/-! ### statements over data -/
inductive Out where
  | nx (ρ : Rho)
  | rt (d : D)
  | bk (ρ : Rho)
  | ct (ρ : Rho)
theorem Stay.refl (K : PySem.W.Frag) (F : Addr → Prop) (H : Hp) : Stay K F F H H := ⟨fun _ h => h, fun _ _ h => h, fun _ _ _ h => h⟩
theorem Stay.trans {K : PySem.W.Frag} {F F1 F2 : Addr → Prop} {H H1 H2 : Hp} (a : Stay K F F1 H H1) (b : Stay K F1 F2 H1 H2) : Stay K F F2 H H2 :=
  ⟨fun x h => b.up x (a.up x h), fun x xs h => b.tp x xs (a.tp x xs h), fun x xs f h => b.ls x xs (a.up x f) (a.ls x xs f h)⟩
/-- what is wanted behind a statement that began at F, H, in a def that began at F₀, H₀ -/
def OutOk (K : PySem.W.Frag) (F₀ : Addr → Prop) (H₀ : Hp) (F : Addr → Prop) (H : Hp) (W : Ends) : Out → Prop
  | .nx ρ => ∀ F' H' σ, Ext F₀ F' H₀ H' → Stay K F F' H H' → StOk K F' H' H₀ σ ρ → W.nx σ H'
  | .rt d => ∀ F' H' v, Ext F₀ F' H₀ H' → Rep K F' H' d v → W.rt v H'
  | .bk ρ => ∀ F' H' σ, Ext F₀ F' H₀ H' → Stay K F F' H H' → StOk K F' H' H₀ σ ρ → W.bk σ H'
  | .ct ρ => ∀ F' H' σ, Ext F₀ F' H₀ H' → Stay K F F' H H' → StOk K F' H' H₀ σ ρ → W.ct σ H'
theorem OutOk.from {K : PySem.W.Frag} {F₀ F F' : Addr → Prop} {H₀ H H' : Hp} {W : Ends} {o : Out} (T : Stay K F F' H H') (k : OutOk K F₀ H₀ F H W o) : OutOk K F₀ H₀ F' H' W o := by
  cases o with
  | nx ρ => exact fun F2 H2 σ E T2 S => k F2 H2 σ E (T.trans T2) S
  | rt d => exact k
  | bk ρ => exact fun F2 H2 σ E T2 S => k F2 H2 σ E (T.trans T2) S
  | ct ρ => exact fun F2 H2 σ E T2 S => k F2 H2 σ E (T.trans T2) S
def tDS (K : PySem.W.Frag) (g : Rho → Option Out) : TS := fun W σ H => ∃ (F₀ : Addr → Prop) (H₀ : Hp) (F : Addr → Prop) (ρ : Rho) (o : Out), Ext F₀ F H₀ H ∧ StOk K F H H₀ σ ρ ∧ g ρ = some o ∧ OutOk K F₀ H₀ F H W o
def DS (X : Cx) (st : Stmt) (g : Rho → Option Out) : Prop := PS X st (tDS X.K g)
def DSs (X : Cx) (sts : List Stmt) (g : Rho → Option Out) : Prop := PSs X sts (tDS X.K g)

def sSeq (g1 g2 : Rho → Option Out) : Rho → Option Out := fun ρ => (g1 ρ).bind fun o => match o with
  | .nx ρ' => g2 ρ'
  | o => some o
def sSkip : Rho → Option Out := fun ρ => some (.nx ρ)
def sBrk : Rho → Option Out := fun ρ => some (.bk ρ)
def sCont : Rho → Option Out := fun ρ => some (.ct ρ)
def sRet (g : Rho → Option D) : Rho → Option Out := fun ρ => (g (ρ.map frz)).bind fun d => some (.rt d)
def sSet (i : Nat) (g : Rho → Option D) : Rho → Option Out := fun ρ => (g ρ).bind fun d => some (.nx (ρ.set i (.dat d)))
def flatD : D → Bool
  | .none | .bool _ | .int _ | .str _ => true
  | _ => false
/-- a value without parts, with what the frame holds read too -/
def sSetB (i : Nat) (g : Rho → Option D) : Rho → Option Out := fun ρ => (g (ρ.map frz)).bind fun d => if flatD d = true then some (.nx (ρ.set i (.dat d))) else none
def sOwn (i : Nat) (g : Rho → Option (List D)) : Rho → Option Out := fun ρ => (g ρ).bind fun ds => if ds.length ≤ 1000 then some (.nx (ρ.set i (.own ds))) else none
def frzAt (i : Nat) (ρ : Rho) : Rho := match ρ[i]? with
  | some (.own ds) => ρ.set i (.dat (.list ds))
  | _ => ρ
def sFrz (i : Nat) (g : Rho → Option Out) : Rho → Option Out := fun ρ => g (frzAt i ρ)
def sIf (t : Rho → Option Bool) (g1 g2 : Rho → Option Out) : Rho → Option Out := fun ρ => (t (ρ.map frz)).bind fun b => if b = true then g1 ρ else g2 ρ
def sDrop (g : Rho → Option D) : Rho → Option Out := fun ρ => (g ρ).bind fun _ => some (.nx ρ)
def sApp (i : Nat) (g : Rho → Option D) : Rho → Option Out := fun ρ => match ρ[i]? with
  | some (.own ds) => (g ρ).bind fun d => if ds.length < 1000 then some (.nx (ρ.set i (.own (ds ++ [d])))) else none
  | _ => none
def whileN (t : Rho → Option Bool) (g : Rho → Option Out) : Nat → Rho → Option Out
  | 0, _ => none
  | n + 1, ρ => (t (ρ.map frz)).bind fun b => if b = true then (g ρ).bind fun o => match o with
      | .nx ρ' => whileN t g n ρ'
      | .ct ρ' => whileN t g n ρ'
      | .bk ρ' => some (.nx ρ')
      | .rt d => some (.rt d)
    else some (.nx ρ)
def forN (s : D → Rho → Option Rho) (g : Rho → Option Out) : List D → Rho → Option Out
  | [], ρ => some (.nx ρ)
  | d :: ds, ρ => (s d ρ).bind fun ρ1 => (g ρ1).bind fun o => match o with
      | .nx ρ' => forN s g ds ρ'
      | .ct ρ' => forN s g ds ρ'
      | .bk ρ' => some (.nx ρ')
      | .rt d => some (.rt d)
def sFor (gi : Rho → Option (List D)) (s : D → Rho → Option Rho) (g : Rho → Option Out) : Rho → Option Out := fun ρ => (gi ρ).bind fun xs => forN s g xs ρ

section
variable {X : Cx} {e a b c tg : Expr} {es : List Expr} {st : Stmt} {rest body orelse : List Stmt} {g g1 g2 gb : Rho → Option Out} {ga : Rho → Option D} {gr : Rho → Option (List D)} {t : Rho → Option Bool} {pos p : Pos}
theorem dss_nil : DSs X [] sSkip := pss_mono pss_nil fun W σ H ⟨F₀, H₀, F, ρ, o, E, S, q, k⟩ => by
  cases q
  exact k F H σ E (Stay.refl _ F H) S
theorem seq_ok {F₀ : Addr → Prop} {H₀ : Hp} {F : Addr → Prop} {ρ : Rho} {o : Out} {W : Ends} {σ : L2.St} {H : Hp} (E : Ext F₀ F H₀ H) (S : StOk X.K F H H₀ σ ρ) (q : sSeq g1 g2 ρ = some o) (k : OutOk X.K F₀ H₀ F H W o) : tDS X.K g1 { W with nx := tDS X.K g2 W } σ H := by
  obtain ⟨o1, e1, q⟩ := bnd q
  refine ⟨F₀, H₀, F, ρ, o1, E, S, e1, ?_⟩
  cases o1 with
  | nx ρ' => exact fun F' H' σ' E' T' S' => ⟨F₀, H₀, F', ρ', o, E', S', q, k.from T'⟩
  | rt d => cases q; exact k
  | bk ρ' => cases q; exact k
  | ct ρ' => cases q; exact k
theorem dss_cons (h1 : DS X st g1) (h2 : DSs X rest g2) : DSs X (st :: rest) (sSeq g1 g2) :=
  pss_mono (pss_cons h1 h2) fun W σ H ⟨F₀, H₀, F, ρ, o, E, S, q, k⟩ => seq_ok E S q k
theorem dss_one (h1 : DS X st g) : DSs X [st] g := pss_one h1
theorem ds_pass : DS X (.Pass pos) sSkip := ps_mono ps_pass fun W σ H ⟨F₀, H₀, F, ρ, o, E, S, q, k⟩ => by
  cases q
  exact k F H σ E (Stay.refl _ F H) S
theorem ds_break : DS X (.Break pos) sBrk := ps_mono ps_break fun W σ H ⟨F₀, H₀, F, ρ, o, E, S, q, k⟩ => by
  cases q
  exact k F H σ E (Stay.refl _ F H) S
theorem ds_continue : DS X (.Continue pos) sCont := ps_mono ps_continue fun W σ H ⟨F₀, H₀, F, ρ, o, E, S, q, k⟩ => by
  cases q
  exact k F H σ E (Stay.refl _ F H) S
/-- behind a freeze of all -/
theorem Ext.thaw {K : PySem.W.Frag} {F₀ F F' : Addr → Prop} {H₀ H H' : Hp} {σ : L2.St} {ρ : Rho} (E : Ext F₀ F H₀ H) (S : StOk K F H H₀ σ ρ) (E' : Ext (fun a => F a ∨ Own σ ρ a) F' H H') : Ext F₀ F' H₀ H' :=
  ⟨E.same.trans E'.same, fun a f => E'.up a (.inl (E.up a f)), fun a f => by
    rcases E'.new a f with (f | ⟨i, ds, q1, q2⟩) | ⟨f1, f2⟩
    · rcases E.new a f with f | ⟨f, f'⟩
      · exact .inl f
      · exact .inr ⟨f, fun z => f' (E'.same.free z)⟩
    · obtain ⟨b, vs, g1, g2, _, g4, _⟩ := S.own q1
      rw [g1] at q2; cases q2
      exact .inr ⟨g4, by rw [E'.same _ _ g2]; simp⟩
    · exact .inr ⟨E.same.free f1, f2⟩⟩
theorem ds_ret (ha : DE X e ga) : DS X (.Return (some e) pos) (sRet ga) := ps_mono (ps_ret ha) fun W σ H ⟨F₀, H₀, F, ρ, o, E, S, q, k⟩ => by
  obtain ⟨d, e1, q⟩ := bnd q
  cases q
  exact ⟨_, H₀, ρ.map frz, d, S.frz, e1, fun F' H' v E' R' => k F' H' v (E.thaw S E') R'⟩
theorem ds_set {i : Nat} {x : Str} {pos' : Pos} (hN : X.N.Nodup) (ha : DE X e ga) (hi : X.N[i]? = some x := by rfl) (hx : Loc X.env.scope x := by first | exact Or.inl rfl | exact Or.inr rfl) (hs : swapsWith e (some (.Name x pos')) pos.line X.env = pure false := by rfl) (hf : X.fn x = true ∨ X.env.scope.names.lookup x = some .local := by first | exact .inl rfl | exact .inr rfl | assumption) :
    DS X (.Assign [.Name x pos'] e pos) (sSet i ga) := ps_mono (ps_set hN hi hx ha hs hf) fun W σ H ⟨F₀, H₀, F, ρ, o, E, S, q, k⟩ => by
  obtain ⟨d, e1, q⟩ := bnd q
  cases q
  exact ⟨F, H₀, ρ, d, S, e1, fun F' H' v E' R' => k F' H' _ (E.trans E') E'.stay ((S.ext E').put R')⟩
theorem flat_rep {K K' : PySem.W.Frag} {F F' : Addr → Prop} {H H' : Hp} {d : D} {v : V} (r : Rep K F H d v) (h : flatD d = true) : Rep K' F' H' d v := by
  cases r with
  | non => exact .non
  | bl b => exact .bl b
  | int i => exact .int i
  | str x => exact .str x
  | tup _ _ => cases h
  | lst _ _ => cases h
/-- a list that the frame holds is read, not handed on -/
theorem Ext.lend {K : PySem.W.Frag} {F F' : Addr → Prop} {H H₀ H' : Hp} {σ : L2.St} {ρ : Rho} (S : StOk K F H H₀ σ ρ) (E' : Ext (fun a => F a ∨ Own σ ρ a) F' H H') : Ext F (fun a => F' a ∧ ¬ Own σ ρ a) H H' :=
  ⟨E'.same, fun a f => ⟨E'.up a (.inl f), fun ⟨i, ds, q1, q2⟩ => by
      obtain ⟨b, vs, g1, g2, g3, _⟩ := S.own q1
      rw [g1] at q2; cases q2
      exact g3 f⟩, fun a ⟨f, n⟩ => by
    rcases E'.new a f with (f | f) | f
    · exact .inl f
    · exact absurd f n
    · exact .inr f⟩
theorem ds_setB {i : Nat} {x : Str} {pos' : Pos} (hN : X.N.Nodup) (ha : DE X e ga) (hi : X.N[i]? = some x := by rfl) (hx : Loc X.env.scope x := by first | exact Or.inl rfl | exact Or.inr rfl) (hs : swapsWith e (some (.Name x pos')) pos.line X.env = pure false := by rfl) (hf : X.fn x = true ∨ X.env.scope.names.lookup x = some .local := by first | exact .inl rfl | exact .inr rfl | assumption) :
    DS X (.Assign [.Name x pos'] e pos) (sSetB i ga) := ps_mono (ps_set hN hi hx ha hs hf) fun W σ H ⟨F₀, H₀, F, ρ, o, E, S, q, k⟩ => by
  obtain ⟨d, e1, q⟩ := bnd q
  by_cases hd : flatD d = true
  · rw [if_pos hd] at q
    cases q
    refine ⟨_, H₀, ρ.map frz, d, S.frz, e1, fun F' H' v E' R' => ?_⟩
    have E2 := E'.lend S
    exact k _ H' _ (E.trans E2) E2.stay ((S.ext E2).put (flat_rep R' hd))
  · rw [if_neg hd] at q; cases q
/-- name = [..], a list that this frame will change -/
theorem ds_own {i : Nat} {x : Str} {pos' pos'' : Pos} (hN : X.N.Nodup) (ha : DA X es gr) (hi : X.N[i]? = some x := by rfl) (hx : Loc X.env.scope x := by first | exact Or.inl rfl | exact Or.inr rfl) (hs : swapsWith (.List es pos'') (some (.Name x pos')) pos.line X.env = pure false := by rfl) (hf : X.fn x = true ∨ X.env.scope.names.lookup x = some .local := by first | exact .inl rfl | exact .inr rfl | assumption) :
    DS X (.Assign [.Name x pos'] (.List es pos'') pos) (sOwn i gr) := ps_mono (ps_set hN hi hx (pe_lst ha) hs hf) fun W σ H ⟨F₀, H₀, F, ρ, o, E, S, q, k⟩ => by
  obtain ⟨ds, e1, q⟩ := bnd q
  by_cases hl : ds.length ≤ 1000
  · rw [if_pos hl] at q
    cases q
    refine ⟨F, H₀, ρ, ds, S, e1, fun F' H' vs E' R' => ⟨line1000 (by rw [← R'.length]; exact hl), fun pp hp => ?_⟩⟩
    exact k F' _ _ ((E.trans E').trans (Ext.fresh hp)) (E'.stay.trans (Ext.fresh hp).stay) ((S.ext E').putOwn hp ((E.trans E').same.free hp) R')
  · rw [if_neg hl] at q; cases q
theorem dss_frz (i : Nat) (h : DSs X rest g) : DSs X rest (sFrz i g) := pss_mono h fun W σ H ⟨F₀, H₀, F, ρ, o, E, S, q, k⟩ => by
  unfold sFrz frzAt at q
  split at q
  · rename_i ds e1
    obtain ⟨a, h0, S'⟩ := S.frz1 e1
    refine ⟨F₀, H₀, _, _, o, ⟨E.same, fun x f => .inl (E.up x f), fun x f => ?_⟩, S', q, k.from ⟨fun _ f => .inl f, fun _ _ f => f, fun _ _ _ f => f⟩⟩
    rcases f with f | rfl
    · exact E.new x f
    · exact .inr ⟨h0, S'.fz x (.inr rfl)⟩
  · exact ⟨F₀, H₀, F, ρ, o, E, S, q, k⟩
theorem ds_if (hc : DT X c t) (h1 : DSs X body g1) (h2 : DSs X orelse g2) : DS X (.If c body orelse pos) (sIf t g1 g2) := ps_mono (ps_if hc h1 h2) fun W σ H ⟨F₀, H₀, F, ρ, o, E, S, q, k⟩ => by
  obtain ⟨r, e1, q⟩ := bnd q
  refine ⟨_, H₀, ρ.map frz, r, S.frz, e1, fun F' H' E' => ?_⟩
  have E2 := E'.lend S
  cases r with
  | true => simp only [if_true] at q ⊢; exact ⟨F₀, H₀, _, ρ, o, E.trans E2, S.ext E2, q, k.from E2.stay⟩
  | false => simp only [Bool.false_eq_true, if_false] at q ⊢; exact ⟨F₀, H₀, _, ρ, o, E.trans E2, S.ext E2, q, k.from E2.stay⟩
theorem ds_drop (ha : DE X e ga) (hs : swapsWith e none pos.line X.env = pure false := by rfl) : DS X (.Expr e pos) (sDrop ga) := ps_mono (ps_expr ha hs) fun W σ H ⟨F₀, H₀, F, ρ, o, E, S, q, k⟩ => by
  obtain ⟨d, e1, q⟩ := bnd q
  cases q
  exact ⟨F, H₀, ρ, d, S, e1, fun F' H' v E' R' => k F' H' σ (E.trans E') E'.stay (S.ext E')⟩
theorem ds_doc {x : Str} {j : Nat} {pos' : Pos} : DS X (.Expr (.Constant (.str x) j pos) pos') sSkip := ps_mono ps_doc fun W σ H ⟨F₀, H₀, F, ρ, o, E, S, q, k⟩ => by
  cases q
  exact k F H σ E (Stay.refl _ F H) S
/-- the frame's own list changes, or another step that keeps what is frozen -/
theorem Ext.turn {F₀ F : Addr → Prop} {H₀ H : Hp} {p : Addr} {o : HO} (E : Ext F₀ F H₀ H) (h0 : H₀ p = none) : Ext F₀ F H₀ (upd H p o) :=
  ⟨fun b u q => by rw [upd_ne (ne_of_none q h0)]; exact E.same b u q, E.up, fun a f => by
    rcases E.new a f with f | ⟨f1, f2⟩
    · exact .inl f
    · refine .inr ⟨f1, fun z => ?_⟩
      by_cases ha : a = p
      · subst ha; rw [upd_same] at z; cases z
      · rw [upd_ne ha] at z; exact f2 z⟩
theorem ds_app {i : Nat} {x : Str} {apos pos' : Pos} (ha : DE X e ga) (hN : X.N[i]? = some x := by rfl) (hv : Vis X.env.scope x := by first | exact Or.inl rfl | exact Or.inr (Or.inl rfl) | exact Or.inr (Or.inr rfl)) (hd : (x == ("__debug__" : Str)) = false := by decide)
    (hcd : (x == ("__classdict__" : Str)) = false := by decide) (hse : starEach [e] X.env = (false, eval e X.env) :: starEach [] X.env := by rfl)
    (hbase : attributeBase (.Name x p) "append" X.env (eval (.Name x p) X.env) = eval (.Name x p) X.env := by rfl)
    (hfew : ((backTo pos' (starEach [e] X.env)).all (fun x => !x.1) && (backToKw pos' (keywordEach [] X.env)).all (fun x => x.1.isSome)
      && decide ([e].length + ([] : List Keyword).length + (if ([] : List Keyword).isEmpty then 0 else 1) < 30)) = true := by rfl)
    (hline : (apos.endLine == pos'.line) = true := by rfl) (hplain : (backTo pos' (starEach [] X.env)).any (·.1) = false := by rfl) (hsw : swapsWith (.Call (.Attribute (.Name x p) "append" apos) [e] [] pos') none pos.line X.env = pure false := by rfl) :
    DS X (.Expr (.Call (.Attribute (.Name x p) "append" apos) [e] [] pos') pos) (sApp i ga) :=
  ps_mono (ps_expr (pe_bm PySem.F.plainAttrs_list PySem.F.slot_list_append PySem.F.type_list_append mt_append (pe_var hN hv hd hcd) (pa_cons ha pa_nil hse) hbase hfew hline hse hplain) hsw) fun W σ H ⟨F₀, H₀, F, ρ, o, E, S, q, k⟩ => by
  unfold sApp at q
  split at q
  · rename_i ds e0
    obtain ⟨d, e1, q⟩ := bnd q
    by_cases hl : ds.length < 1000
    · rw [if_pos hl] at q
      cases q
      obtain ⟨l, vs, q1, q2, q3, q4, q5⟩ := S.own e0
      refine ⟨_, q1, .inl ⟨rfl, _, SqL.of q2⟩, F, H₀, ρ, d, S, e1, fun F' H' v E' R' => ?_⟩
      have S' := S.ext E'
      obtain ⟨l', vs', g1, g2, g3, g4, g5⟩ := S'.own e0
      rw [q1] at g1; cases g1
      refine ⟨l, vs', v, rfl, rfl, g2, small1000 (by rw [← g5.length]; omega), ?_⟩
      obtain ⟨S2, T⟩ := S'.turn e0 q1 g2 g3 (g5.append (.cons R' .nil))
      exact k F' _ σ ((E.trans E').turn q4) (E'.stay.trans T) S2
    · rw [if_neg hl] at q; cases q
  · cases q
end
end DL

namespace DL
open PySem PySem.Spec PyProof.Rows L2

/-! ### targets -/
def tDG (K : PySem.W.Frag) (s : D → Rho → Option Rho) : TG := fun v σ H Q => ∃ (F : Addr → Prop) (H₀ : Hp) (ρ : Rho) (d : D) (ρ' : Rho), StOk K F H H₀ σ ρ ∧ Rep K F H d v ∧ s d ρ = some ρ' ∧ ∀ σ', StOk K F H H₀ σ' ρ' → Q σ' H
def tDGs (K : PySem.W.Frag) (s : List D → Rho → Option Rho) : TGs := fun vs σ H Q => ∃ (F : Addr → Prop) (H₀ : Hp) (ρ : Rho) (ds : List D) (ρ' : Rho), StOk K F H H₀ σ ρ ∧ Reps K F H ds vs ∧ s ds ρ = some ρ' ∧ ∀ σ', StOk K F H H₀ σ' ρ' → Q σ' H
def DG (X : Cx) (tg : Expr) (s : D → Rho → Option Rho) : Prop := PG X tg (tDG X.K s)
def DGs (X : Cx) (ts : List Expr) (s : List D → Rho → Option Rho) : Prop := PGs X ts (tDGs X.K s)
def uName (i : Nat) : D → Rho → Option Rho := fun d ρ => some (ρ.set i (.dat d))
def uNil : List D → Rho → Option Rho
  | [], ρ => some ρ
  | _ :: _, _ => none
def uCons (s1 : D → Rho → Option Rho) (s2 : List D → Rho → Option Rho) : List D → Rho → Option Rho
  | [], _ => none
  | d :: ds, ρ => (s1 d ρ).bind fun ρ' => s2 ds ρ'
def uTup (n : Nat) (s : List D → Rho → Option Rho) : D → Rho → Option Rho
  | .tuple ds, ρ => if ds.length = n then s ds ρ else none
  | _, _ => none
section
variable {X : Cx} {e tg : Expr} {es : List Expr} {pos : Pos}
theorem pg_mono {t t' : TG} (h : PG X tg t) (m : ∀ v σ H Q, t' v σ H Q → t v σ H Q) : PG X tg t' := fun pins s σ H v u Q I r q => h pins s σ H v u Q I r (m v σ H Q q)
theorem pgs_mono {t t' : TGs} (h : PGs X es t) (m : ∀ v σ H Q, t' v σ H Q → t v σ H Q) : PGs X es t' := fun pins s σ H v u Q I r q => h pins s σ H v u Q I r (m v σ H Q q)
theorem dg_name {i : Nat} {x : Str} (hN : X.N.Nodup) (hi : X.N[i]? = some x := by rfl) (hx : Loc X.env.scope x := by first | exact Or.inl rfl | exact Or.inr rfl) (hf : X.fn x = true ∨ X.env.scope.names.lookup x = some .local := by first | exact .inl rfl | exact .inr rfl | assumption) : DG X (.Name x pos) (uName i) :=
  pg_mono (pg_name hN hi hx hf) fun v σ H Q ⟨F, H₀, ρ, d, ρ', S, R, q, k⟩ => by
    cases q
    exact k _ (S.put R)
theorem dgs_nil : DGs X [] uNil := pgs_mono pgs_nil fun v σ H Q ⟨F, H₀, ρ, ds, ρ', S, R, q, k⟩ => by
  cases R with
  | nil => cases q; exact ⟨rfl, k σ S⟩
  | cons _ _ => cases q
theorem dgs_cons {s1 : D → Rho → Option Rho} {s2 : List D → Rho → Option Rho} (h1 : DG X e s1) (h2 : DGs X es s2)
    (hs : (assignEach (e :: es) X.env).map (·.2) = assign e X.env :: (assignEach es X.env).map (·.2) := by rfl) : DGs X (e :: es) (uCons s1 s2) :=
  pgs_mono (pgs_cons h1 h2 hs) fun v σ H Q ⟨F, H₀, ρ, ds, ρ', S, R, q, k⟩ => by
    cases R with
    | nil => cases q
    | cons r rs =>
      obtain ⟨ρ1, e1, q⟩ := bnd q
      exact ⟨_, _, rfl, F, H₀, ρ, _, ρ1, S, r, e1, fun σ1 S1 => ⟨F, H₀, ρ1, _, ρ', S1, rs, q, k⟩⟩
theorem dg_tup {n k : Nat} {s : List D → Rho → Option Rho} (hc : X.calm = true) (h : DGs X es s) (hn : (assignEach es X.env).length = n := by rfl) (hst : (assignEach es X.env).findIdx? (·.1) = none := by rfl) : DG X (.Tuple es k pos) (uTup n s) :=
  pg_mono (pg_tup hc h hn hst) fun v σ H Q ⟨F, H₀, ρ, d, ρ', S, R, q, k⟩ => by
    cases R with
    | @tup a vs ds hq r =>
      by_cases hl : ds.length = n
      · have q' : (if ds.length = n then s ds ρ else none) = some ρ' := q
        rw [if_pos hl] at q'
        exact ⟨_, _, rfl, hq, by rw [← r.length]; exact hl, F, H₀, ρ, _, ρ', S, r, q', k⟩
      · have q' : (if ds.length = n then s ds ρ else none) = some ρ' := q
        rw [if_neg hl] at q'; cases q'
    | non => cases q
    | bl _ => cases q
    | int _ => cases q
    | str _ => cases q
    | lst _ _ => cases q
end
def sAsg (ga : Rho → Option D) (s : D → Rho → Option Rho) : Rho → Option Out := fun ρ => (ga ρ).bind fun d => (s d ρ).bind fun ρ' => some (.nx ρ')
section
variable {X : Cx} {e a b c tg iter : Expr} {es : List Expr} {st : Stmt} {rest body orelse : List Stmt} {g g1 g2 gb : Rho → Option Out} {ga : Rho → Option D} {gr : Rho → Option (List D)} {t : Rho → Option Bool} {pos p : Pos}
theorem ds_asg {s : D → Rho → Option Rho} (ha : DE X e ga) (hg : DG X tg s) (hs : swapsWithSole [tg] e pos.line X.env = pure false := by rfl) (hw : swappedStores [tg] e X.env = pure none := by rfl)
    (h1 : (assignEach [tg] X.env).map (·.2) = [assign tg X.env] := by rfl) : DS X (.Assign [tg] e pos) (sAsg ga s) :=
  ps_mono (ps_asg ha hg hs hw h1) fun W σ H ⟨F₀, H₀, F, ρ, o, E, S, q, k⟩ => by
    obtain ⟨d, e1, q⟩ := bnd q
    obtain ⟨ρ', e2, q⟩ := bnd q
    cases q
    exact ⟨F, H₀, ρ, d, S, e1, fun F' H' v E' R' => ⟨F', H₀, ρ, d, ρ', S.ext E', R', e2, fun σ' S' => k F' H' σ' (E.trans E') E'.stay S'⟩⟩
theorem ds_while (n : Nat) (hp : PassesOwn (model X.prog X.w) X.A X.env X.xe) (hc : DT X c t) (hb : DSs X body g) : DS X (.While c body [] pos) (whileN t g n) :=
  ps_mono (ps_while hp hc hb) fun W σ H ⟨F₀, H₀, F1, ρ1, o, E, S, q, k⟩ => by
    refine ⟨fun m σ' H' => ∃ F ρ, Ext F₀ F H₀ H' ∧ Stay X.K F1 F H H' ∧ StOk X.K F H' H₀ σ' ρ ∧ whileN t g m ρ = some o, ⟨n, F1, ρ1, E, Stay.refl _ _ _, S, q⟩, ?_⟩
    rintro m σ' H' ⟨F, ρ, E', T', S', q'⟩
    cases m with
    | zero => cases q'
    | succ m =>
      obtain ⟨r, e1, q'⟩ := bnd q'
      refine ⟨_, H₀, ρ.map frz, r, S'.frz, e1, fun F2 H2 E2' => ?_⟩
      have E2 := E2'.lend S'
      cases r with
      | false =>
        simp only [Bool.false_eq_true, if_false] at q' ⊢
        cases q'
        exact k _ H2 σ' (E'.trans E2) (T'.trans E2.stay) (S'.ext E2)
      | true =>
        simp only [if_true] at q' ⊢
        obtain ⟨o1, e2, q'⟩ := bnd q'
        refine ⟨fun σ3 H3 => ∃ F ρ, Ext F₀ F H₀ H3 ∧ Stay X.K F1 F H H3 ∧ StOk X.K F H3 H₀ σ3 ρ ∧ whileN t g m ρ = some o, fun σ3 H3 h3 => ⟨m, Nat.lt_succ_self m, h3⟩, F₀, H₀, _, ρ, o1, E'.trans E2, S'.ext E2, e2, ?_⟩
        cases o1 with
        | nx ρ3 => exact fun F3 H3 σ3 E3 T3 S3 => ⟨F3, ρ3, E3, (T'.trans E2.stay).trans T3, S3, q'⟩
        | ct ρ3 => exact fun F3 H3 σ3 E3 T3 S3 => ⟨F3, ρ3, E3, (T'.trans E2.stay).trans T3, S3, q'⟩
        | bk ρ3 => cases q'; exact fun F3 H3 σ3 E3 T3 S3 => k F3 H3 σ3 E3 ((T'.trans E2.stay).trans T3) S3
        | rt d => cases q'; exact k

/-! ### what is walked -/
def ItD (K : PySem.W.Frag) (F : Addr → Prop) (H : Hp) (ds : List D) (J : It) : Prop :=
  ∀ F2 H2, Stay K F F2 H H2 → (∀ a, F2 a → H2 a ≠ none) → ∀ i : Nat, (∀ d, ds[i]? = some d → J.go i H2 ∧ ∀ x H3, J.yld i H2 x H3 → ∃ F3, Ext F2 F3 H2 H3 ∧ Rep K F3 H3 d x) ∧ (ds.length ≤ i → J.stop i H2)
def tDI (K : PySem.W.Frag) (gi : Rho → Option (List D)) : TI := fun σ H R => ∃ (F : Addr → Prop) (H₀ : Hp) (ρ : Rho) (ds : List D), StOk K F H H₀ σ ρ ∧ gi ρ = some ds ∧ ∀ F' H' J, Ext F F' H H' → ItD K F' H' ds J → R J H'
def DI (X : Cx) (tg iter : Expr) (gi : Rho → Option (List D)) : Prop := PI X tg iter (tDI X.K gi)
theorem pi_mono {wi wi' : TI} (h : PI X tg iter wi) (m : ∀ σ H R, wi' σ H R → wi σ H R) : PI X tg iter wi' := fun pins s σ H R I q => h pins s σ H R I (m σ H R q)
theorem ds_for {gi : Rho → Option (List D)} {s : D → Rho → Option Rho} (hp : PassesOwn (model X.prog X.w) X.A X.env X.xe) (hc : X.calm = true) (hi : DI X tg iter gi) (hg : DG X tg s) (hb : DSs X body g)
    (hs : ∀ x, foldedSetIterable iter X.env x = pure x := by intro _; rfl) : DS X (.For tg iter body [] pos) (sFor gi s g) :=
  ps_mono (ps_for hp hc hi hg hb hs) fun W σ H ⟨F₀, H₀, F, ρ, o, E, S, q, k⟩ => by
    obtain ⟨xs, e1, q⟩ := bnd q
    refine ⟨F, H₀, ρ, xs, S, e1, fun F1 H1 J E1 I1 => ?_⟩
    refine ⟨fun i m σ2 H2 => ∃ F2 ρ2, m = xs.length - i ∧ i ≤ xs.length ∧ Ext F₀ F2 H₀ H2 ∧ Stay X.K F F2 H H2 ∧ Stay X.K F1 F2 H1 H2 ∧ StOk X.K F2 H2 H₀ σ2 ρ2 ∧ forN s g (xs.drop i) ρ2 = some o,
      ⟨xs.length, F1, ρ, by simp, Nat.zero_le _, E.trans E1, E1.stay, Stay.refl _ _ _, S.ext E1, by simpa using q⟩, ?_⟩
    rintro i m σ2 H2 ⟨F2, ρ2, rfl, hi2, E2, T0, T1, S2, q2⟩
    obtain ⟨it1, it2⟩ := I1 F2 H2 T1 S2.fz i
    by_cases hlt : i < xs.length
    · right
      have hget : xs[i]? = some xs[i] := by simp [hlt]
      obtain ⟨go, yld⟩ := it1 _ hget
      rw [List.drop_eq_getElem_cons hlt] at q2
      obtain ⟨ρ3, e3, q2⟩ := bnd q2
      obtain ⟨o3, e4, q2⟩ := bnd q2
      refine ⟨go, fun σ4 H4 => ∃ F4 ρ4, Ext F₀ F4 H₀ H4 ∧ Stay X.K F F4 H H4 ∧ Stay X.K F1 F4 H1 H4 ∧ StOk X.K F4 H4 H₀ σ4 ρ4 ∧ forN s g (xs.drop (i + 1)) ρ4 = some o, fun σ4 H4 ⟨F4, ρ4, h1, h2, h3, h4, h5⟩ => ⟨xs.length - (i + 1), by omega, F4, ρ4, rfl, hlt, h1, h2, h3, h4, h5⟩, fun x H3 y => ?_⟩
      obtain ⟨F3, E3, R3⟩ := yld x H3 y
      refine ⟨F3, H₀, ρ2, xs[i], ρ3, S2.ext E3, R3, e3, fun σ5 S5 => ⟨F₀, H₀, F3, ρ3, o3, E2.trans E3, S5, e4, ?_⟩⟩
      have TT0 := T0.trans E3.stay
      have TT1 := T1.trans E3.stay
      cases o3 with
      | nx ρ6 => exact fun F6 H6 σ6 E6 T6 S6 => ⟨F6, ρ6, E6, TT0.trans T6, TT1.trans T6, S6, q2⟩
      | ct ρ6 => exact fun F6 H6 σ6 E6 T6 S6 => ⟨F6, ρ6, E6, TT0.trans T6, TT1.trans T6, S6, q2⟩
      | bk ρ6 => cases q2; exact fun F6 H6 σ6 E6 T6 S6 => k F6 H6 σ6 E6 (TT0.trans T6) S6
      | rt d => cases q2; exact k
    · left
      have hge : xs.length ≤ i := Nat.le_of_not_lt hlt
      refine ⟨it2 hge, ?_⟩
      rw [List.drop_eq_nil_of_le hge] at q2
      cases q2
      exact k F2 H2 σ2 E2 T0 S2
def rng1 : List D → Option (List D)
  | [.int j] => if -4611686018427387904 ≤ j ∧ j < 4611686018427387904 then some ((List.range j.toNat).map fun (k : Nat) => .int (0 + (k : Int))) else none
  | _ => none
def rng2 : List D → Option (List D)
  | [.int i, .int j] => if -4611686018427387904 ≤ i ∧ i < 4611686018427387904 ∧ -4611686018427387904 ≤ j ∧ j < 4611686018427387904 then some ((List.range (j - i).toNat).map fun (k : Nat) => .int (i + (k : Int))) else none
  | _ => none
theorem it_range {K : PySem.W.Frag} {F : Addr → Prop} {H : Hp} (lo : Int) (n : Nat) : ItD K F H ((List.range n).map fun (k : Nat) => .int (lo + (k : Int))) (Itr lo n) := fun F2 H2 T z i => by
  refine ⟨fun d hd => ?_, fun hl => ?_⟩
  · have hi : i < n := by
      have := (List.getElem?_eq_some_iff.mp hd).1
      simpa using this
    have hd' : d = .int (lo + (i : Int)) := by
      rw [List.getElem?_map, List.getElem?_range hi] at hd
      cases hd; rfl
    subst hd'
    refine ⟨hi, fun x H3 y => ?_⟩
    obtain ⟨y1, y2⟩ := y
    subst y1 y2
    exact ⟨F2, Ext.refl _ _, .int _⟩
  · show n ≤ i
    simpa using hl
theorem di_range1 (hg : Gl X "range") (hm : X.mg "range" = none) (ha : DA X [a] gr) (hs : starEach [a] X.env = [(false, eval a X.env)] := by rfl) : DI X tg (.Call (.Name "range" p) [a] [] pos) (fun ρ => (gr ρ).bind rng1) :=
  pi_mono (pi_range1 hg hm ha hs) fun σ H R ⟨F, H₀, ρ, ds, S, q, k⟩ => by
    obtain ⟨xs, e1, q⟩ := bnd q
    unfold rng1 at q
    split at q
    · rename_i j
      by_cases hj : -4611686018427387904 ≤ j ∧ j < 4611686018427387904
      · rw [if_pos hj] at q
        cases q
        refine ⟨F, H₀, ρ, _, S, e1, fun F1 H1 vs E1 R1 => ?_⟩
        cases R1 with
        | cons r rs =>
          cases r
          cases rs
          exact ⟨j, rfl, by omega, by omega, k F1 H1 _ E1 (it_range 0 _)⟩
      · rw [if_neg hj] at q; cases q
    · cases q
theorem di_range2 (hg : Gl X "range") (hm : X.mg "range" = none) (ha : DA X [a, b] gr) (hs : starEach [a, b] X.env = [(false, eval a X.env), (false, eval b X.env)] := by rfl) (hs2 : starEach [b] X.env = [(false, eval b X.env)] := by rfl) : DI X tg (.Call (.Name "range" p) [a, b] [] pos) (fun ρ => (gr ρ).bind rng2) :=
  pi_mono (pi_range2 hg hm ha hs hs2) fun σ H R ⟨F, H₀, ρ, ds, S, q, k⟩ => by
    obtain ⟨xs, e1, q⟩ := bnd q
    unfold rng2 at q
    split at q
    · rename_i i j
      by_cases hj : -4611686018427387904 ≤ i ∧ i < 4611686018427387904 ∧ -4611686018427387904 ≤ j ∧ j < 4611686018427387904
      · rw [if_pos hj] at q
        cases q
        refine ⟨F, H₀, ρ, _, S, e1, fun F1 H1 vs E1 R1 => ?_⟩
        cases R1 with
        | cons r rs =>
          cases r
          cases rs with
          | cons r rs =>
            cases r
            cases rs
            exact ⟨i, j, rfl, ⟨by omega, by omega, by omega, by omega⟩, k F1 H1 _ E1 (it_range i _)⟩
      · rw [if_neg hj] at q; cases q
    · cases q
/-- a list's or a tuple's items -/
def seqD : D → Option (List D)
  | .list ds => some ds
  | .tuple ds => some ds
  | _ => none
theorem FzL.inj {K : PySem.W.Frag} {F : Addr → Prop} {H : Hp} {a : Addr} {vs : List V} (h : FzL K F H a vs) : SqL K H a vs := h.sq
theorem it_list {K : PySem.W.Frag} {F : Addr → Prop} {H : Hp} {a : Addr} {vs : List V} {ds : List D} (h : FzL K F H a vs) (r : Reps K F H ds vs) : ItD K F H ds (Itl K a) := fun F2 H2 T z i => by
  have h2 := h.stay T
  have r2 := r.stay T
  refine ⟨fun d hd => ?_, fun hl => ⟨vs, h2.sq, by rw [← r2.length]; exact hl⟩⟩
  obtain ⟨v, e, rv⟩ := r2.get hd
  refine ⟨⟨vs, v, h2.sq, e⟩, fun x H3 y => ?_⟩
  obtain ⟨y1, y2⟩ := y
  subst y1
  have := y2 vs h2.sq
  rw [e] at this; cases this
  exact ⟨F2, Ext.refl _ _, rv⟩
theorem it_tup {K : PySem.W.Frag} {F : Addr → Prop} {H : Hp} {a : Addr} {vs : List V} {ds : List D} (h : SqT K H a vs) (r : Reps K F H ds vs) : ItD K F H ds (Itt K a) := fun F2 H2 T z i => by
  have h2 := T.tp _ _ h
  have r2 := r.stay T
  refine ⟨fun d hd => ?_, fun hl => ⟨vs, h2, by rw [← r2.length]; exact hl⟩⟩
  obtain ⟨v, e, rv⟩ := r2.get hd
  refine ⟨⟨vs, v, h2, e⟩, fun x H3 y => ?_⟩
  obtain ⟨y1, y2⟩ := y
  subst y1
  have := y2 vs h2
  rw [e] at this; cases this
  exact ⟨F2, Ext.refl _ _, rv⟩
theorem di_val (ha : DE X e ga) : DI X tg e (fun ρ => (ga ρ).bind seqD) := by
  intro pins s σ H R I h
  obtain ⟨F, H₀, ρ, ds, S, q, k⟩ := h
  obtain ⟨d, e1, q⟩ := bnd q
  refine thn (ha pins s σ H (fun x H1 => ∃ F1, Ext F F1 H H1 ∧ Rep X.K F1 H1 d x) I ⟨F, H₀, ρ, d, S, e1, fun F1 H1 v E1 R1 => ⟨F1, E1, R1⟩⟩) fun v s1 ⟨x, H1, I1, r1, F1, E1, R1⟩ => ?_
  cases R1 with
  | @lst a vs ds' hq rr =>
    cases q
    cases r1
    obtain ⟨its, rv, p, hz⟩ := I1.list hq.sq
    refine wpAny_pyIter_list p.isList ?_
    refine ⟨s1.heap.objs.size, [s1.heap.objs.size], _, _, H1, rfl, I1.kept (t' := s1.toks) fun b o e => Heap.get?_push_of_some _ e, turn_list a _, ⟨_, Heap.get?_push_size _ rfl, rfl, rfl⟩, fun b hb => ?_, k F1 H1 _ E1 (it_list hq rr)⟩
    have e : b = s1.heap.objs.size := by simpa using hb
    subst e
    exact I1.fpOk (Nat.le_refl _) (I1.hok.fresh (Nat.le_refl _))
  | @tup a vs ds' hq rr =>
    cases q
    cases r1
    obtain ⟨its, rv, p, hz⟩ := I1.tuple hq
    refine wpAny_pyIter_tuple (show s1.heap.IsTuple a its.toArray from p) ?_
    refine ⟨s1.heap.objs.size, [s1.heap.objs.size], _, _, H1, rfl, I1.kept (t' := s1.toks) fun b o e => Heap.get?_push_of_some _ e, turn_tuple a _, ⟨_, Heap.get?_push_size _ rfl, rfl, rfl⟩, fun b hb => ?_, k F1 H1 _ E1 (it_tup hq rr)⟩
    have e : b = s1.heap.objs.size := by simpa using hb
    subst e
    exact I1.fpOk (Nat.le_refl _) (I1.hok.fresh (Nat.le_refl _))
  | non => cases q
  | bl _ => cases q
  | int _ => cases q
  | str _ => cases q
end

/-! ### a def over data -/
def startD (n : Nat) (ds : List D) : Rho := ds.map .dat ++ List.replicate (n - ds.length) .no
def fnD (n : Nat) (g : Rho → Option Out) : List D → Option D := fun ds => match g (startD n ds) with
  | some (.rt d) => some d
  | some (.nx _) => some .none
  | _ => none
theorem start_ok {K : PySem.W.Frag} {F : Addr → Prop} {H : Hp} {N : List Str} {ds : List D} {vs : List V} (z : ∀ a, F a → H a ≠ none) (r : Reps K F H ds vs) : StOk K F H H (L2.start N vs) (startD N.length ds) := by
  have hl := r.length
  refine ⟨by simp [L2.start, startD, hl], fun i s h => ?_, fun i j a es es' hij h1 => ?_, z⟩
  · unfold startD at h
    by_cases hi : i < ds.length
    · rw [List.getElem?_append_left (by simpa using hi), List.getElem?_map] at h
      cases e : ds[i]? with
      | none => rw [e] at h; cases h
      | some d =>
        rw [e] at h; cases h
        obtain ⟨v, e2, rv⟩ := r.get e
        refine ⟨some v, ?_, v, rfl, rv⟩
        unfold L2.start
        rw [List.getElem?_append_left (by simpa using (by omega : i < vs.length)), List.getElem?_map, e2]
        rfl
    · rw [List.getElem?_append_right (by simpa using hi), List.getElem?_replicate] at h
      split at h
      · rename_i hlt
        cases h
        refine ⟨none, ?_, trivial⟩
        unfold L2.start
        rw [List.getElem?_append_right (by simpa using (by omega : vs.length ≤ i)), List.getElem?_replicate, if_pos (by simp at hlt ⊢; omega)]
      · cases h
  · unfold startD at h1
    by_cases hi : i < ds.length
    · rw [List.getElem?_append_left (by simpa using hi), List.getElem?_map] at h1
      cases e : ds[i]? with
      | none => rw [e] at h1; cases h1
      | some d => rw [e] at h1; cases h1
    · rw [List.getElem?_append_right (by simpa using hi), List.getElem?_replicate] at h1
      split at h1 <;> cases h1
theorem fn_D {P : Program} {w : World} {K : PySem.W.Frag} {mg : Str → Option Value} {base : Heap} {x qual : Str} {st : Stmt} {f : Addr} {fd : FuncData} {N ps : List Str} {k : Nat} {g : Rho → Option Out} (F : Fun K x qual st f fd) (S : FnScope N ps (defScope st))
    (hb : ∀ (cdv : Value) (A : Around) (outer : List Env) (s : Shared) (H : Hp) (E : XK), Room k (A.deeper (envOfC qual (defScope st) s.heap.objs.size f cdv)) →
      DSs (cxOf CX0 P w K mg base N qual (defScope st) f cdv A outer s H E).nox (defBody st) g) : FnOk P w K mg base CX0 (k + 1) f fd ps (spD K ps.length (fnD N.length g)) := by
  refine F.ok S (fun vs H Q E h => ?_) (fun cdv A outer s H vs Q E hr h => ?_)
  · obtain ⟨F, ds, d, hl, _, r, _⟩ := h
    rw [← r.length, hl]
  · obtain ⟨F, ds, d, hl, z, r, q, kk⟩ := h
    refine ⟨_, hb cdv A outer s H E hr, ?_⟩
    unfold fnD at q
    split at q
    · rename_i d' e
      cases q
      exact ⟨F, H, F, _, _, Ext.refl F H, start_ok z r, e, fun F' H' v E' R' => kk F' H' v E' R'⟩
    · rename_i ρ' e
      cases q
      exact ⟨F, H, F, _, _, Ext.refl F H, start_ok z r, e, fun F' H' σ' E' T' S' => kk F' H' .non E' .non⟩
    · cases q
end DL

namespace DL
open PySem PySem.Spec PySem.SeqAt PyProof.Rows L2

/-! ### a datum as the library reads it -/
mutual
theorem Rep.reads {X : Cx} {pins : List (Addr × Obj)} {σ : L2.St} {H : Hp} {s : Shared} {F : Addr → Prop} (I : L2.Inv X pins σ H s) : ∀ {d : D} {x : V} {u : Value}, Rep X.K F H d x → L2.RelV x u → ∃ as, Reads s.heap u d as
  | _, _, _, .non, r => by cases r; exact ⟨_, .none⟩
  | _, _, _, .bl b, r => by cases r; exact ⟨_, .bool b⟩
  | _, _, _, .int i, r => by obtain ⟨t, rfl⟩ := r; exact ⟨_, .int i t⟩
  | _, _, _, .str x, r => by obtain ⟨t, rfl⟩ := r; exact ⟨_, .str x t⟩
  | _, _, _, .tup h q, r => by
    cases r
    obtain ⟨its, rv, ⟨o, ho, hc, n, hd⟩, _⟩ := I.tuple h
    obtain ⟨as, z⟩ := Reps.reads I q rv
    exact ⟨_, .tuple ho hc hd (by simpa using z)⟩
  | _, _, _, .lst h q, r => by
    cases r
    obtain ⟨its, rv, pl, _⟩ := I.list h.sq
    obtain ⟨o, n, ho, hc, _, hd⟩ := pl
    obtain ⟨as, z⟩ := Reps.reads I q rv
    exact ⟨_, .list ho hc hd (by simpa using z)⟩
theorem Reps.reads {X : Cx} {pins : List (Addr × Obj)} {σ : L2.St} {H : Hp} {s : Shared} {F : Addr → Prop} (I : L2.Inv X pins σ H s) : ∀ {ds : List D} {xs : List V} {us : List Value}, Reps X.K F H ds xs → L2.Vals xs us → ∃ as, ReadsAll s.heap us ds as
  | _, _, _, .nil, r => by cases r; exact ⟨_, .nil⟩
  | _, _, _, .cons h q, r => by
    cases r with
    | cons r1 r2 =>
      obtain ⟨as, z⟩ := Rep.reads I h r1
      obtain ⟨bs, y⟩ := Reps.reads I q r2
      exact ⟨_, .cons z y⟩
end

/-! ### ints -/
def dI0 (t : Int → Int → D) : D → D → Option D
  | .int i, .int j => some (t i j)
  | _, _ => none
def dI2 (C : Int → Int → Bool) (t : Int → Int → D) : D → D → Option D
  | .int i, .int j => if C i j = true then some (t i j) else none
  | _, _ => none
def okMul (i j : Int) : Bool := (decide (-18446744073709551616 < i) && decide (i < 18446744073709551616)) || (decide (-18446744073709551616 < j) && decide (j < 18446744073709551616))
def okDiv (_ j : Int) : Bool := decide (0 < j) && decide (j < 1073741824)
def okMod (_ j : Int) : Bool := decide (0 < j)
section
variable {X : Cx}
theorem opd0 {f : Value → Value → Sem Value} {g : Int → Int → V} {t : Int → Int → D} (h : OpR X f (rI0 g)) (r : ∀ i j K F H, Rep K F H (t i j) (g i j)) : OpR X f (rD2 X.K (dI0 t)) :=
  opr_mono h fun x y H Q ⟨F, d, e, q, z, R1, R2, hq, k⟩ => by
    unfold dI0 at hq
    split at hq
    · cases hq
      cases R1
      cases R2
      exact ⟨_, _, rfl, rfl, k F H _ (Ext.refl F H) (r _ _ _ _ _)⟩
    · cases hq
theorem opd2 {f : Value → Value → Sem Value} {C : Int → Int → Prop} {B : Int → Int → Bool} {g : Int → Int → V} {t : Int → Int → D} (h : OpR X f (rI C g)) (hB : ∀ i j, B i j = true → C i j) (r : ∀ i j K F H, Rep K F H (t i j) (g i j)) : OpR X f (rD2 X.K (dI2 B t)) :=
  opr_mono h fun x y H Q ⟨F, d, e, q, z, R1, R2, hq, k⟩ => by
    unfold dI2 at hq
    split at hq
    · rename_i i j
      by_cases hb : B i j = true
      · rw [if_pos hb] at hq
        cases hq
        cases R1
        cases R2
        exact ⟨_, _, rfl, rfl, hB _ _ hb, k F H _ (Ext.refl F H) (r _ _ _ _ _)⟩
      · rw [if_neg hb] at hq; cases hq
    · cases hq
def dSub : D → D → Option D := dI0 fun i j => .int (i - j)
def dMul : D → D → Option D := dI2 okMul fun i j => .int (i * j)
def dFdiv : D → D → Option D := dI2 okDiv fun i j => .int (i / j)
def dMod : D → D → Option D := dI2 okMod fun i j => .int (i % j)
def dLt : D → D → Option D := dI0 fun i j => .bool (decide (i < j))
def dLe : D → D → Option D := dI0 fun i j => .bool (decide (i ≤ j))
def dGt : D → D → Option D := dI0 fun i j => .bool (decide (j < i))
def dGe : D → D → Option D := dI0 fun i j => .bool (decide (j ≤ i))
theorem opd_sub : OpR X (binaryOp .Sub) (rD2 X.K dSub) := opd0 op_sub fun _ _ _ _ _ => .int _
theorem opd_mul : OpR X (binaryOp .Mult) (rD2 X.K dMul) := opd2 op_mul (fun i j h => by
  unfold okMul at h
  simp only [Bool.or_eq_true, Bool.and_eq_true, decide_eq_true_eq] at h
  unfold CMul
  omega) fun _ _ _ _ _ => .int _
theorem opd_fdiv : OpR X (binaryOp .FloorDiv) (rD2 X.K dFdiv) := opd2 op_fdiv (fun i j h => by
  unfold okDiv at h
  simp only [Bool.and_eq_true, decide_eq_true_eq] at h
  exact h) fun _ _ _ _ _ => .int _
theorem opd_mod : OpR X (binaryOp .Mod) (rD2 X.K dMod) := opd2 op_mod (fun i j h => by
  unfold okMod at h
  simpa using h) fun _ _ _ _ _ => .int _
theorem opd_lt : OpR X (compareOp .Lt) (rD2 X.K dLt) := opd0 op_lt fun _ _ _ _ _ => .bl _
theorem opd_le : OpR X (compareOp .LtE) (rD2 X.K dLe) := opd0 op_le fun _ _ _ _ _ => .bl _
theorem opd_gt : OpR X (compareOp .Gt) (rD2 X.K dGt) := opd0 op_gt fun _ _ _ _ _ => .bl _
theorem opd_ge : OpR X (compareOp .GtE) (rD2 X.K dGe) := opd0 op_ge fun _ _ _ _ _ => .bl _
def dNeg : D → Option D
  | .int i => some (.int (-i))
  | _ => none
theorem und_neg : UnR X (unaryOp .USub) (rD1 X.K dNeg) := unr_mono un_neg fun x H Q ⟨F, d, q, z, R1, hq, k⟩ => by
  unfold dNeg at hq
  split at hq
  · cases hq
    cases R1
    exact ⟨_, rfl, k F H _ (Ext.refl F H) (.int _)⟩
  · cases hq
/-- ints; tuples, the left one not empty -/
def dAdd : D → D → Option D
  | .int i, .int j => some (.int (i + j))
  | .tuple xs, .tuple ys => if xs ≠ [] ∧ xs.length + ys.length ≤ 1000 then some (.tuple (xs ++ ys)) else none
  | _, _ => none
theorem opd_add : OpR X (binaryOp .Add) (rD2 X.K dAdd) := opr_mono (op_add.or op_catT) fun x y H Q ⟨F, d, e, q, z, R1, R2, hq, k⟩ => by
  unfold dAdd at hq
  split at hq
  · cases hq
    cases R1
    cases R2
    exact .inl ⟨_, _, rfl, rfl, k F H _ (Ext.refl F H) (.int _)⟩
  · rename_i xs ys
    by_cases c : xs ≠ [] ∧ xs.length + ys.length ≤ 1000
    · rw [if_pos c] at hq
      cases hq
      cases R1 with
      | @tup a vs _ h1 r1 =>
        cases R2 with
        | @tup b us _ h2 r2 =>
          refine .inr ⟨a, b, vs, us, rfl, rfl, h1, h2, fun e => c.1 (by
              have := r1.length
              rw [e] at this
              exact List.eq_nil_of_length_eq_zero this), line1000 (by rw [← r1.length, ← r2.length]; exact c.2), fun e => ?_, fun e p hp => ?_⟩
          · have : ys = [] := by
              have := r2.length
              rw [e] at this
              exact List.eq_nil_of_length_eq_zero this
            subst this
            rw [List.append_nil] at k
            exact k F H _ (Ext.refl F H) (.tup h1 r1)
          · exact k F _ _ (Ext.fresh hp) (Rep.newTup hp (r1.append r2))
    · rw [if_neg c] at hq; cases hq
  · cases hq
/-! ### equality, membership -/
def dEq (d e : D) : Option D := if (shaped d && shaped e) = true then some (.bool (PyData.eqv d e)) else none
def dNe (d e : D) : Option D := if (shaped d && shaped e) = true then some (.bool (!PyData.eqv d e)) else none
theorem opd_eq (hu : X.A.units + 64 < cLine) : OpR X (compareOp .Eq) (rD2 X.K dEq) := fun pins s σ H x y v u Q I rx ry ⟨F, d, e, q, z, R1, R2, hq, k⟩ => by
  unfold dEq at hq
  by_cases c : (shaped d && shaped e) = true
  · rw [if_pos c] at hq
    cases hq
    have c' := Bool.and_eq_true_iff.mp c
    obtain ⟨as, a1⟩ := R1.reads I rx
    obtain ⟨bs, a2⟩ := R2.reads I ry
    exact eq_dataH a1 a2 c'.1 c'.2 hu ⟨.bl _, H, I, rfl, k F H _ (Ext.refl F H) (.bl _)⟩
  · rw [if_neg c] at hq; cases hq
theorem opd_ne (hu : X.A.units + 64 < cLine) : OpR X (compareOp .NotEq) (rD2 X.K dNe) := fun pins s σ H x y v u Q I rx ry ⟨F, d, e, q, z, R1, R2, hq, k⟩ => by
  unfold dNe at hq
  by_cases c : (shaped d && shaped e) = true
  · rw [if_pos c] at hq
    cases hq
    have c' := Bool.and_eq_true_iff.mp c
    obtain ⟨as, a1⟩ := R1.reads I rx
    obtain ⟨bs, a2⟩ := R2.reads I ry
    exact ne_dataH a1 a2 c'.1 c'.2 hu ⟨.bl _, H, I, rfl, k F H _ (Ext.refl F H) (.bl _)⟩
  · rw [if_neg c] at hq; cases hq
def dIn (neg : Bool) (d : D) : D → Option D
  | .list xs => if (shaped d && shaped (.list xs)) = true then some (.bool (if neg then !(xs.any fun y => PyData.eqv y d) else xs.any fun y => PyData.eqv y d)) else none
  | .tuple xs => if (shaped d && shaped (.tuple xs)) = true then some (.bool (if neg then !(xs.any fun y => PyData.eqv y d) else xs.any fun y => PyData.eqv y d)) else none
  | _ => none
theorem opd_in (hu : X.A.units + 65 < cLine) : OpR X (compareOp .In) (rD2 X.K (dIn false)) := fun pins s σ H x y v u Q I rx ry ⟨F, d, e, q, z, R1, R2, hq, k⟩ => by
  obtain ⟨as, a1⟩ := R1.reads I rx
  obtain ⟨bs, a2⟩ := R2.reads I ry
  unfold dIn at hq
  split at hq
  · rename_i xs
    by_cases c : (shaped d && shaped (.list xs)) = true
    · rw [if_pos c] at hq
      cases hq
      have c' := Bool.and_eq_true_iff.mp c
      exact in_list_reads a2 a1 (canLay_of_shaped c'.2) (canLay_of_shaped c'.1) (room_in_shaped c'.1 hu) ⟨.bl _, H, I, rfl, k F H _ (Ext.refl F H) (.bl _)⟩
    · rw [if_neg c] at hq; cases hq
  · rename_i xs
    by_cases c : (shaped d && shaped (.tuple xs)) = true
    · rw [if_pos c] at hq
      cases hq
      have c' := Bool.and_eq_true_iff.mp c
      exact in_tuple_reads a2 a1 (canLay_of_shaped c'.2) (canLay_of_shaped c'.1) (room_in_shaped c'.1 hu) ⟨.bl _, H, I, rfl, k F H _ (Ext.refl F H) (.bl _)⟩
    · rw [if_neg c] at hq; cases hq
  · cases hq
theorem opd_notin (hu : X.A.units + 65 < cLine) : OpR X (compareOp .NotIn) (rD2 X.K (dIn true)) := fun pins s σ H x y v u Q I rx ry ⟨F, d, e, q, z, R1, R2, hq, k⟩ => by
  obtain ⟨as, a1⟩ := R1.reads I rx
  obtain ⟨bs, a2⟩ := R2.reads I ry
  unfold dIn at hq
  split at hq
  · rename_i xs
    by_cases c : (shaped d && shaped (.list xs)) = true
    · rw [if_pos c] at hq
      cases hq
      have c' := Bool.and_eq_true_iff.mp c
      exact notIn_list_reads a2 a1 (canLay_of_shaped c'.2) (canLay_of_shaped c'.1) (room_in_shaped c'.1 hu) ⟨.bl _, H, I, rfl, k F H _ (Ext.refl F H) (.bl _)⟩
    · rw [if_neg c] at hq; cases hq
  · rename_i xs
    by_cases c : (shaped d && shaped (.tuple xs)) = true
    · rw [if_pos c] at hq
      cases hq
      have c' := Bool.and_eq_true_iff.mp c
      exact notIn_tuple_reads a2 a1 (canLay_of_shaped c'.2) (canLay_of_shaped c'.1) (room_in_shaped c'.1 hu) ⟨.bl _, H, I, rfl, k F H _ (Ext.refl F H) (.bl _)⟩
    · rw [if_neg c] at hq; cases hq
  · cases hq
/-! ### items -/
def dIx : D → D → Option D
  | .tuple xs, .int i => atI xs i
  | .list xs, .int i => atI xs i
  | _, _ => none
theorem Reps.atI {K : PySem.W.Frag} {F : Addr → Prop} {H : Hp} {ds : List D} {vs : List V} {i : Int} {d : D} (r : Reps K F H ds vs) (h : L2.atI ds i = some d) : ∃ v, L2.atI vs i = some v ∧ Rep K F H d v := by
  unfold L2.atI at h ⊢
  rw [r.length] at h
  cases e : ixN vs.length i with
  | none => rw [e] at h; cases h
  | some j =>
    rw [e] at h
    obtain ⟨v, h1, h2⟩ := r.get (show ds[j]? = some d from h)
    exact ⟨v, h1, h2⟩
theorem ixd : IxR X (rD2 X.K dIx) := ixr_mono (ix_list.or ix_tup) fun x y H Q ⟨F, d, e, q, z, R1, R2, hq, k⟩ => by
  unfold dIx at hq
  split at hq
  · rename_i xs i
    cases R1 with
    | @tup a vs _ h1 r1 =>
      cases R2
      obtain ⟨v, g1, g2⟩ := r1.atI hq
      exact .inr ⟨a, vs, i, v, rfl, rfl, h1, g1, k F H _ (Ext.refl F H) g2⟩
  · rename_i xs i
    cases R1 with
    | @lst a vs _ h1 r1 =>
      cases R2
      obtain ⟨v, g1, g2⟩ := r1.atI hq
      exact .inl ⟨a, vs, i, v, rfl, rfl, h1.sq, g1, k F H _ (Ext.refl F H) g2⟩
  · cases hq
/-! ### built-in functions -/
def dLen : List D → Option D
  | [.list xs] => some (.int xs.length)
  | [.tuple xs] => some (.int xs.length)
  | _ => none
theorem cd_len : CallR X (.builtin "len") (rDA X.K dLen) := callr_mono call_len_seq fun xs H Q ⟨F, ds, q, z, R, hq, k⟩ => by
  unfold dLen at hq
  split at hq
  · cases hq
    cases R with
    | cons R1 R2 =>
      cases R2
      cases R1 with
      | @lst a vs _ h1 r1 => exact ⟨a, vs, rfl, .inl h1.sq, by rw [← r1.length]; exact k F H _ (Ext.refl F H) (.int _)⟩
  · cases hq
    cases R with
    | cons R1 R2 =>
      cases R2
      cases R1 with
      | @tup a vs _ h1 r1 => exact ⟨a, vs, rfl, .inr h1, by rw [← r1.length]; exact k F H _ (Ext.refl F H) (.int _)⟩
  · cases hq
def dAbs : List D → Option D
  | [.int i] => some (.int (if i < 0 then -i else i))
  | _ => none
theorem cd_abs : CallR X (.builtin "abs") (rDA X.K dAbs) := callr_mono call_abs fun xs H Q ⟨F, ds, q, z, R, hq, k⟩ => by
  unfold dAbs at hq
  split at hq
  · cases hq
    cases R with
    | cons R1 R2 => cases R2; cases R1; exact ⟨_, rfl, k F H _ (Ext.refl F H) (.int _)⟩
  · cases hq
def intsD : List D → Option (List Int)
  | [] => some []
  | .int i :: r => (intsD r).bind fun is => some (i :: is)
  | _ => none
def leastI : List Int → Option Int
  | [] => none
  | [a] => some a
  | a :: r => (leastI r).bind fun b => some (if a ≤ b then a else b)
def mostI : List Int → Option Int
  | [] => none
  | [a] => some a
  | a :: r => (mostI r).bind fun b => some (if b ≤ a then a else b)
theorem leastI_spec : ∀ {l : List Int} {m : Int}, leastI l = some m → m ∈ l ∧ ∀ a ∈ l, m ≤ a
  | [], _, h => by cases h
  | [a], m, h => by cases h; simp
  | a :: b :: r, m, h => by
    obtain ⟨c, e, h⟩ := bnd h
    obtain ⟨h1, h2⟩ := leastI_spec e
    cases h
    by_cases q : a ≤ c
    · rw [if_pos q]
      refine ⟨List.mem_cons_self, fun x hx => ?_⟩
      rcases List.mem_cons.mp hx with hx | hx
      · rw [hx]; exact Int.le_refl _
      · exact Int.le_trans q (h2 x hx)
    · rw [if_neg q]
      refine ⟨List.mem_cons_of_mem _ h1, fun x hx => ?_⟩
      rcases List.mem_cons.mp hx with hx | hx
      · rw [hx]; omega
      · exact h2 x hx
theorem mostI_spec : ∀ {l : List Int} {m : Int}, mostI l = some m → m ∈ l ∧ ∀ a ∈ l, a ≤ m
  | [], _, h => by cases h
  | [a], m, h => by cases h; simp
  | a :: b :: r, m, h => by
    obtain ⟨c, e, h⟩ := bnd h
    obtain ⟨h1, h2⟩ := mostI_spec e
    cases h
    by_cases q : c ≤ a
    · rw [if_pos q]
      refine ⟨List.mem_cons_self, fun x hx => ?_⟩
      rcases List.mem_cons.mp hx with hx | hx
      · rw [hx]; exact Int.le_refl _
      · exact Int.le_trans (h2 x hx) q
    · rw [if_neg q]
      refine ⟨List.mem_cons_of_mem _ h1, fun x hx => ?_⟩
      rcases List.mem_cons.mp hx with hx | hx
      · rw [hx]; omega
      · exact h2 x hx
theorem ints_rep {K : PySem.W.Frag} {F : Addr → Prop} {H : Hp} : ∀ {ds : List D} {vs : List V} {is : List Int}, Reps K F H ds vs → intsD ds = some is → vs = is.map V.int
  | _, _, _, .nil, h => by cases h; rfl
  | _, _, _, .cons (.int i) r, h => by
    obtain ⟨js, e, h⟩ := bnd h
    cases h
    rw [ints_rep r e]; rfl
  | _, _, _, .cons .non _, h => by cases h
  | _, _, _, .cons (.bl _) _, h => by cases h
  | _, _, _, .cons (.str _) _, h => by cases h
  | _, _, _, .cons (.tup _ _) _, h => by cases h
  | _, _, _, .cons (.lst _ _) _, h => by cases h
def dMin : List D → Option D
  | [.int i, .int j] => some (.int (if j < i then j else i))
  | [.list ds] => (intsD ds).bind fun is => (leastI is).bind fun m => some (.int m)
  | _ => none
def dMax : List D → Option D
  | [.int i, .int j] => some (.int (if j > i then j else i))
  | [.list ds] => (intsD ds).bind fun is => (mostI is).bind fun m => some (.int m)
  | _ => none
theorem call_min1 (hc : X.calm = true) : CallR X (.builtin "min") (fun xs H Q => ∃ a is m, xs = [.ref a] ∧ SqL X.K H a (is.map V.int) ∧ leastI is = some m ∧ Q (.int m) H) := by
  intro pins s σ H xs us Q I r h
  obtain ⟨a, is, m, rfl, hq, hm, q⟩ := h
  obtain ⟨u, rfl, rx⟩ := vals1 r
  cases rx
  obtain ⟨its, rv, pl, _⟩ := I.list hq
  obtain ⟨hm1, hm2⟩ := leastI_spec hm
  have ia : IntsAre its is := intsAre_of rv
  obtain ⟨xs, e⟩ := ia.allInts.items
  have hl : s.heap.IsList a (intItems xs) := by rw [← e]; exact pl.isList
  have nums : xs.toList.map (·.1) = is := by
    have := ia.numsOf
    rw [← nums_intItems, ← e]
    simpa using this
  have hsz : 0 < xs.size := by
    have : 0 < is.length := List.length_pos_of_mem hm1
    rw [← nums, List.length_map, Array.length_toList] at this
    exact this
  refine min_intList (I.ok.hd hc) hl hsz fun v h' tk hv hk => ?_
  obtain ⟨t, rfl⟩ := intItems_at hv
  obtain ⟨g1, g2⟩ := argBest_lt (numAt xs) (xs.size - 1)
  have e1 : numAt xs (argBest (fun i j => decide (numAt xs i < numAt xs j)) (xs.size - 1)) = m := by
    apply Int.le_antisymm
    · rw [← nums] at hm1
      obtain ⟨j, hj, e3⟩ := mem_getD hm1
      rw [List.length_map, Array.length_toList] at hj
      rw [← e3, ← numAt_eq]
      exact g2 j (by omega)
    · apply hm2
      rw [← nums, numAt_eq]
      exact getD_mem (by rw [List.length_map, Array.length_toList]; omega)
  exact ⟨.int m, H, I.kept hk, ⟨t, by rw [e1]⟩, q⟩
theorem call_max1 (hc : X.calm = true) : CallR X (.builtin "max") (fun xs H Q => ∃ a is m, xs = [.ref a] ∧ SqL X.K H a (is.map V.int) ∧ mostI is = some m ∧ Q (.int m) H) := by
  intro pins s σ H xs us Q I r h
  obtain ⟨a, is, m, rfl, hq, hm, q⟩ := h
  obtain ⟨u, rfl, rx⟩ := vals1 r
  cases rx
  obtain ⟨its, rv, pl, _⟩ := I.list hq
  obtain ⟨hm1, hm2⟩ := mostI_spec hm
  have ia : IntsAre its is := intsAre_of rv
  obtain ⟨xs, e⟩ := ia.allInts.items
  have hl : s.heap.IsList a (intItems xs) := by rw [← e]; exact pl.isList
  have nums : xs.toList.map (·.1) = is := by
    have := ia.numsOf
    rw [← nums_intItems, ← e]
    simpa using this
  have hsz : 0 < xs.size := by
    have : 0 < is.length := List.length_pos_of_mem hm1
    rw [← nums, List.length_map, Array.length_toList] at this
    exact this
  refine max_intList (I.ok.hd hc) hl hsz fun v h' tk hv hk => ?_
  obtain ⟨t, rfl⟩ := intItems_at hv
  obtain ⟨g1, g2⟩ := argBest_gt (numAt xs) (xs.size - 1)
  have e1 : numAt xs (argBest (fun i j => decide (numAt xs i > numAt xs j)) (xs.size - 1)) = m := by
    apply Int.le_antisymm
    · apply hm2
      rw [← nums, numAt_eq]
      exact getD_mem (by rw [List.length_map, Array.length_toList]; omega)
    · rw [← nums] at hm1
      obtain ⟨j, hj, e3⟩ := mem_getD hm1
      rw [List.length_map, Array.length_toList] at hj
      rw [← e3, ← numAt_eq]
      exact g2 j (by omega)
  exact ⟨.int m, H, I.kept hk, ⟨t, by rw [e1]⟩, q⟩
theorem cd_min (hc : X.calm = true) : CallR X (.builtin "min") (rDA X.K dMin) := callr_mono ((call_min2 hc).or (call_min1 hc)) fun xs H Q ⟨F, ds, q, z, R, hq, k⟩ => by
  unfold dMin at hq
  split at hq
  · cases hq
    cases R with
    | cons R1 R2 =>
      cases R1
      cases R2 with
      | cons R2 R3 => cases R3; cases R2; exact .inl ⟨_, _, rfl, k F H _ (Ext.refl F H) (.int _)⟩
  · obtain ⟨is, e1, hq⟩ := bnd hq
    obtain ⟨m, e2, hq⟩ := bnd hq
    cases hq
    cases R with
    | cons R1 R2 =>
      cases R2
      cases R1 with
      | @lst a vs _ h1 r1 =>
        have := ints_rep r1 e1
        subst this
        exact .inr ⟨a, is, m, rfl, h1.sq, e2, k F H _ (Ext.refl F H) (.int _)⟩
  · cases hq
theorem cd_max (hc : X.calm = true) : CallR X (.builtin "max") (rDA X.K dMax) := callr_mono ((call_max2 hc).or (call_max1 hc)) fun xs H Q ⟨F, ds, q, z, R, hq, k⟩ => by
  unfold dMax at hq
  split at hq
  · cases hq
    cases R with
    | cons R1 R2 =>
      cases R1
      cases R2 with
      | cons R2 R3 => cases R3; cases R2; exact .inl ⟨_, _, rfl, k F H _ (Ext.refl F H) (.int _)⟩
  · obtain ⟨is, e1, hq⟩ := bnd hq
    obtain ⟨m, e2, hq⟩ := bnd hq
    cases hq
    cases R with
    | cons R1 R2 =>
      cases R2
      cases R1 with
      | @lst a vs _ h1 r1 =>
        have := ints_rep r1 e1
        subst this
        exact .inr ⟨a, is, m, rfl, h1.sq, e2, k F H _ (Ext.refl F H) (.int _)⟩
  · cases hq
def dTuple : List D → Option D
  | [.list xs] => some (.tuple xs)
  | [.tuple xs] => some (.tuple xs)
  | _ => none
theorem cd_tuple : CallR X (.type "tuple") (rDA X.K dTuple) := callr_mono call_tuple_of fun xs H Q ⟨F, ds, q, z, R, hq, k⟩ => by
  unfold dTuple at hq
  split at hq
  · cases hq
    cases R with
    | cons R1 R2 =>
      cases R2
      cases R1 with
      | @lst a vs _ h1 r1 => exact ⟨a, vs, rfl, .inl ⟨h1.sq, fun l hl => k F _ _ (Ext.fresh hl) (Rep.newTup hl r1)⟩⟩
  · cases hq
    cases R with
    | cons R1 R2 =>
      cases R2
      cases R1 with
      | @tup a vs _ h1 r1 => exact ⟨a, vs, rfl, .inr ⟨h1, k F H _ (Ext.refl F H) (.tup h1 r1)⟩⟩
  · cases hq
def dList : List D → Option D
  | [.list xs] => some (.list xs)
  | [.tuple xs] => some (.list xs)
  | _ => none
theorem cd_list : CallR X (.type "list") (rDA X.K dList) := callr_mono call_list_of fun xs H Q ⟨F, ds, q, z, R, hq, k⟩ => by
  unfold dList at hq
  split at hq
  · cases hq
    cases R with
    | cons R1 R2 =>
      cases R2
      cases R1 with
      | @lst a vs _ h1 r1 => exact ⟨a, vs, rfl, .inl h1.sq, fun l hl => k _ _ _ (Ext.frozen hl) (Rep.newLst hl r1)⟩
  · cases hq
    cases R with
    | cons R1 R2 =>
      cases R2
      cases R1 with
      | @tup a vs _ h1 r1 => exact ⟨a, vs, rfl, .inr h1, fun l hl => k _ _ _ (Ext.frozen hl) (Rep.newLst hl r1)⟩
  · cases hq
end
end DL

/-! A LIST COMPREHENSION over the layer: one clause, any target, no or one test; its free names are read from the frame around it. -/
namespace CL
open PySem PySem.Spec PyProof.Rows L2

/-- the closure of a comprehension: the cells of its free names -/
theorem clos_go {env : Env} : ∀ (names : List (Str × NameKind)) (acc : List (Str × Addr)), (∀ x ∈ names, x.2 = .free → ∃ c, env.cells.lookup x.1 = some c) →
    (∀ x c, acc.lookup x = some c → env.cells.lookup x = some c) →
    ∃ cl, (forIn names acc (fun (x : Str × NameKind) (cs : List (Str × Addr)) => (do
        if x.2 == .free then
          let c ← cellOf env x.1
          pure (ForInStep.yield ((x.1, c) :: cs))
        else pure (ForInStep.yield cs) : Sem (ForInStep (List (Str × Addr))))) = (pure cl : Sem _)) ∧ (∀ x c, cl.lookup x = some c → env.cells.lookup x = some c) ∧
      (∀ x, (x, NameKind.free) ∈ names → ∃ c, cl.lookup x = some c) ∧ (∀ x c, acc.lookup x = some c → ∃ c', cl.lookup x = some c') ∧ (∀ x c, cl.lookup x = some c → (x, NameKind.free) ∈ names ∨ acc.lookup x = some c)
  | [], acc, _, h2 => ⟨acc, by rw [List.forIn_nil], h2, fun x h => by simp at h, fun x c h => ⟨c, h⟩, fun x c h => .inr h⟩
  | (n, k) :: r, acc, h1, h2 => by
    rw [List.forIn_cons]
    by_cases hk : k = .free
    · subst hk
      obtain ⟨c, hc⟩ := h1 (n, .free) (List.mem_cons_self) rfl
      have hc' : env.cells.lookup n = some c := hc
      have h2' : ∀ x c', ((n, c) :: acc).lookup x = some c' → env.cells.lookup x = some c' := fun x c' h => by
        rw [List.lookup_cons] at h
        cases e : x == n with
        | true => rw [e] at h; cases h; rw [eq_of_beq e]; exact hc'
        | false => rw [e] at h; exact h2 x c' h
      obtain ⟨cl, q, a1, a2, a3, a4⟩ := clos_go r ((n, c) :: acc) (fun x hx => h1 x (List.mem_cons_of_mem _ hx)) h2'
      refine ⟨cl, ?_, a1, fun x hx => ?_, fun x c' h => ?_, fun x c' h => ?_⟩
      · have e1 : cellOf env n = pure c := by unfold cellOf; rw [hc']
        simp only [beq_self_eq_true, if_true, e1, pure_bind]
        exact q
      · rcases List.mem_cons.mp hx with hx | hx
        · cases hx
          exact a3 n c (by rw [List.lookup_cons, beq_self_eq_true])
        · exact a2 x hx
      · cases e : x == n with
        | true => rw [eq_of_beq e]; exact a3 n c (by rw [List.lookup_cons, beq_self_eq_true])
        | false => exact a3 x c' (by rw [List.lookup_cons, e]; exact h)
      · rcases a4 x c' h with h | h
        · exact .inl (List.mem_cons_of_mem _ h)
        · rw [List.lookup_cons] at h
          cases e : x == n with
          | true => rw [eq_of_beq e]; exact .inl List.mem_cons_self
          | false => rw [e] at h; exact .inr h
    · obtain ⟨cl, q, a1, a2, a3, a4⟩ := clos_go r acc (fun x hx => h1 x (List.mem_cons_of_mem _ hx)) h2
      refine ⟨cl, ?_, a1, fun x hx => ?_, a3, fun x c h => (a4 x c h).imp (List.mem_cons_of_mem _) id⟩
      · have e : (k == NameKind.free) = false := by simpa using hk
        simp only [e, Bool.false_eq_true, if_false, pure_bind]
        exact q
      · rcases List.mem_cons.mp hx with hx | hx
        · cases hx; exact absurd rfl hk
        · exact a2 x hx
theorem clos {env : Env} {scope : Scope} (h : ∀ x ∈ scope.names, x.2 = .free → ∃ c, env.cells.lookup x.1 = some c) :
    ∃ cl, closureFor scope env = pure cl ∧ (∀ x c, cl.lookup x = some c → env.cells.lookup x = some c) ∧ (∀ x, (x, NameKind.free) ∈ scope.names → ∃ c, cl.lookup x = some c) ∧ (∀ x c, cl.lookup x = some c → (x, NameKind.free) ∈ scope.names) := by
  obtain ⟨cl, q, a1, a2, _, a4⟩ := clos_go (env := env) scope.names [] h (fun x c h => by simp at h)
  refine ⟨cl, ?_, a1, a2, fun x c h => (a4 x c h).elim id fun z => by simp at z⟩
  simp only [closureFor]
  first
    | exact q
    | (rw [← q]; congr 1; funext x cs; obtain ⟨n, k⟩ := x; rfl)
    | simpa using q

/-- the context of a comprehension's block -/
def inCx (X : Cx) (N' : List Str) (scope : Scope) (cl : List (Str × Addr)) (C : Addr) (fp : List Addr) (s : Shared) (H : Hp) : Cx :=
  { X with N := N', s₀ := s, H₀ := H, env := compEnvC scope cl C X.env, outer := X.stack, ex := fp, fn := fun x => scope.names.lookup x == some .local, pn := [], xe := fun _ _ => False }
/-- what the text must have: inner says for each name of the block which slot of the frame around it is meant, if any -/
structure CompScope (X : Cx) (N' : List Str) (scope : Scope) (inner : List (Option Nat)) : Prop where
  kind : scope.kind = .function
  nocell : ∀ x ∈ scope.names, x.2 ≠ .cell
  loc : ∀ x ∈ scope.names, x.2 = .local → scope.names.lookup x.1 = some .local
  free : ∀ x ∈ scope.names, x.2 = .free → scope.names.lookup x.1 = some .free ∧ (X.env.scope.names.lookup x.1 = some .cell ∨ X.env.scope.names.lookup x.1 = some .free)
  len : inner.length = N'.length
  out : ∀ (i j : Nat), inner[i]? = some (some j) → ∃ x, N'[i]? = some x ∧ X.N[j]? = some x ∧ scope.names.lookup x = some .free
def inSt (inner : List (Option Nat)) (σ : L2.St) : L2.St := inner.map fun o => o.bind fun j => (σ[j]?).bind id
theorem relabel_free {env : Env} : ∀ {names : List (Str × NameKind)} {x : Str}, names.lookup x = some .free →
    (names.map fun (n, k) => if (k == NameKind.free && env.scope.kind == .function && env.kindOf n == some .cell) then (n, NameKind.cell) else (n, k)).lookup x = some .free ∨
    (names.map fun (n, k) => if (k == NameKind.free && env.scope.kind == .function && env.kindOf n == some .cell) then (n, NameKind.cell) else (n, k)).lookup x = some .cell
  | [], _, h => by simp at h
  | (n, k) :: r, x, h => by
    have ih := @relabel_free env r x
    rw [List.map_cons]
    show List.lookup x ((if (k == NameKind.free && env.scope.kind == .function && env.kindOf n == some .cell) = true then (n, NameKind.cell) else (n, k)) :: _) = _ ∨ List.lookup x ((if (k == NameKind.free && env.scope.kind == .function && env.kindOf n == some .cell) = true then (n, NameKind.cell) else (n, k)) :: _) = _
    cases hx : x == n with
    | true =>
      simp only [List.lookup_cons, hx] at h
      cases h
      by_cases hc : (NameKind.free == NameKind.free && env.scope.kind == .function && env.kindOf n == some .cell) = true
      · rw [if_pos hc]; right; simp [List.lookup_cons, hx]
      · rw [if_neg hc]; left; simp [List.lookup_cons, hx]
    | false =>
      simp only [List.lookup_cons, hx] at h
      by_cases hc : (k == NameKind.free && env.scope.kind == .function && env.kindOf n == some .cell) = true
      · rw [if_pos hc]; simp only [List.lookup_cons, hx]; exact ih h
      · rw [if_neg hc]; simp only [List.lookup_cons, hx]; exact ih h
/-- a name that is looked up as a cell or as free there is free in the text -/
theorem relabel_back {env : Env} : ∀ {names : List (Str × NameKind)} {x : Str} {q : NameKind}, (∀ y ∈ names, y.2 ≠ .cell) → (q = .cell ∨ q = .free) →
    (names.map fun (n, k) => if (k == NameKind.free && env.scope.kind == .function && env.kindOf n == some .cell) then (n, NameKind.cell) else (n, k)).lookup x = some q → (x, NameKind.free) ∈ names
  | [], _, _, _, _, h => by simp at h
  | (n, k) :: r, x, q, hn, hq, h => by
    have ih := @relabel_back env r x q (fun y hy => hn y (List.mem_cons_of_mem _ hy)) hq
    rw [List.map_cons] at h
    have h' : List.lookup x ((if (k == NameKind.free && env.scope.kind == .function && env.kindOf n == some .cell) = true then (n, NameKind.cell) else (n, k)) :: _) = some q := h
    cases hx : x == n with
    | true =>
      have e : x = n := eq_of_beq hx
      by_cases hc : (k == NameKind.free && env.scope.kind == .function && env.kindOf n == some .cell) = true
      · have : k = .free := by
          have := hc
          simp only [Bool.and_eq_true, beq_iff_eq] at this
          exact this.1.1
        rw [e, this]; exact List.mem_cons_self
      · rw [if_neg hc] at h'
        simp only [List.lookup_cons, hx] at h'
        have kq : k = q := Option.some.inj h'
        rcases hq with z | z
        · exact absurd (kq.trans z) (hn (n, k) List.mem_cons_self)
        · rw [e, ← z, ← kq]; exact List.mem_cons_self
    | false =>
      by_cases hc : (k == NameKind.free && env.scope.kind == .function && env.kindOf n == some .cell) = true
      · rw [if_pos hc] at h'; simp only [List.lookup_cons, hx] at h'; exact List.mem_cons_of_mem _ (ih h')
      · rw [if_neg hc] at h'; simp only [List.lookup_cons, hx] at h'; exact List.mem_cons_of_mem _ (ih h')
section
variable {X : Cx} {N' : List Str} {scope : Scope} {inner : List (Option Nat)} {cl : List (Str × Addr)} {C : Addr} {fp : List Addr} {s s4 : Shared} {H : Hp} {σ : L2.St} {pins : List (Addr × Obj)}
/-- the block begins: s is the state ahead of its own dict at C -/
theorem in_start (CS : CompScope X N' scope inner) (I : Inv X pins σ H s) (hf : ∀ b ∈ fp, FpOk X pins H b) (c1 : ∀ x c, cl.lookup x = some c → X.env.cells.lookup x = some c) (c2 : ∀ x, (x, NameKind.free) ∈ scope.names → ∃ c, cl.lookup x = some c) (c3 : ∀ x c, cl.lookup x = some c → (x, NameKind.free) ∈ scope.names)
    (hfl : ∀ b ∈ fp, b < s.heap.objs.size) (hC : C = s.heap.objs.size) {h' : Heap} {tk : Nat} (hk : ∀ b o, s.heap.get? b = some o → h'.get? b = some o) (hns : h'.Ns C fun _ => none) (hs4 : s4 = { s with heap := h', toks := tk }) :
    Inv (inCx X N' scope cl C fp s H) [] (inSt inner σ) H s4 := by
  subst hs4
  have old : ∀ b o, s.heap.get? b = some o → b ≠ C := fun b o e => by rw [hC]; exact Nat.ne_of_lt (Heap.lt_size e)
  have cC : ∀ x c, cl.lookup x = some c → c ≠ C := fun x c e => by
    obtain ⟨v, o, q, _⟩ := I.cell x c (c1 x c e)
    exact old c o q
  refine ⟨⟨I.ok.mod, CS.kind, I.ok.glob, I.ok.blt, ?_, fun x y c h1 h2 => I.ok.inj x y c (c1 x c h1) (c1 y c h2), fun x hx => ?_, fun x c hx h => ?_, I.ok.hd, I.ok.frames, .inl rfl, fun b hb => ⟨?_, fun x c e z => (hf b hb).2.2.2.2.1 x c (c1 x c e) z⟩, I.bs, Nat.le_trans I.ok.bsz I.sz, fun b o e hb => ?_, fun b hb => ?_, I.stack, I.stkFree⟩,
    rfl, I.bare, Un.kept hk, ⟨_, hns, fun i x v e1 e2 e3 => ?_⟩, fun x c e => ?_, ?_, fun x c e => I.freeC x c (c1 x c e), fun p hp => absurd (show p ∈ ([] : List (Addr × Obj)) from hp) (by simp), I.hok.kept hk, ?_⟩
  · show s.heap.objs.size ≤ C
    rw [hC]; exact Nat.le_refl _
  · have hx' : (relabel scope X.env).names.lookup x = some .cell ∨ (relabel scope X.env).names.lookup x = some .free := hx
    rcases hx' with hx' | hx'
    · exact c2 x (relabel_back CS.nocell (.inl rfl) hx')
    · exact c2 x (relabel_back CS.nocell (.inr rfl) hx')
  · have hx' : (scope.names.lookup x == some NameKind.local) = true := hx
    have e1 : scope.names.lookup x = some .local := eq_of_beq hx'
    have e2 := (CS.free _ (c3 x c h) rfl).1
    rw [e1] at e2; cases e2
  · show b ≠ C
    rw [hC]; exact Nat.ne_of_lt (hfl b hb)
  · rcases (hf b hb).2.2.2.1 with z | z
    · exact I.ok.noex b o e z
    · exact absurd (Nat.lt_of_lt_of_le (Heap.lt_size e) (Nat.le_trans I.ok.bsz z)) (Nat.lt_irrefl _)
  · intro z
    rcases List.mem_cons.mp (I.stkSub b z) with q | q
    · exact (hf b hb).2.1 q
    · exact (hf b hb).2.2.1 q
  · -- a name of the block: one that is free, read through its cell
    unfold inSt at e2
    rw [List.getElem?_map] at e2
    cases ei : inner[i]? with
    | none => rw [ei] at e2; cases e2
    | some o =>
      rw [ei] at e2
      cases o with
      | none => cases e2
      | some j =>
        have e2' : (σ[j]?).bind id = some v := by simpa using e2
        have e4 : σ[j]? = some (some v) := by
          cases ej : σ[j]? with
          | none => rw [ej] at e2'; cases e2'
          | some w' => rw [ej] at e2'; exact congrArg some e2'
        obtain ⟨x', g1, g2, g3⟩ := CS.out i j ei
        have e1' : N'[i]? = some x := e1
        rw [e1'] at g1; cases g1
        have mem : (x, NameKind.free) ∈ scope.names := PySem.mem_of_lookup g3
        have outer := (CS.free _ mem rfl).2
        obtain ⟨m, hm, hl⟩ := I.loc
        have vis : Vis X.env.scope x := outer.elim (fun z => .inr (.inl z)) fun z => .inr (.inr z)
        obtain ⟨u, ru, lk⟩ := hl j x v g2 e4 vis
        refine ⟨u, ru, ?_⟩
        obtain ⟨c, hc⟩ := c2 x mem
        rcases lk with ⟨k1, _⟩ | ⟨_, c', k2, k3⟩
        · have k1' : X.env.scope.names.lookup x = some .local := k1
          rcases outer with z | z <;> (rw [k1'] at z; cases z)
        · have e5 := c1 x c hc
          rw [k2] at e5; cases e5
          refine .inr ⟨?_, c, hc, (let ⟨o, q1, q2⟩ := k3; ⟨o, hk _ o q1, q2⟩)⟩
          have := relabel_free (env := X.env) g3
          exact this.elim .inr .inl
  · obtain ⟨v, q⟩ := I.cell x c (c1 x c e)
    exact ⟨v, (let ⟨o, q1, q2⟩ := q; ⟨o, hk _ o q1, q2⟩)⟩
  · show H C = none
    exact I.hok.fresh (by rw [hC]; exact Nat.le_refl _)
  · show (inSt inner σ).length = N'.length
    unfold inSt
    rw [List.length_map]; exact CS.len
/-- the block is over: its dict at C is let go -/
theorem in_end (I : Inv X pins σ H s) (hf : ∀ b ∈ fp, FpOk X pins H b) (hC : C = s.heap.objs.size) {σ' : L2.St} {H' : Hp} {s5 : Shared} (J : Inv (inCx X N' scope cl C fp s H) [] σ' H' s5) {h' : Heap} (sb : Heap.SameBut C s5.heap h') :
    Inv X pins σ H' { s5 with heap := h' } := by
  have old : ∀ b o, s.heap.get? b = some o → b ≠ C := fun b o e => by rw [hC]; exact Nat.ne_of_lt (Heap.lt_size e)
  have U : Un (frs X.stack) fp H H' s.heap s5.heap := J.base
  have nC : H' C = none := J.free
  refine I.call' (ch := fp) J.os ⟨fun b o e n hb hx => ?_, fun b o e n hb hx => ?_, U.free, fun b o e hx => ?_, U.tups, U.frzs, U.tbls⟩ (fun b u e => ?_) J.bare fun b hb => ?_
  · rw [sb.2 b (old b o e)]; exact U.keep b o e n hb hx
  · obtain ⟨sl, q⟩ := U.slot b o e n hb hx
    exact ⟨sl, by rw [sb.2 b (old b o e)]; exact q⟩
  · obtain ⟨o', q⟩ := U.there b o e hx
    exact ⟨o', by rw [sb.2 b (old b o e)]; exact q⟩
  · have nt : ∀ c v, H' c = some v → c ≠ C := fun c v q z => by rw [z, nC] at q; cases q
    refine (J.hok b u e).stay (fun c v hc q => ?_) (fun _ q => q) fun _ _ q => q
    rw [sb.2 c ?_]
    · exact q
    · rcases hc with z | z
      · rw [z]; exact nt b u e
      · exact nt c _ z
  · exact ⟨(hf b hb).2.2.2.1, (hf b hb).2.1, (hf b hb).2.2.2.2.1, (hf b hb).2.2.2.2.2⟩
end

/-- the tests of a clause -/
def PTs (X : Cx) (ifs : List Expr) (t : TT) : Prop :=
  ∀ (pins : List (Addr × Obj)) (s : Shared) (σ : L2.St) (H : Hp) (Q : Bool → Hp → Prop), Inv X pins σ H s → t σ H Q →
    wpAny (model X.prog X.w) X.A (forIn ifs true fun c r => if r = true then do let ok ← isTrue c X.env (eval c X.env); pure (ForInStep.yield ok) else pure (ForInStep.yield r)) (TP X pins σ Q) X.xe s
theorem pts_nil {X : Cx} : PTs X [] (fun _ H Q => Q true H) := fun pins s σ H Q I h => wpAny_tests_nil ⟨H, I, h⟩
theorem pts_one {X : Cx} {c : Expr} {t : TT} (h : PT X c t) : PTs X [c] t := fun pins s σ H Q I q => wpAny_tests_one (h pins s σ H Q I q)

def tComp (wi : TI) (g : TG) (ti : TT) (te : TE) (inner : List (Option Nat)) : TE := fun σ H Q => wi σ H fun J H1 => ∀ D, H1 D = none → ∃ W : Nat → Nat → L2.St → Hp → Prop, (∃ m, W 0 m (inSt inner σ) (upd H1 D (.lst []))) ∧ ∀ i m σ' H', W i m σ' H' →
  (J.stop i H' ∧ Q (.ref D) H') ∨ (J.go i H' ∧ ∀ x H2, J.yld i H' x H2 → g x σ' H2 fun σ3 H3 => ti σ3 H3 fun b H4 => if b = true then te σ3 H4 fun y H5 => ∃ ys, H5 D = some (.lst ys) ∧ ys.length < sizeLine ∧ ∃ m', m' < m ∧ W (i + 1) m' σ3 (upd H5 D (.lst (ys ++ [y]))) else ∃ m', m' < m ∧ W (i + 1) m' σ3 H4)
section
variable {X : Cx} {elt tg iter : Expr} {ifs : List Expr} {scope : Scope} {pos : Pos} {N' : List Str} {inner : List (Option Nat)} {wi : TI} {g : TG} {ti : TT} {te : TE}
/-- the block, from the iterator on: RR is told the new list and the block's dict -/
theorem comp_run (hc : X.calm = true) (CS : CompScope X N' scope inner) (hg : ∀ cl C fp s H, PG (inCx X N' scope cl C fp s H) tg g) (ht : ∀ cl C fp s H, PTs (inCx X N' scope cl C fp s H) ifs ti) (he : ∀ cl C fp s H, PE (inCx X N' scope cl C fp s H) elt te)
    {pins : List (Addr × Obj)} {σ : L2.St} {s2 : Shared} {H2 : Hp} {it : Addr} {fp : List Addr} {tn : Nat → Heap → Prop} {J : It} {cl : List (Str × Addr)} {Q : VK} {RR : Value → Addr → Result → Shared → Prop}
    (c1 : ∀ x c, cl.lookup x = some c → X.env.cells.lookup x = some c) (c2 : ∀ x, (x, NameKind.free) ∈ scope.names → ∃ c, cl.lookup x = some c) (c3 : ∀ x c, cl.lookup x = some c → (x, NameKind.free) ∈ scope.names)
    (I2 : Inv X pins σ H2 s2) (T : Turn X.prog X.w X.K tg J fp it tn) (t0 : tn 0 s2.heap) (f2 : ∀ b ∈ fp, FpOk X pins H2 b)
    (q : ∀ D, H2 D = none → ∃ W : Nat → Nat → L2.St → Hp → Prop, (∃ m, W 0 m (inSt inner σ) (upd H2 D (.lst []))) ∧ ∀ i m σ' H', W i m σ' H' →
      (J.stop i H' ∧ Q (.ref D) H') ∨ (J.go i H' ∧ ∀ x H3, J.yld i H' x H3 → g x σ' H3 fun σ3 H3 => ti σ3 H3 fun b H4 => if b = true then te σ3 H4 fun y H5 => ∃ ys, H5 D = some (.lst ys) ∧ ys.length < sizeLine ∧ ∃ m', m' < m ∧ W (i + 1) m' σ3 (upd H5 D (.lst (ys ++ [y]))) else ∃ m', m' < m ∧ W (i + 1) m' σ3 H4))
    (fin : ∀ (D C : Addr) (H' : Hp) (s5 : Shared) (m : Str → Option Value), s5.heap.Ns C m → Q (.ref D) H' → (∀ h', Heap.SameBut C s5.heap h' → Inv X pins σ H' { s5 with heap := h' }) → (H' C = none ∧ C ≠ X.env.locals ∧ X.s₀.heap.objs.size ≤ C ∧ (∀ x c, X.env.cells.lookup x = some c → c ≠ C) ∧ ∀ p ∈ X.pn ++ pins, p.1 ≠ C) → RR (.ref D) C (.ok .next) s5) :
    wpAny (model X.prog X.w) X.A (newList []) (fun acc s₃ => wpAny (model X.prog X.w) X.A (newFunctionEnv scope X.env.globals cl [] X.env.qual none .none (some X.env)) (fun cenv s₄ =>
      codeAny (model X.prog X.w) X.A (.compStart (.ListComp elt [⟨tg, iter, ifs, 0⟩] scope pos) 0 (.ref it) acc { cenv with scope := relabel scope X.env }) (RR acc cenv.locals) s₄) X.xe s₃) X.xe s2 := by
  refine wpAny_newList ?_
  have hD : H2 s2.heap.objs.size = none := I2.hok.fresh (Nat.le_refl _)
  generalize hs3 : ({ s2 with heap := s2.heap.push { cls := .type "list", data := .seq ([] : List Value).toArray } } : Shared) = s3
  have k23 : ∀ b o, s2.heap.get? b = some o → s3.heap.get? b = some o := fun b o e => by rw [← hs3]; exact Heap.get?_push_of_some _ e
  have sz3 : s3.heap.objs.size = s2.heap.objs.size + 1 := by rw [← hs3]; exact Heap.size_push _ _
  have I3 : Inv X pins σ (upd H2 s2.heap.objs.size (.lst [])) s3 := by
    rw [← hs3]
    exact I2.laid (t' := s2.toks) (o := .lst []) (fun b o e => Heap.get?_push_of_some _ e) (Nat.le_refl _) ⟨Nat.zero_le _, [], 0, .nil, Heap.get?_push_size _ rfl⟩
  have ffl : ∀ b ∈ fp, b < s2.heap.objs.size := fun b hb => by
    obtain ⟨o, e, _⟩ := T.obj 0 _ t0 b hb
    exact Heap.lt_size e
  have f3 : ∀ b ∈ fp, FpOk X pins (upd H2 s2.heap.objs.size (.lst [])) b := fun b hb => by
    obtain ⟨g0, g1⟩ := f2 b hb
    exact ⟨by rw [upd_ne (Nat.ne_of_lt (ffl b hb))]; exact g0, g1⟩
  have t3 : tn 0 s3.heap := T.keep _ _ _ t0 fun b _ o e => k23 b o e
  obtain ⟨W, ⟨m0, w0⟩, step⟩ := q _ hD
  refine wpAny_newFunctionEnv (fun x hx => CS.nocell x hx) (by intro y hy; simp at hy) (fun h₁ hns₁ hsb₁ => ?_) CS.kind
  try dsimp only at hns₁ hsb₁ ⊢
  have k34 : ∀ b o, s3.heap.get? b = some o → h₁.get? b = some o := fun b o e => hsb₁.extBut b o (Nat.ne_of_lt (Heap.lt_size e)) (Heap.get?_push_of_some _ e)
  have hns : h₁.Ns s3.heap.objs.size fun _ => none := by
    have : (fun x => ([] : List (Str × Value)).reverse.lookup x) = (fun _ => none : Str → Option Value) := by funext x; rfl
    rw [this] at hns₁; exact hns₁
  generalize hs4 : ({ s3 with heap := h₁, toks := s3.toks + ([] : List (Str × Value)).length } : Shared) = s4
  have I4 : Inv (inCx X N' scope cl s3.heap.objs.size fp s3 (upd H2 s2.heap.objs.size (.lst []))) [] (inSt inner σ) (upd H2 s2.heap.objs.size (.lst [])) s4 :=
    in_start CS I3 f3 c1 c2 c3 (fun b hb => by rw [sz3]; exact Nat.lt_succ_of_lt (ffl b hb)) rfl k34 hns hs4.symm
  have t4 : tn 0 s4.heap := by rw [← hs4]; exact T.keep _ _ _ t3 fun b _ o e => k34 b o e
  have CL : s3.heap.objs.size ≠ X.env.locals := Nat.ne_of_gt I3.lt
  have CC : ∀ x c, X.env.cells.lookup x = some c → c ≠ s3.heap.objs.size := fun x c e => by
    obtain ⟨v, o, z, _⟩ := I3.cell x c e
    exact Nat.ne_of_lt (Heap.lt_size z)
  show codeAny (model X.prog X.w) X.A (.compStart (.ListComp elt [⟨tg, iter, ifs, 0⟩] scope pos) 0 (.ref it) (.ref s2.heap.objs.size) (compEnvC scope cl s3.heap.objs.size X.env)) (RR (.ref s2.heap.objs.size) s3.heap.objs.size) s4
  have loop : codeAny (model X.prog X.w) X.A (.compLoop (.ListComp elt [⟨tg, iter, ifs, 0⟩] scope pos) 0 (.ref it) (.ref s2.heap.objs.size) (compEnvC scope cl s3.heap.objs.size X.env)) (RR (.ref s2.heap.objs.size) s3.heap.objs.size) s4 := by
    refine codeAny_loop rfl (fun m s' => ∃ i σ' H', Inv (inCx X N' scope cl s3.heap.objs.size fp s3 (upd H2 s2.heap.objs.size (.lst []))) [] σ' H' s' ∧ tn i s'.heap ∧ (∀ b ∈ fp, H' b = none) ∧ W i m σ' H') (fun m s' hI => ?_) m0 ⟨0, _, _, I4, t4, fun b hb => (f3 b hb).1, w0⟩
    obtain ⟨i, σ', H', I', t', fr', w'⟩ := hI
    have fx : ∀ {H'' : Hp}, (∀ b ∈ fp, H'' b = none) → ∀ b ∈ fp, FpOk (inCx X N' scope cl s3.heap.objs.size fp s3 (upd H2 s2.heap.objs.size (.lst []))) [] H'' b := fun {H''} z b hb =>
      ⟨z b hb, (I4.ok.exf b hb).1, I4.ok.exfs b hb, .inl hb, fun x c e => (I4.ok.exf b hb).2 x c e, fun p hp => absurd (show p ∈ ([] : List (Addr × Obj)) from hp) (by simp)⟩
    show wpAny _ X.A ((compTurn (.ListComp elt [⟨tg, iter, ifs, 0⟩] scope pos) 0 (.ref it) (.ref s2.heap.objs.size) (compEnvC scope cl s3.heap.objs.size X.env)).onRaise (fun x => do noteFrame x (compEnvC scope cl s3.heap.objs.size X.env); theTreesLotGoes x)) _ _ s'
    refine wpAny_noted ?_
    rw [compTurn_list]
    refine wpAny_bind (wpAny_standAt (wpAny_bind ?_))
    rcases step i m σ' H' w' with ⟨stop, qn⟩ | ⟨go, nxt⟩
    · refine wpAny_mono (T.done (inCx X N' scope cl s3.heap.objs.size fp s3 (upd H2 s2.heap.objs.size (.lst []))) rfl rfl rfl hc i [] s' σ' H' (fun _ _ => False) I' (fx fr') t' stop) (fun r s5 hr => ?_) fun _ _ z => z.elim
      obtain ⟨hr, I5⟩ := hr
      subst hr
      obtain ⟨m5, hm5, _⟩ := id I5.loc
      exact wpAny_pure (fin _ _ H' s5 m5 hm5 qn (fun h' sb => in_end I3 f3 rfl I5 sb) ⟨I5.free, CL, I3.sz, CC, fun p hp => Nat.ne_of_lt (Heap.lt_size (I3.pin p hp).1)⟩)
    · refine wpAny_mono (T.item (inCx X N' scope cl s3.heap.objs.size fp s3 (upd H2 s2.heap.objs.size (.lst []))) rfl rfl rfl hc i [] s' σ' H' (fun _ _ => False) I' (fx fr') t' go) (fun r s5 hr => ?_) fun _ _ z => z.elim
      obtain ⟨u, hr, h5⟩ := hr
      subst hr
      refine wpAny_bind (wpAny_mono h5 (fun _ s6 h6 => ?_) fun _ _ z => z.elim)
      obtain ⟨x, H6, I6, r6, y6, t6, fr6⟩ := h6
      have I6' := I6.pinned (fx fr6) (T.obj _ _ t6)
      -- the rest of the turn keeps the iterator's records
      have back : ∀ {m' : Nat} {σ7 : L2.St} {H7 : Hp} {s7 : Shared}, Inv (inCx X N' scope cl s3.heap.objs.size fp s3 (upd H2 s2.heap.objs.size (.lst []))) ([] ++ pinsAt fp s6.heap) σ7 H7 s7 → m' < m → W (i + 1) m' σ7 H7 →
          ∃ m', m' < m ∧ ∃ i σ' H', Inv (inCx X N' scope cl s3.heap.objs.size fp s3 (upd H2 s2.heap.objs.size (.lst []))) [] σ' H' s7 ∧ tn i s7.heap ∧ (∀ b ∈ fp, H' b = none) ∧ W i m' σ' H' := fun {m' σ7 H7 s7} I7 lt w7 => by
        refine ⟨m', lt, i + 1, σ7, H7, I7.unpinned, T.keep _ _ _ t6 fun b hb o e => (I7.pin (b, o) (List.mem_append_right _ (List.mem_append_right _ (mem_pinsAt hb e)))).1, fun b hb => ?_, w7⟩
        obtain ⟨o, e, _⟩ := T.obj _ _ t6 b hb
        exact (I7.pin (b, o) (List.mem_append_right _ (List.mem_append_right _ (mem_pinsAt hb e)))).2.1
      refine wpAny_bind (wpAny_mono (hg _ _ _ _ _ _ s6 σ' H6 x u _ I6' r6 (nxt x H6 y6)) (fun _ s7 h7 => ?_) fun _ _ z => z.elim)
      obtain ⟨σ7, H7, I7, q7⟩ := h7
      refine wpAny_bind (wpAny_mono (ht _ _ _ _ _ _ s7 σ7 H7 _ I7 q7) (fun ok s8 h8 => ?_) fun _ _ z => z.elim)
      obtain ⟨H8, I8, q8⟩ := h8
      cases ok with
      | false =>
        simp only [Bool.false_eq_true, if_false] at q8 ⊢
        obtain ⟨m', lt, w8⟩ := q8
        exact wpAny_pure ⟨rfl, back I8 lt w8⟩
      | true =>
        simp only [if_true] at q8 ⊢
        refine wpAny_bind (wpAny_bind (wpAny_mono (he _ _ _ _ _ _ s8 σ7 H8 _ I8 q8) (fun y s9 h9 => ?_) fun _ _ z => z.elim))
        obtain ⟨yv, H9, I9, r9, ys, d9, l9, m', lt, w9⟩ := h9
        refine wpAny_bind (wpAny_mono (mt_append (X := inCx X N' scope cl s3.heap.objs.size fp s3 (upd H2 s2.heap.objs.size (.lst []))) _ s9 σ7 H9 (.ref s2.heap.objs.size) [yv] _ [y] (fun v H' => H' = upd H9 s2.heap.objs.size (.lst (ys ++ [yv]))) I9 rfl (.cons r9 .nil) ⟨_, ys, yv, rfl, rfl, d9, l9, rfl⟩) (fun _ s10 h10 => ?_) fun _ _ z => z.elim)
        obtain ⟨_, H10, I10, _, e10⟩ := h10
        subst e10
        exact wpAny_pure (wpAny_pure ⟨rfl, back I10 lt w9⟩)
  exact codeAny_compStart_list loop (T.self X.A 0 s4 _ _ t4 loop)
theorem pe_comp (hc : X.calm = true) (CS : CompScope X N' scope inner) (hi : PI X tg iter wi) (hg : ∀ cl C fp s H, PG (inCx X N' scope cl C fp s H) tg g) (ht : ∀ cl C fp s H, PTs (inCx X N' scope cl C fp s H) ifs ti) (he : ∀ cl C fp s H, PE (inCx X N' scope cl C fp s H) elt te)
    (hs : ∀ x, foldedSetIterable iter X.env x = pure x := by intro _; rfl) : PE X (.ListComp elt [⟨tg, iter, ifs, 0⟩] scope pos) (tComp wi g ti te inner) := by
  intro pins s σ H Q I h
  obtain ⟨cl, hcl, c1, c2, c3⟩ := clos (env := X.env) (scope := scope) fun x hx hk => I.ok.has x.1 (CS.free x hx hk).2
  rw [eval_ListComp]
  refine wpAny_comprehension_free (use := none) rfl hs hcl CS.kind CS.loc (thn (hi pins s σ H _ I h) fun xv s1 h1 => thn h1 fun itv s2 h2 => ?_)
  obtain ⟨it, fp, tn, J, H2, rfl, I2, T, t0, f2, q⟩ := h2
  refine comp_run (RR := fun acc C => compPost (model X.prog X.w) X.A X.xe none (EP X pins σ Q) acc C) hc CS hg ht he c1 c2 c3 I2 T t0 f2 q ?_
  intro D C H' s5 m hm hq hI _
  exact ⟨m, hm, fun h' sb => ⟨.ref D, H', hI h' sb, rfl, hq⟩⟩
/-- name = [.. for ..]: the store comes ahead of the block's end -/
theorem ps_comp {i : Nat} {y : Str} {py spos : Pos} (hN : X.N.Nodup) (hc : X.calm = true) (CS : CompScope X N' scope inner) (hi : PI X tg iter wi) (hg : ∀ cl C fp s H, PG (inCx X N' scope cl C fp s H) tg g) (ht : ∀ cl C fp s H, PTs (inCx X N' scope cl C fp s H) ifs ti) (he : ∀ cl C fp s H, PE (inCx X N' scope cl C fp s H) elt te)
    (hsw : swapsWith (.ListComp elt [⟨tg, iter, ifs, 0⟩] scope pos) (some (.Name y py)) spos.line X.env = pure true := by rfl) (hy : X.N[i]? = some y := by rfl) (hx : Loc X.env.scope y := by first | exact Or.inl rfl | exact Or.inr rfl) (hf : X.fn y = true ∨ X.env.scope.names.lookup y = some .local := by first | exact .inl rfl | exact .inr rfl | assumption)
    (hs : ∀ x, foldedSetIterable iter X.env x = pure x := by intro _; rfl) : PS X (.Assign [.Name y py] (.ListComp elt [⟨tg, iter, ifs, 0⟩] scope pos) spos) (tAsg (tComp wi g ti te inner) (gName i)) := by
  intro pins s σ H D I h
  obtain ⟨cl, hcl, c1, c2, c3⟩ := clos (env := X.env) (scope := scope) fun x hx hk => I.ok.has x.1 (CS.free x hx hk).2
  rw [exec_Assign_Name_used _ _ _ _ hsw]
  refine wpAny_bind (wpAny_standAt (wpAny_bind ?_))
  show wpAny _ X.A (do let _ ← comprehension (.ListComp elt [⟨tg, iter, ifs, 0⟩] scope pos) scope X.env _ (newList []) false (eval iter X.env) (some (assign (.Name y py) X.env))) _ _ s
  refine wpAny_bind (wpAny_mono (wpAny_comprehension_free (use := some (assign (.Name y py) X.env)) (Q := fun _ s' => SP X pins D .next s') rfl hs hcl CS.kind CS.loc
    (thn (hi pins s σ H _ I h) fun xv s1 h1 => thn h1 fun itv s2 h2 => ?_)) (fun _ s' hq => wpAny_pure (wpAny_pure hq)) fun _ _ e => e)
  obtain ⟨it, fp, tn, J, H2, rfl, I2, T, t0, f2, q⟩ := h2
  refine comp_run (Q := fun v H' => gName i v σ H' D.nx) (RR := fun acc C => compPost (model X.prog X.w) X.A X.xe (some (assign (.Name y py) X.env)) (fun _ s' => SP X pins D .next s') acc C) hc CS hg ht he c1 c2 c3 I2 T t0 f2 q ?_
  intro D' C H' s5 m hm hq hI hC
  obtain ⟨z1, z2, z3, z4, z5⟩ := hC
  show wpAny _ X.A (assign (.Name y py) X.env (.ref D')) _ _ _
  have I5 := hI s5.heap (Heap.SameBut.refl ..)
  refine wpAny_assign_Name (store_ok2 (v := .ref D') I5 hN hy hx (show L2.RelV (.ref D') (Value.ref D') from rfl) (fun s6 I6 k6 => ?_) hf)
  obtain ⟨a, sb, ha⟩ := k6
  have na : C ≠ a := by
    rcases ha with ha | ha
    · rw [ha]; exact z2
    · exact (z4 y a ha).symm
  refine ⟨m, hm.sameBut sb na, fun h' sb' => ⟨_, H', ?_, hq⟩⟩
  exact I6.turned (t' := s6.toks) (fun b o nb e => by rw [sb'.2 b nb]; exact e) z1 z2 (.inr z3) z4 z5
end
end CL

namespace DL
open PySem PySem.Spec PySem.SeqAt PyProof.Rows L2 CL

/-! ### comprehensions over data -/
def inRho (inner : List (Option Nat)) (ρ : Rho) : Rho := inner.map fun o => match o with
  | some j => match ρ[j]? with
    | some (.dat d) => .dat d
    | _ => .no
  | none => .no
def compN (s : D → Rho → Option Rho) (t : Rho → Option Bool) (ge : Rho → Option D) : List D → Rho → Option (List D)
  | [], _ => some []
  | d :: ds, ρ => (s d ρ).bind fun ρ1 => (t ρ1).bind fun b => if b = true then (ge ρ1).bind fun y => (compN s t ge ds ρ1).bind fun r => some (y :: r) else compN s t ge ds ρ1
def eComp (gi : Rho → Option (List D)) (s : D → Rho → Option Rho) (t : Rho → Option Bool) (ge : Rho → Option D) (inner : List (Option Nat)) : Rho → Option (List D) :=
  fun ρ => (gi ρ).bind fun xs => (compN s t ge xs (inRho inner ρ)).bind fun out => if out.length ≤ 1000 then some out else none
def eLc (g : Rho → Option (List D)) : Rho → Option D := fun ρ => (g ρ).bind fun out => some (.list out)
def eT : Rho → Option Bool := fun _ => some true
/-- no slot is held by the frame alone -/
def Plain (ρ : Rho) : Prop := ∀ (i : Nat) (ds : List D), ρ[i]? ≠ some (.own ds)
def KeepsPlain (s : D → Rho → Option Rho) : Prop := ∀ d ρ ρ', Plain ρ → s d ρ = some ρ' → Plain ρ'
def KeepsPlains (s : List D → Rho → Option Rho) : Prop := ∀ ds ρ ρ', Plain ρ → s ds ρ = some ρ' → Plain ρ'
theorem plain_set {ρ : Rho} {i : Nat} {d : D} (h : Plain ρ) : Plain (ρ.set i (.dat d)) := fun j ds e => by
  by_cases c : i = j
  · subst c
    by_cases l : i < ρ.length
    · rw [List.getElem?_set_self l] at e; cases e
    · rw [List.getElem?_eq_none (by simpa using Nat.le_of_not_lt l)] at e; cases e
  · rw [List.getElem?_set_ne c] at e; exact h j ds e
theorem kp_name (i : Nat) : KeepsPlain (uName i) := fun d ρ ρ' h e => by cases e; exact plain_set h
theorem kp_nil : KeepsPlains uNil := fun ds ρ ρ' h e => by
  cases ds with
  | nil => cases e; exact h
  | cons _ _ => cases e
theorem kp_cons {s1 : D → Rho → Option Rho} {s2 : List D → Rho → Option Rho} (h1 : KeepsPlain s1) (h2 : KeepsPlains s2) : KeepsPlains (uCons s1 s2) := fun ds ρ ρ' h e => by
  cases ds with
  | nil => cases e
  | cons d ds =>
    obtain ⟨ρ1, e1, e⟩ := bnd e
    exact h2 ds ρ1 ρ' (h1 d ρ ρ1 h e1) e
theorem kp_tup {n : Nat} {s : List D → Rho → Option Rho} (h1 : KeepsPlains s) : KeepsPlain (uTup n s) := fun d ρ ρ' h e => by
  cases d with
  | tuple ds =>
    have e' : (if ds.length = n then s ds ρ else none) = some ρ' := e
    by_cases c : ds.length = n
    · rw [if_pos c] at e'; exact h1 ds ρ ρ' h e'
    · rw [if_neg c] at e'; cases e'
  | _ => cases e
theorem plain_in (inner : List (Option Nat)) (ρ : Rho) : Plain (inRho inner ρ) := fun i ds e => by
  unfold inRho at e
  rw [List.getElem?_map] at e
  cases q : inner[i]? with
  | none => rw [q] at e; cases e
  | some o =>
    rw [q] at e
    cases o with
    | none => cases e
    | some j =>
      have e' : (match ρ[j]? with | some (.dat d) => Sl.dat d | _ => Sl.no) = .own ds := Option.some.inj e
      split at e' <;> cases e'
theorem stay_upd {K : PySem.W.Frag} {F : Addr → Prop} {H : Hp} {p : Addr} {vs us : List V} (hp : H p = some (.lst vs)) (hf : ¬ F p) : Stay K F F H (upd H p (.lst us)) :=
  ⟨fun _ h => h, fun a xs h => by
    rcases h with (h | ⟨o, h⟩) | h
    · exact .inl (.inl (by rw [upd_ne (by intro z; subst z; rw [hp] at h; cases h)]; exact h))
    · exact .inl (.inr ⟨o, by rw [upd_ne (by intro z; subst z; rw [hp] at h; cases h)]; exact h⟩)
    · exact .inr h, fun a xs f h => by
    have na : a ≠ p := fun z => hf (by rw [← z]; exact f)
    rcases h with h | ⟨o, h⟩
    · exact .inl (by rw [upd_ne na]; exact h)
    · exact .inr ⟨o, by rw [upd_ne na]; exact h⟩⟩
theorem StOk.plain {K : PySem.W.Frag} {F F' : Addr → Prop} {H H' H₀ H₁ : Hp} {σ : L2.St} {ρ : Rho} (S : StOk K F H H₀ σ ρ) (pl : Plain ρ) (T : Stay K F F' H H') (z : ∀ a, F' a → H' a ≠ none) : StOk K F' H' H₁ σ ρ :=
  ⟨S.len, fun i s h => by
    obtain ⟨o, q, w⟩ := S.sl i s h
    refine ⟨o, q, ?_⟩
    cases s with
    | no => trivial
    | dat d => obtain ⟨v, e, r⟩ := w; exact ⟨v, e, r.stay T⟩
    | own ds => exact absurd h (pl i ds), fun i j a ds es _ h1 => absurd h1 (pl i ds), z⟩
theorem StOk.inner {K : PySem.W.Frag} {F : Addr → Prop} {H H₀ : Hp} {σ : L2.St} {ρ : Rho} (S : StOk K F H H₀ σ ρ) (inner : List (Option Nat)) : StOk K F H H₀ (inSt inner σ) (inRho inner ρ) :=
  ⟨by simp [inSt, inRho], fun i s h => by
    unfold inRho at h
    unfold inSt
    rw [List.getElem?_map] at h ⊢
    cases q : inner[i]? with
    | none => rw [q] at h; cases h
    | some o =>
      rw [q] at h
      cases o with
      | none => cases h; exact ⟨none, rfl, trivial⟩
      | some j =>
        have h' : (match ρ[j]? with | some (.dat d) => Sl.dat d | _ => Sl.no) = s := Option.some.inj h
        split at h'
        · rename_i d e
          cases h'
          obtain ⟨v, e2, r⟩ := S.dat e
          exact ⟨some v, by simp [e2], v, rfl, r⟩
        · cases h'
          exact ⟨_, rfl, trivial⟩, fun i j a ds es _ h1 => absurd h1 (plain_in inner ρ i ds), S.fz⟩
def DTs (X : Cx) (ifs : List Expr) (t : Rho → Option Bool) : Prop := PTs X ifs (tDT X.K t)
theorem dts_nil {X : Cx} : DTs X [] eT := fun pins s σ H Q I ⟨F, H₀, ρ, b, S, q, k⟩ => by
  cases q
  exact wpAny_tests_nil ⟨H, I, k F H (Ext.refl F H)⟩
theorem dts_one {X : Cx} {c : Expr} {t : Rho → Option Bool} (h : DT X c t) : DTs X [c] t := pts_one h
section
variable {X : Cx} {elt tg iter : Expr} {ifs : List Expr} {scope : Scope} {pos : Pos} {N' : List Str} {inner : List (Option Nat)} {gi : Rho → Option (List D)} {s : D → Rho → Option Rho} {t : Rho → Option Bool} {ge : Rho → Option D}
/-- what the layer's reading of a comprehension wants, from data; fin: the new list at D, tracked, not frozen -/
theorem comp_data (kp : KeepsPlain s) {σ : L2.St} {H : Hp} {Q : VK} {F : Addr → Prop} {H₀ : Hp} {ρ : Rho} {out : List D} (S : StOk X.K F H H₀ σ ρ) (q : eComp gi s t ge inner ρ = some out)
    (fin : ∀ F' H' D' vs, Ext F F' H H' → Stay X.K F F' H H' → H D' = none → H' D' = some (.lst vs) → ¬ F' D' → Reps X.K F' H' out vs → StOk X.K F' H' H₀ σ ρ → Q (.ref D') H') :
    tComp (tDI X.K gi) (tDG X.K s) (tDT X.K t) (tD X.K ge) inner σ H Q := by
  obtain ⟨xs, e1, q⟩ := bnd q
  obtain ⟨out', e2, q⟩ := bnd q
  by_cases hl : out'.length ≤ 1000
  · rw [if_pos hl] at q
    cases q
    refine ⟨F, H₀, ρ, xs, S, e1, fun F1 H1 J E1 I1 D' hD => ?_⟩
    have S1 := S.ext E1
    refine ⟨fun i m σ' H' => ∃ F2 ρ2 vs don rst, m = xs.length - i ∧ i ≤ xs.length ∧ Ext F1 F2 H1 H' ∧ Stay X.K F1 F2 H1 H' ∧ StOk X.K F2 H' H1 σ' ρ2 ∧ Plain ρ2 ∧ H' D' = some (.lst vs) ∧ ¬ F2 D' ∧ Reps X.K F2 H' don vs ∧ compN s t ge (xs.drop i) ρ2 = some rst ∧ don ++ rst = out ∧
        (∀ b o, b ≠ D' → H1 b = some o → H' b = some o), ?_, ?_⟩
    · have E2 : Ext F1 F1 H1 (upd H1 D' (.lst [])) := Ext.fresh hD
      refine ⟨xs.length, F1, inRho inner ρ, [], [], out, by simp, Nat.zero_le _, E2, E2.stay, ?_, plain_in inner ρ, upd_same, fun f => S1.fz _ f hD, .nil, by simpa using e2, rfl, fun b o nb e => by rw [upd_ne nb]; exact e⟩
      exact (S1.inner inner).plain (plain_in inner ρ) E2.stay (E2.fz S1.fz)
    · rintro i m σ' H' ⟨F2, ρ2, vs, don, rst, rfl, hi, E2, T2, S2, pl, dD, nf, rd, ec, eo, kp2⟩
      obtain ⟨it1, it2⟩ := I1 F2 H' T2 S2.fz i
      by_cases hlt : i < xs.length
      · right
        have hget : xs[i]? = some xs[i] := by simp [hlt]
        obtain ⟨go, yld⟩ := it1 _ hget
        rw [List.drop_eq_getElem_cons hlt] at ec
        obtain ⟨ρ3, e3, ec⟩ := bnd ec
        obtain ⟨b, e4, ec⟩ := bnd ec
        refine ⟨go, fun x H3 y => ?_⟩
        obtain ⟨F3, E3, R3⟩ := yld x H3 y
        have pl3 := kp _ _ _ pl e3
        refine ⟨F3, H1, ρ2, xs[i], ρ3, S2.ext E3, R3, e3, fun σ5 S5 => ⟨F3, H1, ρ3, b, S5, e4, fun F6 H6 E6 => ?_⟩⟩
        have S6 := S5.ext E6
        have E36 := E3.trans E6
        have d6 : H6 D' = some (.lst vs) := E36.same _ _ dD
        have nf6 : ¬ F6 D' := fun f => by
          rcases E36.new _ f with f | ⟨f, _⟩
          · exact nf f
          · rw [dD] at f; cases f
        cases b with
        | false =>
          simp only [Bool.false_eq_true, if_false] at ec ⊢
          exact ⟨xs.length - (i + 1), by omega, F6, ρ3, vs, don, rst, rfl, hlt, E2.trans E36, T2.trans E36.stay, S6, pl3, d6, nf6, rd.stay E36.stay, ec, eo, fun b o nb e => E36.same _ _ (kp2 b o nb e)⟩
        | true =>
          simp only [if_true] at ec ⊢
          obtain ⟨yd, e5, ec⟩ := bnd ec
          obtain ⟨r', e6, ec⟩ := bnd ec
          cases ec
          refine ⟨F6, H1, ρ3, yd, S6, e5, fun F7 H7 yv E7 R7 => ?_⟩
          have E37 := E36.trans E7
          have d7 : H7 D' = some (.lst vs) := E37.same _ _ dD
          have nf7 : ¬ F7 D' := fun f => by
            rcases E37.new _ f with f | ⟨f, _⟩
            · exact nf f
            · rw [dD] at f; cases f
          have T8 : Stay X.K F7 F7 H7 (upd H7 D' (.lst (vs ++ [yv]))) := stay_upd d7 nf7
          have S7 := S6.ext E7
          have E8 : Ext F1 F7 H1 (upd H7 D' (.lst (vs ++ [yv]))) := (E2.trans E37).turn hD
          have ll : vs.length < 1000 := by
            have h1 := rd.length
            have h2 := congrArg List.length eo
            rw [List.length_append, List.length_cons] at h2
            omega
          refine ⟨vs, d7, small1000 (Nat.le_of_lt ll), xs.length - (i + 1), by omega, F7, ρ3, vs ++ [yv], don ++ [yd], r', rfl, hlt, E8, (T2.trans E37.stay).trans T8, S7.plain pl3 T8 (E8.fz S1.fz), pl3, upd_same, nf7, ?_, e6, by rw [List.append_assoc]; exact eo, fun b o nb e => ?_⟩
          · exact ((rd.stay E37.stay).append (.cons R7 .nil)).stay T8
          · rw [upd_ne nb]; exact E37.same _ _ (kp2 b o nb e)
      · left
        have hge : xs.length ≤ i := Nat.le_of_not_lt hlt
        refine ⟨it2 hge, ?_⟩
        rw [List.drop_eq_nil_of_le hge] at ec
        cases ec
        rw [List.append_nil] at eo
        subst eo
        have hH : H D' = none := E1.same.free hD
        have EE : Ext F F2 H H' := E1.trans E2
        exact fin F2 H' D' vs EE (E1.stay.trans T2) hH dD nf rd (S.ext EE)
  · rw [if_neg hl] at q; cases q
theorem de_comp (hc : X.calm = true) (CS : CompScope X N' scope inner) (kp : KeepsPlain s) (hi : DI X tg iter gi) (hg : ∀ cl C fp s' H, DG (inCx X N' scope cl C fp s' H) tg s) (ht : ∀ cl C fp s' H, DTs (inCx X N' scope cl C fp s' H) ifs t) (he : ∀ cl C fp s' H, DE (inCx X N' scope cl C fp s' H) elt ge)
    (hs : ∀ x, foldedSetIterable iter X.env x = pure x := by intro _; rfl) : DE X (.ListComp elt [⟨tg, iter, ifs, 0⟩] scope pos) (eLc (eComp gi s t ge inner)) :=
  pe_mono (pe_comp (g := tDG X.K s) (ti := tDT X.K t) (te := tD X.K ge) hc CS hi (fun cl C fp s' H => hg cl C fp s' H) (fun cl C fp s' H => ht cl C fp s' H) (fun cl C fp s' H => he cl C fp s' H) hs) fun σ H Q ⟨F, H₀, ρ, d, S, q, k⟩ => by
    obtain ⟨out, e1, q⟩ := bnd q
    cases q
    refine comp_data kp S e1 fun F' H' D' vs E' T' h1 h2 h3 h4 h5 => ?_
    refine k (fun a => F' a ∨ a = D') H' _ ⟨E'.same, fun a f => .inl (E'.up a f), fun a f => ?_⟩ (.lst (.inl ⟨.inr rfl, .inl h2⟩) (h4.stay ⟨fun _ f => .inl f, fun _ _ f => f, fun _ _ _ f => f⟩))
    rcases f with f | rfl
    · exact E'.new a f
    · exact .inr ⟨h1, by rw [h2]; simp⟩
/-- name = [.. for ..] -/
theorem ds_comp {i : Nat} {y : Str} {py spos : Pos} (hN : X.N.Nodup) (hc : X.calm = true) (CS : CompScope X N' scope inner) (kp : KeepsPlain s) (hi : DI X tg iter gi) (hg : ∀ cl C fp s' H, DG (inCx X N' scope cl C fp s' H) tg s) (ht : ∀ cl C fp s' H, DTs (inCx X N' scope cl C fp s' H) ifs t) (he : ∀ cl C fp s' H, DE (inCx X N' scope cl C fp s' H) elt ge)
    (hsw : swapsWith (.ListComp elt [⟨tg, iter, ifs, 0⟩] scope pos) (some (.Name y py)) spos.line X.env = pure true := by rfl) (hy : X.N[i]? = some y := by rfl) (hx : L2.Loc X.env.scope y := by first | exact Or.inl rfl | exact Or.inr rfl) (hf : X.fn y = true ∨ X.env.scope.names.lookup y = some .local := by first | exact .inl rfl | exact .inr rfl | assumption)
    (hs : ∀ x, foldedSetIterable iter X.env x = pure x := by intro _; rfl) : DS X (.Assign [.Name y py] (.ListComp elt [⟨tg, iter, ifs, 0⟩] scope pos) spos) (sSet i (eLc (eComp gi s t ge inner))) :=
  ps_mono (ps_comp (g := tDG X.K s) (ti := tDT X.K t) (te := tD X.K ge) hN hc CS hi (fun cl C fp s' H => hg cl C fp s' H) (fun cl C fp s' H => ht cl C fp s' H) (fun cl C fp s' H => he cl C fp s' H) hsw hy hx hf hs) fun W σ H ⟨F₀, H₀, F, ρ, o, E, S, q, k⟩ => by
    obtain ⟨d, e1, q⟩ := bnd q
    cases q
    obtain ⟨out, e2, q⟩ := bnd e1
    cases q
    refine comp_data kp S e2 fun F' H' D' vs E' T' h1 h2 h3 h4 h5 => ?_
    have T9 : Stay X.K F' (fun a => F' a ∨ a = D') H' H' := ⟨fun _ f => .inl f, fun _ _ f => f, fun _ _ _ f => f⟩
    have E9 : Ext F (fun a => F' a ∨ a = D') H H' := ⟨E'.same, fun a f => .inl (E'.up a f), fun a f => by
      rcases f with f | rfl
      · exact E'.new a f
      · exact .inr ⟨h1, by rw [h2]; simp⟩⟩
    exact k _ H' _ (E.trans E9) (T'.trans T9) ((S.ext E9).put (.lst (.inl ⟨.inr rfl, .inl h2⟩) (h4.stay T9)))
end
end DL

/-! sorted OF ROWS: tuples of one form, of ints and of tuples of ints -/
namespace SD
open PySem PySem.Spec PySem.SeqAt PyProof.Rows L2 DL SG

/-! ### the order of lists of ints -/
theorem lex_irrefl : ∀ a : List Int, HT.lexLt a a = false
  | [] => rfl
  | x :: xs => by rw [HT.lexLt_cons, if_pos rfl]; exact lex_irrefl xs
theorem lex_trans : ∀ a b c : List Int, HT.lexLt a b = true → HT.lexLt b c = true → HT.lexLt a c = true
  | [], b, [], h1, h2 => by cases b with | nil => cases h1 | cons _ _ => cases h2
  | [], _, _ :: _, _, _ => rfl
  | _ :: _, [], _, h1, _ => by cases h1
  | _ :: _, _ :: _, [], _, h2 => by cases h2
  | x :: xs, y :: ys, z :: zs, h1, h2 => by
    rw [HT.lexLt_cons] at h1 h2 ⊢
    by_cases c1 : x = y
    · subst c1
      rw [if_pos rfl] at h1
      by_cases c2 : x = z
      · subst c2
        rw [if_pos rfl] at h2 ⊢
        exact lex_trans xs ys zs h1 h2
      · rw [if_neg c2] at h2 ⊢; exact h2
    · rw [if_neg c1] at h1
      have g1 : x < y := of_decide_eq_true h1
      by_cases c2 : y = z
      · subst c2
        rw [if_neg c1]; exact decide_eq_true g1
      · rw [if_neg c2] at h2
        have g2 : y < z := of_decide_eq_true h2
        rw [if_neg (by omega)]
        exact decide_eq_true (by omega)
theorem lex_total : ∀ a b : List Int, HT.lexLt a b = false → HT.lexLt b a = false → a = b
  | [], [], _, _ => rfl
  | [], _ :: _, h1, _ => by cases h1
  | _ :: _, [], _, h2 => by cases h2
  | x :: xs, y :: ys, h1, h2 => by
    rw [HT.lexLt_cons] at h1 h2
    by_cases c : x = y
    · subst c
      rw [if_pos rfl] at h1 h2
      rw [lex_total xs ys h1 h2]
    · rw [if_neg c] at h1
      rw [if_neg (Ne.symm c)] at h2
      have g1 : ¬ x < y := of_decide_eq_false h1
      have g2 : ¬ y < x := of_decide_eq_false h2
      omega
theorem lex_neg (a b c : List Int) (h : HT.lexLt a c = true) : HT.lexLt a b = true ∨ HT.lexLt b c = true := by
  cases e1 : HT.lexLt a b with
  | true => exact .inl rfl
  | false =>
    right
    cases e2 : HT.lexLt b a with
    | false => rw [← lex_total a b e1 e2]; exact h
    | true => exact lex_trans b a c e2 h
theorem lex_app : ∀ (a b c d : List Int), a.length = b.length → HT.lexLt (a ++ c) (b ++ d) = if a = b then HT.lexLt c d else HT.lexLt a b
  | [], [], c, d, _ => by simp
  | [], _ :: _, _, _, h => by simp at h
  | _ :: _, [], _, _, h => by simp at h
  | x :: xs, y :: ys, c, d, h => by
    rw [List.cons_append, List.cons_append, HT.lexLt_cons]
    have ih := lex_app xs ys c d (by simpa using h)
    by_cases e : x = y
    · subst e
      rw [if_pos rfl, ih, HT.lexLt_cons, if_pos rfl]
      simp
    · rw [if_neg e, if_neg (by simp [e]), HT.lexLt_cons, if_neg e]
/-- keys by a table of values -/
def keyT (tab : List (Value × List Int)) : PyProof.Rows.KeyKind where
  α := List Int
  blt := HT.lexLt
  irrefl := lex_irrefl
  trans := lex_trans
  negTrans := lex_neg
  total := lex_total
  keyOf := fun v => tab.lookup v
  dflt := []

/-! ### rows -/
def likeE : D → D → Bool
  | .int _, .int _ => true
  | .tuple xs, .tuple ys => decide (xs.length = ys.length)
  | _, _ => false
def likeEs : List D → List D → Bool
  | [], [] => true
  | x :: xs, y :: ys => likeE x y && likeEs xs ys
  | _, _ => false
def flatE : D → Option (List Int)
  | .int i => some [i]
  | .tuple ds => intsD ds
  | _ => none
def flatEs : List D → Option (List Int)
  | [] => some []
  | d :: ds => (flatE d).bind fun a => (flatEs ds).bind fun b => some (a ++ b)
theorem likeE_join {d x y : D} (h1 : likeE d x = true) (h2 : likeE d y = true) : likeE x y = true := by
  cases d with
  | int i =>
    cases x with
    | int _ => cases y with
      | int _ => rfl
      | _ => cases h2
    | _ => cases h1
  | tuple ds =>
    cases x with
    | tuple xs => cases y with
      | tuple ys =>
        have a : ds.length = xs.length := of_decide_eq_true h1
        have b : ds.length = ys.length := of_decide_eq_true h2
        exact decide_eq_true (a.symm.trans b)
      | _ => cases h2
    | _ => cases h1
  | _ => cases x <;> cases h1
theorem likeEs_join : ∀ {d x y : List D}, likeEs d x = true → likeEs d y = true → likeEs x y = true
  | [], [], [], _, _ => rfl
  | [], [], _ :: _, _, h => by cases h
  | [], _ :: _, _, h, _ => by cases h
  | _ :: _, [], _, h, _ => by cases h
  | _ :: _, _ :: _, [], _, h => by cases h
  | d :: ds, x :: xs, y :: ys, h1, h2 => by
    have a := Bool.and_eq_true_iff.mp h1
    have b := Bool.and_eq_true_iff.mp h2
    exact Bool.and_eq_true_iff.mpr ⟨likeE_join a.1 b.1, likeEs_join a.2 b.2⟩
theorem ints_eqv : ∀ {xs ys : List D} {a b : List Int}, intsD xs = some a → intsD ys = some b → PyData.eqvAll xs ys = decide (a = b)
  | [], [], _, _, h1, h2 => by cases h1; cases h2; rfl
  | [], .int _ :: _, _, _, h1, h2 => by
    cases h1
    obtain ⟨_, _, h2⟩ := bnd h2
    cases h2
    simp [PyData.eqvAll]
  | .int _ :: _, [], _, _, h1, h2 => by
    cases h2
    obtain ⟨_, _, h1⟩ := bnd h1
    cases h1
    simp [PyData.eqvAll]
  | .int i :: xs, .int j :: ys, _, _, h1, h2 => by
    obtain ⟨a, e1, h1⟩ := bnd h1
    obtain ⟨b, e2, h2⟩ := bnd h2
    cases h1; cases h2
    rw [PyData.eqvAll, ints_eqv e1 e2]
    simp [PyData.eqv]
    by_cases c : i = j <;> simp [c]
  | .none :: _, _, _, _, h1, _ => by cases h1
  | .bool _ :: _, _, _, _, h1, _ => by cases h1
  | .str _ :: _, _, _, _, h1, _ => by cases h1
  | .list _ :: _, _, _, _, h1, _ => by cases h1
  | .tuple _ :: _, _, _, _, h1, _ => by cases h1
  | .dict _ :: _, _, _, _, h1, _ => by cases h1
  | _, .none :: _, _, _, _, h2 => by cases h2
  | _, .bool _ :: _, _, _, _, h2 => by cases h2
  | _, .str _ :: _, _, _, _, h2 => by cases h2
  | _, .list _ :: _, _, _, _, h2 => by cases h2
  | _, .tuple _ :: _, _, _, _, h2 => by cases h2
  | _, .dict _ :: _, _, _, _, h2 => by cases h2
theorem ints_lay : ∀ {xs : List D} {a : List Int}, intsD xs = some a → PyData.canLayAll0 xs = true ∧ PyData.depthAll xs = 0 ∧ xs.length = a.length ∧ xs = a.map PyData.int
  | [], _, h => by cases h; exact ⟨rfl, rfl, rfl, rfl⟩
  | .int i :: xs, _, h => by
    obtain ⟨a, e, h⟩ := bnd h
    cases h
    obtain ⟨h1, h2, h3, h4⟩ := ints_lay e
    exact ⟨by simp [PyData.canLayAll0, PyData.canLay0, h1], by simp [PyData.depthAll, PyData.depth, h2], by simp [h3], by rw [h4]; rfl⟩
  | .none :: _, _, h => by cases h
  | .bool _ :: _, _, h => by cases h
  | .str _ :: _, _, h => by cases h
  | .list _ :: _, _, h => by cases h
  | .tuple _ :: _, _, h => by cases h
  | .dict _ :: _, _, h => by cases h
theorem ints_are {h : Heap} : ∀ {xs : List D} {a : List Int} {us : List Value} {as : List Addr}, intsD xs = some a → ReadsAll h us xs as → IntsAre us a
  | [], _, _, _, e, r => by cases e; cases r; exact .nil
  | .int i :: xs, _, _, _, e, r => by
    obtain ⟨a, e1, e⟩ := bnd e
    cases e
    cases r with
    | cons r1 r2 =>
      cases r1
      exact .cons i _ (ints_are e1 r2)
  | .none :: _, _, _, _, h, _ => by cases h
  | .bool _ :: _, _, _, _, h, _ => by cases h
  | .str _ :: _, _, _, _, h, _ => by cases h
  | .list _ :: _, _, _, _, h, _ => by cases h
  | .tuple _ :: _, _, _, _, h, _ => by cases h
  | .dict _ :: _, _, _, _, h, _ => by cases h
section
variable {prog : Program} {w : World} {A : Around} {E : Value → Shared → Prop} {s : Shared}
theorem flat_len {x y : D} {a b : List Int} (l : likeE x y = true) (fx : flatE x = some a) (fy : flatE y = some b) : a.length = b.length := by
  cases x with
  | int i => cases y with
    | int j => cases fx; cases fy; rfl
    | _ => cases l
  | tuple xs => cases y with
    | tuple ys =>
      have e : xs.length = ys.length := of_decide_eq_true l
      rw [← (ints_lay (show intsD xs = some a from fx)).2.2.1, ← (ints_lay (show intsD ys = some b from fy)).2.2.1, e]
    | _ => cases l
  | _ => cases y <;> cases l
theorem el_eq {x y : D} {p q : Value} {a b : List Int} {as bs : List Addr} (hu : A.units + 64 < cLine) (rp : Reads s.heap p x as) (rq : Reads s.heap q y bs) (l : likeE x y = true) (fx : flatE x = some a) (fy : flatE y = some b) : EqAt A s p q (decide (a = b)) := by
  cases x with
  | int i => cases y with
    | int j =>
      cases fx; cases fy
      cases rp with
      | int _ t => cases rq with
        | int _ u =>
          have := EqAt.int_int (A := A) (s := s) i t j u
          have e : (i == j) = decide ([i] = [j]) := by
            by_cases c : i = j
            · subst c; simp
            · simp [c]
          rw [← e]; exact this
    | _ => cases l
  | tuple xs => cases y with
    | tuple ys =>
      have e1 : intsD xs = some a := fx
      have e2 : intsD ys = some b := fy
      obtain ⟨c1, d1, _, _⟩ := ints_lay e1
      obtain ⟨c2, d2, _, _⟩ := ints_lay e2
      have := eqAt_reads (.tuple xs) (.tuple ys) A s p q as bs rp rq c1 c2 (by show A.units + min (PyData.depthAll xs + 1) (PyData.depthAll ys + 1) < cLine; rw [d1, d2]; omega)
      have e : PyData.eqv (.tuple xs) (.tuple ys) = decide (a = b) := by rw [PyData.eqv]; exact ints_eqv e1 e2
      rw [e] at this
      exact this
    | _ => cases l
  | _ => cases y <;> cases l
theorem truth_bool {b : Bool} {Q : Bool → Shared → Prop} (h : Q b s) : wpAny (model prog w) A (truthOfDropped (.bool b)) Q E s := by
  unfold truthOfDropped
  exact wpAny_truthy_bool h
theorem el_lt {x y : D} {p q : Value} {a b : List Int} {as bs : List Addr} {f : Bool} {Q : Bool → Shared → Prop} (hu : A.units + 64 < cLine) (rp : Reads s.heap p x as) (rq : Reads s.heap q y bs) (l : likeE x y = true) (fx : flatE x = some a) (fy : flatE y = some b)
    (hf : f = true → ∃ i, x = .int i) (k : Q (HT.lexLt a b) s) (ne : a ≠ b) : wpAny (model prog w) A (oneLt' f p q) Q E s := by
  cases x with
  | int i => cases y with
    | int j =>
      cases fx; cases fy; cases rp; cases rq
      have e : HT.lexLt [i] [j] = decide (i < j) := by
        rw [HT.lexLt_cons, if_neg (by intro z; exact ne (by rw [z]))]
      rw [e] at k
      cases f with
      | true => exact oneLt_int k
      | false =>
        rw [oneLt'_eq]
        simp only [Bool.false_eq_true, if_false]
        refine wpAny_bind (HT.rcLt_int A s i _ j _ prog w E _ (truth_bool k))
    | _ => cases l
  | tuple xs =>
    cases f with
    | true => obtain ⟨i, hi⟩ := hf rfl; cases hi
    | false => cases y with
      | tuple ys =>
        have e1 : intsD xs = some a := fx
        have e2 : intsD ys = some b := fy
        cases rp with
        | tuple h1 h2 h3 h4 => cases rq with
          | tuple g1 g2 g3 g4 =>
            rw [oneLt'_eq]
            simp only [Bool.false_eq_true, if_false]
            exact wpAny_bind (HT.lt_tupInts ⟨_, h1, h2, _, h3⟩ ⟨_, g1, g2, _, g3⟩ (ints_are e1 h4) (ints_are e2 g4) (by omega) (truth_bool k))
      | _ => cases l
  | _ => cases y <;> cases l
/-- the rows' items, one after another -/
theorem row_lex {b : Bool} {fin : Bool} {Q : Bool → Shared → Prop} (hu : A.units + 64 < cLine) : ∀ {xs ys : List D} {a c : List Int} {us vs : List Value} {as bs : List Addr} (i : Nat), likeEs xs ys = true → flatEs xs = some a → flatEs ys = some c → ReadsAll s.heap us xs as → ReadsAll s.heap vs ys bs →
    (b = true → i = 0 → ∀ x r, xs = x :: r → ∃ n, x = .int n) → (a = c → Q fin s) → (a ≠ c → Q (HT.lexLt a c) s) → PySem.W.KatLex prog w A b fin Q (us.zip vs) i s
  | [], [], _, _, _, _, _, _, i, _, f1, f2, r1, r2, _, k1, k2 => by
    cases f1; cases f2; cases r1; cases r2
    exact PySem.W.kat_nil (k1 rfl)
  | [], _ :: _, _, _, _, _, _, _, _, l, _, _, _, _, _, _, _ => by cases l
  | _ :: _, [], _, _, _, _, _, _, _, l, _, _, _, _, _, _, _ => by cases l
  | x :: xs, y :: ys, _, _, _, _, _, _, i, l, f1, f2, r1, r2, hb, k1, k2 => by
    obtain ⟨a1, e1, f1⟩ := bnd f1
    obtain ⟨a2, e2, f1⟩ := bnd f1
    cases f1
    obtain ⟨c1, e3, f2⟩ := bnd f2
    obtain ⟨c2, e4, f2⟩ := bnd f2
    cases f2
    obtain ⟨l1, l2⟩ := Bool.and_eq_true_iff.mp l
    have hlen := flat_len l1 e1 e3
    cases r1 with
    | cons p1 p2 => cases r2 with
      | cons q1 q2 =>
        rw [List.zip_cons_cons]
        refine PySem.W.kat_cons (el_eq hu p1 q1 l1 e1 e3 prog w _ _ ?_)
        by_cases c : a1 = c1
        · rw [decide_eq_true c]
          subst c
          refine PySem.W.kat_yes (row_lex hu (i + 1) l2 e2 e4 p2 q2 (fun _ h => by omega) (fun e => k1 (by rw [e])) fun e => ?_)
          have := k2 (fun z => e (List.append_cancel_left z))
          rw [lex_app _ _ _ _ rfl, if_pos rfl] at this
          exact this
        · rw [decide_eq_false c]
          refine PySem.W.kat_no (el_lt hu p1 q1 l1 e1 e3 (fun hf => ?_) ?_ c)
          · obtain ⟨g1, g2⟩ := Bool.and_eq_true_iff.mp hf
            exact hb g1 (by simpa using g2) x xs rfl
          · have ne : a1 ++ a2 ≠ c1 ++ c2 := fun z => c (List.append_inj_left z hlen)
            have := k2 ne
            rw [lex_app _ _ _ _ hlen, if_neg c] at this
            exact this
/-! ### the kind of the keys -/
theorem mapM_wp {α : Type} {f : Value → Sem α} {g : Value → α} : ∀ {vs : List Value} {Q : List α → Shared → Prop}, (∀ v ∈ vs, ∀ (R : α → Shared → Prop), R (g v) s → wpAny (model prog w) A (f v) R E s) → Q (vs.map g) s → wpAny (model prog w) A (vs.mapM f) Q E s
  | [], _, _, k => by rw [List.mapM_nil]; exact wpAny_pure k
  | v :: vs, Q, h, k => by
    rw [List.mapM_cons]
    refine wpAny_bind (h v List.mem_cons_self _ (wpAny_bind (mapM_wp (fun u hu => h u (List.mem_cons_of_mem _ hu)) (wpAny_pure k))))
/-- what stands first in a row -/
def isInt : D → Bool
  | .int _ => true
  | _ => false
def firstV (h : Heap) : Value → Option Value
  | .ref a => match h.get? a with
    | some o => match o.data with
      | .seq xs _ => xs[0]?
      | _ => none
    | none => none
  | _ => none
def tyE : Value → Value
  | .ref _ => .type "tuple"
  | _ => .type "int"
theorem first_eq (v : Value) : firstOfTuple' v = (typeOf v >>= fun t => if (t != .type "tuple") = true then pure none else Builtin.List.listItems v >>= fun xs => pure xs[0]?) := by
  unfold firstOfTuple'
  rfl
theorem kind_rows {vs : List Value} {bi : Bool} {d : D} (hd : isInt d = bi) (hR : ∀ v ∈ vs, ∃ x xs as, Reads s.heap v (.tuple (x :: xs)) as ∧ likeE d x = true) (hne : vs ≠ []) :
    wpAny (model prog w) A (keyKind' vs.toArray) (fun q s' => q = tuples' bi ∧ s' = s) E s := by
  rw [keyKind'_eq, List.mapM_toArray, map_eq_pure_bind]
  refine wpAny_bind (wpAny_bind (mapM_wp (g := fun v => firstV s.heap v) (fun v hv R hR' => ?_) (wpAny_pure ?_)))
  · obtain ⟨x, xs, as, r, _⟩ := hR v hv
    cases r with
    | @tuple a o us n _ _ h1 h2 h3 h4 =>
      rw [first_eq]
      refine wpAny_bind (wpAny_typeOf (T := "tuple") ⟨o, h1, h2⟩ ?_)
      have e : (Value.type "tuple" != Value.type "tuple") = false := by simp
      rw [if_neg (by rw [e]; simp)]
      refine wpAny_bind (listItems_at h1 h3 (wpAny_pure ?_))
      have e2 : firstV s.heap (.ref a) = us[0]? := by
        show (match s.heap.get? a with | some o => (match o.data with | .seq xs _ => xs[0]? | _ => none) | none => none) = us[0]?
        rw [h1]
        show (match o.data with | .seq xs _ => xs[0]? | _ => none) = us[0]?
        rw [h3]
      rw [e2] at hR'
      exact hR'
  · have fst : ∀ v ∈ vs, ∃ u x as, firstV s.heap v = some u ∧ Reads s.heap u x as ∧ likeE d x = true := fun v hv => by
      obtain ⟨x, xs, as, r, l⟩ := hR v hv
      cases r with
      | @tuple a o us n _ _ h1 h2 h3 h4 =>
        have e2 : firstV s.heap (.ref a) = us[0]? := by
          show (match s.heap.get? a with | some o => (match o.data with | .seq xs _ => xs[0]? | _ => none) | none => none) = us[0]?
          rw [h1]
          show (match o.data with | .seq xs _ => xs[0]? | _ => none) = us[0]?
          rw [h3]
        generalize hl : us.toList = ul at h4
        cases h4 with
        | @cons u vs' _ _ as' bs' r1 r2 =>
          refine ⟨u, x, as', ?_, r1, l⟩
          rw [e2, ← Array.getElem?_toList, hl]
          rfl
    have ty : ∀ u x as, Reads s.heap u x as → likeE d x = true → tyE u = (if bi = true then .type "int" else .type "tuple") ∧ ∀ (R : Value → Shared → Prop), R (tyE u) s → wpAny (model prog w) A (typeOf u) R E s := fun u x as r l => by
      cases d with
      | int i =>
        cases x with
        | int j => cases r; cases hd; exact ⟨rfl, fun R k => wpAny_typeOf (T := "int") (typeIs_int s _ _) k⟩
        | _ => cases l
      | tuple ds =>
        cases x with
        | tuple xs =>
          cases r with
          | tuple h1 h2 h3 h4 => cases hd; exact ⟨rfl, fun R k => wpAny_typeOf (T := "tuple") ⟨_, h1, h2⟩ k⟩
        | _ => cases l
      | _ => cases x <;> cases l
    have all : ((vs.map fun v => firstV s.heap v).toArray.all fun x => x.isSome) = true := by
      rw [List.all_toArray, List.all_map, List.all_eq_true]
      intro v hv
      obtain ⟨u, x, as, e, _⟩ := fst v hv
      simp [e]
    rw [if_pos all]
    refine wpAny_bind (wpAny_rule (wpAny_bind ?_))
    rw [oneTypeOnly'_eq]
    have ef : ((vs.map fun v => firstV s.heap v).toArray.filterMap id) = (vs.filterMap fun v => firstV s.heap v).toArray := by
      rw [List.filterMap_toArray, List.filterMap_map]
      rfl
    rw [ef, List.mapM_toArray, map_eq_pure_bind]
    have mem : ∀ u ∈ vs.filterMap (fun v => firstV s.heap v), ∃ x as, Reads s.heap u x as ∧ likeE d x = true := fun u hu => by
      obtain ⟨v, hv, e⟩ := List.mem_filterMap.mp hu
      obtain ⟨u', x, as, e', r, l⟩ := fst v hv
      rw [e] at e'; cases e'
      exact ⟨x, as, r, l⟩
    refine wpAny_bind (wpAny_bind (mapM_wp (g := tyE) (fun u hu R k => ?_) (wpAny_pure ?_)))
    · obtain ⟨x, as, r, l⟩ := mem u hu
      exact (ty u x as r l).2 R k
    · obtain ⟨v0, vs', rfl⟩ : ∃ v0 vs', vs = v0 :: vs' := by
        cases vs with
        | nil => exact absurd rfl hne
        | cons a b => exact ⟨a, b, rfl⟩
      obtain ⟨u0, x0, as0, e0, r0, l0⟩ := fst v0 List.mem_cons_self
      have em : ∀ t ∈ ((v0 :: vs').filterMap (fun v => firstV s.heap v)).map tyE, t = (if bi = true then .type "int" else .type "tuple") := fun t ht => by
        obtain ⟨u, hu, rfl⟩ := List.mem_map.mp ht
        obtain ⟨x, as, r, l⟩ := mem u hu
        exact (ty u x as r l).1
      have e1 : (((v0 :: vs').filterMap (fun v => firstV s.heap v)).map tyE).toArray[0]? = some (if bi = true then .type "int" else .type "tuple") := by
        rw [List.filterMap_cons, e0]
        simp only [List.map_cons]
        rw [(ty u0 x0 as0 r0 l0).1]
        rfl
      rw [e1]
      have e2 : ((((v0 :: vs').filterMap (fun v => firstV s.heap v)).map tyE).toArray.all fun x => x == (if bi = true then .type "int" else .type "tuple")) = true := by
        rw [List.all_toArray, List.all_eq_true]
        intro t ht
        rw [em t ht]
        simp
      dsimp only
      rw [if_pos e2]
      refine wpAny_pure (wpAny_pure ⟨?_, rfl⟩)
      cases bi <;> rfl
end
end SD

namespace SD
open PySem PySem.Spec PySem.SeqAt PyProof.Rows L2 DL SG

abbrev KD := List Int × D
def rowK (d0 : List D) : D → Option (List Int)
  | .tuple (x :: xs) => if likeEs d0 (x :: xs) = true then flatEs (x :: xs) else none
  | _ => none
def rowsK (d0 : List D) : List D → Option (List KD)
  | [] => some []
  | d :: ds => (rowK d0 d).bind fun k => (rowsK d0 ds).bind fun r => some ((k, d) :: r)
def insK (p : KD) : List KD → List KD
  | [] => [p]
  | q :: r => if HT.lexLt q.1 p.1 = true then q :: insK p r else p :: q :: r
def sortK : List KD → List KD
  | [] => []
  | p :: r => insK p (sortK r)
def dSorted : List D → Option D
  | [.list []] => some (.list [])
  | [.list (.tuple d0 :: ds)] => if ds.length < 63 then (rowsK d0 (.tuple d0 :: ds)).bind fun l => some (.list ((sortK l).map (·.2))) else none
  | _ => none

/-! ### sorted lists, by themselves -/
def Le (p q : KD) : Prop := HT.lexLt q.1 p.1 = false
theorem Le.trans {p q r : KD} (a : Le p q) (b : Le q r) : Le p r := by
  unfold Le at *
  cases e : HT.lexLt r.1 p.1 with
  | false => rfl
  | true =>
    rcases lex_neg _ q.1 _ e with h | h
    · rw [b] at h; cases h
    · rw [a] at h; cases h
theorem ins_perm (p : KD) : ∀ l : List KD, (insK p l).Perm (p :: l)
  | [] => .refl _
  | q :: r => by
    unfold insK
    split
    · exact ((ins_perm p r).cons q).trans (.swap p q r)
    · exact .refl _
theorem sort_perm : ∀ l : List KD, (sortK l).Perm l
  | [] => .refl _
  | p :: r => (ins_perm p (sortK r)).trans ((sort_perm r).cons p)
theorem ins_sorted (p : KD) : ∀ l : List KD, l.Pairwise Le → (insK p l).Pairwise Le
  | [], _ => by simp [insK]
  | q :: r, h => by
    obtain ⟨h1, h2⟩ := List.pairwise_cons.mp h
    unfold insK
    split
    · rename_i c
      refine List.pairwise_cons.mpr ⟨fun z hz => ?_, ins_sorted p r h2⟩
      rcases List.mem_cons.mp ((ins_perm p r).mem_iff.mp hz) with e | e
      · subst e
        unfold Le
        cases e2 : HT.lexLt z.1 q.1 with
        | false => rfl
        | true => have := lex_trans _ _ _ c e2; rw [lex_irrefl] at this; cases this
      · exact h1 z e
    · rename_i c
      have pq : Le p q := by simpa [Le] using c
      refine List.pairwise_cons.mpr ⟨fun z hz => ?_, h⟩
      rcases List.mem_cons.mp hz with e | e
      · rw [e]; exact pq
      · exact pq.trans (h1 z e)
theorem sort_sorted : ∀ l : List KD, (sortK l).Pairwise Le
  | [] => .nil
  | p :: r => ins_sorted p _ (sort_sorted r)
theorem sort_unique : ∀ {a b : List KD}, a.Perm b → a.Pairwise Le → b.Pairwise Le → (∀ p ∈ a, ∀ q ∈ a, p.1 = q.1 → p = q) → a = b
  | [], b, h, _, _, _ => h.nil_eq
  | x :: r, [], h, _, _, _ => absurd h.length_eq (by simp)
  | x :: r, y :: t, h, ha, hb, inj => by
    have hy : y ∈ x :: r := h.mem_iff.mpr List.mem_cons_self
    have hx : x ∈ y :: t := h.mem_iff.mp List.mem_cons_self
    have e : x = y := by
      refine inj x List.mem_cons_self y hy (lex_total _ _ ?_ ?_)
      · rcases List.mem_cons.mp hx with c | c
        · rw [c]; exact lex_irrefl _
        · exact (List.pairwise_cons.mp hb).1 x c
      · rcases List.mem_cons.mp hy with c | c
        · rw [c]; exact lex_irrefl _
        · exact (List.pairwise_cons.mp ha).1 y c
    subst e
    rw [sort_unique h.cons_inv (List.pairwise_cons.mp ha).2 (List.pairwise_cons.mp hb).2 fun p hp q hq => inj p (List.mem_cons_of_mem _ hp) q (List.mem_cons_of_mem _ hq)]
theorem perm_back {α β : Type} {f : α → β} {a b : List β} (h : a.Perm b) : ∀ l : List α, l.map f = a → ∃ l' : List α, l'.Perm l ∧ l'.map f = b := by
  induction h with
  | nil => intro l e; exact ⟨l, .refl _, e⟩
  | cons x _ ih =>
    intro l e
    cases l with
    | nil => cases e
    | cons y l =>
      rw [List.map_cons] at e
      injection e with e1 e2
      obtain ⟨l', p, q⟩ := ih l e2
      exact ⟨y :: l', p.cons y, by rw [List.map_cons, e1, q]⟩
  | swap x y r =>
    intro l e
    match l, e with
    | a :: b :: l, e =>
      rw [List.map_cons, List.map_cons] at e
      injection e with e1 e2
      injection e2 with e2 e3
      exact ⟨b :: a :: l, .swap a b l, by rw [List.map_cons, List.map_cons, e1, e2, e3]⟩
  | trans _ _ ih1 ih2 =>
    intro l e
    obtain ⟨l1, p1, q1⟩ := ih1 l e
    obtain ⟨l2, p2, q2⟩ := ih2 l1 q1
    exact ⟨l2, p2.trans p1, q2⟩
theorem flat_inj : ∀ {xs ys : List D} {a : List Int}, likeEs xs ys = true → flatEs xs = some a → flatEs ys = some a → xs = ys
  | [], [], _, _, _, _ => rfl
  | [], _ :: _, _, l, _, _ => by cases l
  | _ :: _, [], _, l, _, _ => by cases l
  | x :: xs, y :: ys, a, l, f1, f2 => by
    obtain ⟨a1, e1, f1⟩ := bnd f1
    obtain ⟨a2, e2, f1⟩ := bnd f1
    obtain ⟨c1, e3, f2⟩ := bnd f2
    obtain ⟨c2, e4, f2⟩ := bnd f2
    obtain ⟨l1, l2⟩ := Bool.and_eq_true_iff.mp l
    have hl := flat_len l1 e1 e3
    have ee : a1 ++ a2 = c1 ++ c2 := (Option.some.inj f1).trans (Option.some.inj f2).symm
    obtain ⟨g1, g2⟩ := List.append_inj ee hl
    subst g1 g2
    rw [flat_inj l2 e2 e4]
    congr 1
    cases x with
    | int i => cases y with
      | int j => cases e1; cases e3; rfl
      | _ => cases l1
    | tuple us => cases y with
      | tuple vs => rw [(ints_lay (show intsD us = some a1 from e1)).2.2.2, (ints_lay (show intsD vs = some a1 from e3)).2.2.2]
      | _ => cases l1
    | _ => cases y <;> cases l1
theorem flat_lay : ∀ {xs : List D} {a : List Int}, flatEs xs = some a → PyData.canLayAll0 xs = true
  | [], _, _ => rfl
  | x :: xs, a, f => by
    obtain ⟨a1, e1, f⟩ := bnd f
    obtain ⟨a2, e2, f⟩ := bnd f
    have h2 := flat_lay e2
    have h1 : PyData.canLay0 x = true := by
      cases x with
      | int i => rfl
      | tuple us => exact (ints_lay (show intsD us = some a1 from e1)).1
      | _ => cases e1
    simp [PyData.canLayAll0, h1, h2]
theorem row_some {d0 : List D} {d : D} {k : List Int} (h : rowK d0 d = some k) : ∃ x xs, d = .tuple (x :: xs) ∧ likeEs d0 (x :: xs) = true ∧ flatEs (x :: xs) = some k := by
  cases d with
  | tuple ds =>
    cases ds with
    | nil => cases h
    | cons x xs =>
      have h' : (if likeEs d0 (x :: xs) = true then flatEs (x :: xs) else none) = some k := h
      by_cases c : likeEs d0 (x :: xs) = true
      · rw [if_pos c] at h'; exact ⟨x, xs, rfl, c, h'⟩
      · rw [if_neg c] at h'; cases h'
  | _ => cases h
theorem row_inj {d0 : List D} {d e : D} {k : List Int} (h1 : rowK d0 d = some k) (h2 : rowK d0 e = some k) : d = e := by
  obtain ⟨x, xs, rfl, l1, f1⟩ := row_some h1
  obtain ⟨y, ys, rfl, l2, f2⟩ := row_some h2
  rw [flat_inj (likeEs_join l1 l2) f1 f2]
theorem rows_spec {d0 : List D} : ∀ {ds : List D} {l : List KD}, rowsK d0 ds = some l → l.map (·.2) = ds ∧ ∀ p ∈ l, rowK d0 p.2 = some p.1
  | [], _, h => by cases h; exact ⟨rfl, fun p hp => nomatch hp⟩
  | d :: ds, _, h => by
    obtain ⟨k, e1, h⟩ := bnd h
    obtain ⟨r, e2, h⟩ := bnd h
    cases h
    obtain ⟨h1, h2⟩ := rows_spec e2
    refine ⟨by rw [List.map_cons, h1], fun p hp => ?_⟩
    rcases List.mem_cons.mp hp with e | e
    · rw [e]; exact e1
    · exact h2 p e
/-- a key, its datum, its value -/
abbrev Tr := KD × V × Value
section
variable {X : Cx} {pins : List (Addr × Obj)} {σ : L2.St} {H : Hp} {s : Shared} {F : Addr → Prop}
theorem trips {K : PySem.W.Frag} : ∀ {l : List KD} {vs : List V} {us : List Value}, Reps K F H (l.map (·.2)) vs → L2.Vals vs us → ∃ T : List Tr, T.map (·.1) = l ∧ T.map (·.2.1) = vs ∧ T.map (·.2.2) = us ∧ ∀ t ∈ T, Rep K F H t.1.2 t.2.1 ∧ L2.RelV t.2.1 t.2.2
  | [], _, _, r, v => by cases r; cases v; exact ⟨[], rfl, rfl, rfl, fun t ht => nomatch ht⟩
  | p :: l, _, _, r, v => by
    cases r with
    | cons r1 r2 => cases v with
      | cons v1 v2 =>
        obtain ⟨T, h1, h2, h3, h4⟩ := trips (l := l) r2 v2
        refine ⟨(p, _, _) :: T, by rw [List.map_cons, h1], by rw [List.map_cons, h2], by rw [List.map_cons, h3], fun t ht => ?_⟩
        rcases List.mem_cons.mp ht with e | e
        · rw [e]; exact ⟨r1, v1⟩
        · exact h4 t e
theorem trips_reps {K : PySem.W.Frag} : ∀ {T : List Tr}, (∀ t ∈ T, Rep K F H t.1.2 t.2.1 ∧ L2.RelV t.2.1 t.2.2) → Reps K F H (T.map (·.1.2)) (T.map (·.2.1)) ∧ L2.Vals (T.map (·.2.1)) (T.map (·.2.2))
  | [], _ => ⟨.nil, .nil⟩
  | t :: T, h => by
    obtain ⟨h1, h2⟩ := h t List.mem_cons_self
    obtain ⟨g1, g2⟩ := trips_reps fun u hu => h u (List.mem_cons_of_mem _ hu)
    exact ⟨.cons h1 g1, .cons h2 g2⟩
theorem tab_look : ∀ {T : List Tr} {v : Value} {k : List Int}, (T.map fun t => (t.2.2, t.1.1)).lookup v = some k → ∃ t ∈ T, t.2.2 = v ∧ t.1.1 = k
  | [], _, _, h => by cases h
  | t :: T, v, k, h => by
    rw [List.map_cons, List.lookup_cons] at h
    cases e : v == t.2.2 with
    | true => rw [e] at h; cases h; exact ⟨t, List.mem_cons_self, (eq_of_beq e).symm, rfl⟩
    | false =>
      rw [e] at h
      obtain ⟨u, hu, h1, h2⟩ := tab_look h
      exact ⟨u, List.mem_cons_of_mem _ hu, h1, h2⟩
theorem tab_has : ∀ {T : List Tr} {t : Tr}, t ∈ T → ∃ k, (T.map fun t => (t.2.2, t.1.1)).lookup t.2.2 = some k
  | u :: T, t, h => by
    rw [List.map_cons, List.lookup_cons]
    cases e : t.2.2 == u.2.2 with
    | true => exact ⟨_, rfl⟩
    | false =>
      rcases List.mem_cons.mp h with z | z
      · rw [z, beq_self_eq_true] at e; cases e
      · exact tab_has z
/-- sorted(xs), xs a list of rows of one form -/
theorem sorted_rows {d0 : List D} {a : Addr} {ds : List D} {vs : List V} {l : List KD} {Q : VK} (hu : X.A.units + 66 < cLine) (I : L2.Inv X pins σ H s) (hq : SqL X.K H a vs) (r : Reps X.K F H ds vs) (hk : rowsK d0 ds = some l) (h64 : ds.length < 64)
    (k : ∀ p vs', H p = none → Reps X.K F H ((sortK l).map (·.2)) vs' → vs'.length ≤ 1000 → Q (.ref p) (upd H p (.lst vs'))) : wpAny (model X.prog X.w) X.A (call (.builtin "sorted") [.ref a]) (EP X pins σ Q) X.xe s := by
  obtain ⟨its, rv, pl, hz⟩ := I.list hq
  obtain ⟨em, hrow⟩ := rows_spec hk
  obtain ⟨T, t1, t2, t3, t4⟩ := trips (K := X.K) (F := F) (H := H) (l := l) (by rw [em]; exact r) rv
  have rowT : ∀ t ∈ T, rowK d0 t.1.2 = some t.1.1 := fun t ht => hrow t.1 (by rw [← t1]; exact List.mem_map_of_mem ht)
  have l64 : its.length < 64 := by rw [← rv.length, ← r.length]; exact h64
  have all : KeysOf (keyT (T.map fun t => (t.2.2, t.1.1))) (pairsOf its) := fun p hp => by
    rw [pairsOf_toList] at hp
    have : p.1 ∈ its := (List.of_mem_zip hp).1
    rw [← t3] at this
    obtain ⟨t, ht, e⟩ := List.mem_map.mp this
    rw [← e]
    exact tab_has ht
  -- all rows are read in any heap that keeps this one
  have rd : ∀ t ∈ T, ∀ h' : Heap, (∀ b o, s.heap.get? b = some o → h'.get? b = some o) → ∃ as, Reads h' t.2.2 t.1.2 as := fun t ht h' hk' => by
    obtain ⟨as, z⟩ := (t4 t ht).1.reads I (t4 t ht).2
    exact ⟨as, Reads.keeps hk' z⟩
  have same : ∀ t ∈ T, ∀ u ∈ T, t.2.2 = u.2.2 → t.1.1 = u.1.1 := fun t ht u hu' e => by
    obtain ⟨as, z1⟩ := rd t ht s.heap fun _ _ q => q
    obtain ⟨bs, z2⟩ := rd u hu' s.heap fun _ _ q => q
    obtain ⟨x, xs, e1, _, f1⟩ := row_some (rowT t ht)
    rw [e] at z1
    have e2 : t.1.2 = u.1.2 := Reads.unique t.1.2 u.1.2 u.2.2 as bs (by rw [e1]; exact flat_lay f1) z1 z2
    have h1 := rowT t ht
    have h2 := rowT u hu'
    rw [e2, h2] at h1
    exact (Option.some.inj h1).symm
  refine Calls.call_function_entry kind_sorted plain_sorted entry_sorted (args_sorted1 _) ?_
  unfold Builtin.«sorted»
  refine wpAny_bind (m := checkCount "sorted" 1 1 _) (wpAny_pure (wpAny_bind (collect_list pl.isList (wpAny_bind (wpAny_newList ?_ (hsz := ?_))) (hsz := ?_))))
  rotate_left
  · rw [← rv.length]; exact hz
  · rw [← rv.length]; exact hz
  have sz : ((s.heap.push (seqObj "list" #[] 0)).update s.heap.objs.size (Obj.mapSeq (· ++ its.toArray))).objs.size = s.heap.objs.size + 1 := by rw [Heap.size_update, size_push']
  show wpAny _ _ _ _ _ { s with heap := ((s.heap.push (seqObj "list" #[] 0)).update s.heap.objs.size (Obj.mapSeq (· ++ its.toArray))).push (seqObj "list" its.toArray 0) }
  rw [sz]
  have hL : (((s.heap.push (seqObj "list" #[] 0)).update s.heap.objs.size (Obj.mapSeq (· ++ its.toArray))).push (seqObj "list" its.toArray 0)).get? (s.heap.objs.size + 1) = some (seqObj "list" its.toArray 0) := by
    rw [← sz]; exact Heap.get?_push_size _ rfl
  have kp : ∀ h' : Heap, (∀ b o, b ≠ s.heap.objs.size + 1 → (((s.heap.push (seqObj "list" #[] 0)).update s.heap.objs.size (Obj.mapSeq (· ++ its.toArray))).push (seqObj "list" its.toArray 0)).get? b = some o → h'.get? b = some o) → ∀ b o, s.heap.get? b = some o → h'.get? b = some o := fun h' hk' b o e => by
    have lt := Heap.lt_size e
    refine hk' b o (Nat.ne_of_lt (Nat.lt_succ_of_lt lt)) (Heap.get?_push_of_some _ ?_)
    rw [Heap.get?_update_ne _ _ _ _ (Nat.ne_of_lt lt)]
    exact Heap.get?_push_of_some _ e
  refine wpAny_bind (wpAny_holding (wpAny_call_entry slot_list_sort ⟨_, hL, rfl⟩ entry_list_sort (sort_at (κ := keyT (T.map fun t => (t.2.2, t.1.1))) (kd := tuples' (isInt (d0.headD .none))) hL all l64 (fun h' hk' h2 => ?_) (fun h' hk' => ?_) fun z' p1 p2 => ⟨_, rfl, wpAny_pure ⟨_, rfl, ?_⟩⟩) (args_list_sort _)))
  · -- the kind of the keys
    refine kind_rows (s := { s with heap := h' }) (d := d0.headD .none) rfl (fun v hv => ?_) (fun e => by rw [e] at h2; simp at h2)
    rw [← t3] at hv
    obtain ⟨t, ht, e⟩ := List.mem_map.mp hv
    obtain ⟨x, xs, e1, l1, f1⟩ := row_some (rowT t ht)
    obtain ⟨as, z⟩ := rd t ht h' (kp h' hk')
    rw [e1] at z
    refine ⟨x, xs, as, by rw [← e]; exact z, ?_⟩
    cases d0 with
    | nil => cases l1
    | cons y ys => exact (Bool.and_eq_true_iff.mp l1).1
  · -- what a comparison answers
    intro x y ka kb E' Q' h1 h2 hQ'
    obtain ⟨t, ht, e1, g1⟩ := tab_look h1
    obtain ⟨u, hu', e2, g2⟩ := tab_look h2
    obtain ⟨x1, xs1, e3, l1, f1⟩ := row_some (rowT t ht)
    obtain ⟨y1, ys1, e4, l2, f2⟩ := row_some (rowT u hu')
    obtain ⟨as, z1⟩ := rd t ht h' (kp h' hk')
    obtain ⟨bs, z2⟩ := rd u hu' h' (kp h' hk')
    rw [e3, e1] at z1
    rw [e4, e2] at z2
    rw [g1] at f1
    rw [g2] at f2
    cases z1 with
    | @tuple ax ox us n _ _ q1 q2 q3 q4 => cases z2 with
      | @tuple ay oy ws m _ _ w1 w2 w3 w4 =>
        have ll : us.size = ws.size := by
          have a1 := ReadsAll.length _ _ _ q4
          have a2 := ReadsAll.length _ _ _ w4
          have a3 : ∀ (p q : List D), likeEs p q = true → p.length = q.length := by
            intro p
            induction p with
            | nil => intro q hq'; cases q with
              | nil => rfl
              | cons _ _ => cases hq'
            | cons p0 p ih => intro q hq'; cases q with
              | nil => cases hq'
              | cons q0 q => simp [ih q (Bool.and_eq_true_iff.mp hq').2]
          have a4 := a3 _ _ (likeEs_join l1 l2)
          rw [Array.length_toList] at a1 a2
          omega
        have ef : decide (us.size < ws.size) = false := by rw [ll]; simp
        refine PySem.W.kat_lt (s := { s with heap := h' }) q1 q3 w1 w3 ?_
        rw [ef]
        refine row_lex (s := { s with heap := h' }) (show X.A.in1.in1.units + 64 < cLine by show X.A.units + 1 + 1 + 64 < cLine; omega) 0 (likeEs_join l1 l2) f1 f2 q4 w4 (fun hb _ z r' ez => ?_) (fun e => ?_) fun _ => hQ'
        · cases ez
          cases d0 with
          | nil => cases l1
          | cons y0 ys0 =>
            have l3 := (Bool.and_eq_true_iff.mp l1).1
            cases y0 with
            | int n => cases x1 with
              | int m => exact ⟨m, rfl⟩
              | _ => cases l3
            | _ => cases hb
        · have e5 : HT.lexLt ka kb = false := by rw [e]; exact lex_irrefl _
          have : (keyT (T.map fun t => (t.2.2, t.1.1))).blt ka kb = false := e5
          rw [this] at hQ'
          exact hQ'
  · -- the list behind
    have pm : (((arrOf z').map (·.2)).toList).Perm its := by
      have h1 := Array.perm_iff_toList_perm.mp p1
      have h2 := h1.map (·.2)
      rw [pairsOf_toList] at h2
      rw [Array.toList_map]
      have h3 : (its.zip its).map (·.2) = its := by
        rw [List.map_snd_zip]
        exact Nat.le_refl _
      rw [h3] at h2
      exact h2
    obtain ⟨T', q1, q2⟩ := perm_back pm.symm T t3
    have memT : ∀ t ∈ T', t ∈ T := fun t ht => q1.mem_iff.mp ht
    obtain ⟨g1, g2⟩ := trips_reps (K := X.K) (F := F) (H := H) (T := T') fun t ht => t4 t (memT t ht)
    have lT : T'.length = its.length := by rw [q1.length_eq, ← t3, List.length_map]
    -- in their order
    have ord : (T'.map (·.1)).Pairwise Le := by
      rw [List.pairwise_map, List.pairwise_iff_getElem]
      intro i j hi hj hij
      have sz' : (arrOf z').size = T'.length := by
        rw [p1.size_eq, pairsOf_size, lT]
      have key : ∀ m (hm : m < T'.length), KK (keyT (T.map fun t => (t.2.2, t.1.1))) (arrOf z') m = T'[m].1.1 := fun m hm => by
        have hm' : m < (arrOf z').size := by rw [sz']; exact hm
        have e1 : (arrOf z')[m]? = some (arrOf z')[m] := getElem?_pos _ m hm'
        have e2 : (arrOf z')[m] ∈ (pairsOf its).toList := (Array.perm_iff_toList_perm.mp p1).mem_iff.mp (by simp)
        rw [pairsOf_toList] at e2
        have e3 : (arrOf z')[m].1 = (arrOf z')[m].2 := by
          obtain ⟨n, hn, en⟩ := List.getElem_of_mem e2
          rw [List.getElem_zip] at en
          rw [← en]
        have e4 : (arrOf z')[m].2 = T'[m].2.2 := by
          have := congrArg (fun (l : List Value) => l[m]?) q2
          simp only [List.getElem?_map, Array.toList_map, Array.getElem?_toList, e1] at this
          rw [List.getElem?_eq_getElem hm] at this
          exact (Option.some.inj this).symm
        unfold KK
        rw [e1]
        show ((keyT (T.map fun t => (t.2.2, t.1.1))).keyOf (arrOf z')[m].1).getD [] = _
        rw [e3, e4]
        obtain ⟨kx, hkx⟩ := tab_has (memT T'[m] (List.getElem_mem hm))
        obtain ⟨t, ht, e5, e6⟩ := tab_look hkx
        show ((T.map fun t => (t.2.2, t.1.1)).lookup T'[m].2.2).getD [] = _
        rw [hkx]
        show kx = _
        rw [← e6]
        exact same t ht _ (memT _ (List.getElem_mem hm)) e5
      have := p2 i j (Nat.le_of_lt hij) (by rw [pairsOf_size, ← lT]; exact hj)
      rw [key i hi, key j hj] at this
      exact this
    have uni : T'.map (·.1) = sortK l := by
      refine sort_unique (((q1.map (·.1)).trans (.of_eq t1)).trans (sort_perm l).symm) ord (sort_sorted l) fun p hp q hq' e => ?_
      obtain ⟨t, ht, rfl⟩ := List.mem_map.mp hp
      obtain ⟨u, hu', rfl⟩ := List.mem_map.mp hq'
      have h1 := rowT t (memT t ht)
      have h2 := rowT u (memT u hu')
      rw [e] at h1
      exact Prod.ext e (row_inj h1 h2)
    have eD : (sortK l).map (·.2) = T'.map (·.1.2) := by rw [← uni, List.map_map]; rfl
    have fresh : H (s.heap.objs.size + 1) = none := I.hok.fresh (Nat.le_succ _)
    obtain ⟨ep, hat⟩ := sortedAll_at s.heap its ((arrOf z').map (·.2))
    have lv : (T'.map (·.2.1)).length ≤ 1000 := by rw [List.length_map, lT]; omega
    refine ⟨.ref (s.heap.objs.size + 1), _, I.laid (t' := s.toks) (h' := sortedAll s.heap its ((arrOf z').map (·.2))) (o := .lst (T'.map (·.2.1))) (fun b o e => sortedAll_old e) (Nat.le_succ _) ?_, rfl, k _ _ fresh (by rw [eD]; exact g1) lv⟩
    refine ⟨line1000 lv, T'.map (·.2.2), ep, g2, ?_⟩
    rw [hat, q2]
end
end SD
namespace DL
open PySem PySem.Spec PyProof.Rows L2 SD
theorem cd_sorted {X : Cx} (hu : X.A.units + 66 < cLine) : CallR X (.builtin "sorted") (rDA X.K dSorted) := fun pins s σ H xs us Q I rx ⟨F, ds, q, z, R, hq, k⟩ => by
  unfold dSorted at hq
  split at hq
  · cases hq
    cases R with
    | cons R1 R2 =>
      cases R2
      cases R1 with
      | @lst a vs _ h1 r1 =>
        obtain ⟨u, rfl, ru⟩ := vals1 rx
        cases ru
        exact sorted_rows (d0 := []) (l := []) hu I h1.sq r1 rfl (by simp) fun p vs' hp r' _ => k _ _ _ (Ext.frozen hp) (Rep.newLst hp r')
  · rename_i d0 ds'
    by_cases c : ds'.length < 63
    · rw [if_pos c] at hq
      obtain ⟨l, e1, hq⟩ := bnd hq
      cases hq
      cases R with
      | cons R1 R2 =>
        cases R2
        cases R1 with
        | @lst a vs _ h1 r1 =>
          obtain ⟨u, rfl, ru⟩ := vals1 rx
          cases ru
          exact sorted_rows (d0 := d0) hu I h1.sq r1 e1 (by simp; omega) fun p vs' hp r' _ => k _ _ _ (Ext.frozen hp) (Rep.newLst hp r')
    · rw [if_neg c] at hq; cases hq
  · cases hq
end DL

/-! zip OF TWO LISTS, walked with two names -/
namespace ZL
open PySem PySem.Spec PyProof.Rows L2 DL

def Itz (K : PySem.W.Frag) (a b : Addr) : It :=
  ⟨fun i H => ∃ xs ys x y, SqL K H a xs ∧ SqL K H b ys ∧ xs[i]? = some x ∧ ys[i]? = some y,
   fun i H v H' => ∃ p, H p = none ∧ v = .ref p ∧ ∃ x y, H' = upd H p (.tup [x, y]) ∧ (∀ xs, SqL K H a xs → xs[i]? = some x) ∧ ∀ ys, SqL K H b ys → ys[i]? = some y,
   fun i H => ∃ xs ys, SqL K H a xs ∧ SqL K H b ys ∧ (xs.length ≤ i ∨ ys.length ≤ i)⟩
/-- records of ours have turned; a tuple is new, if any -/
theorem zturn {X : Cx} {pins : List (Addr × Obj)} {σ : L2.St} {H H' : Hp} {s : Shared} {ch : List Addr} {h' : Heap} {tk : Nat} (I : L2.Inv X pins σ H s) (hf : ∀ b ∈ ch, FpOk X pins H b) (k : ∀ b o, b ∉ ch → s.heap.get? b = some o → h'.get? b = some o)
    (hH : ∀ b o, s.heap.get? b = some o → H' b = H b) (hS : ∀ b o, H b = some o → H' b = some o) (hok : HOk X.prog X.w H' h') : L2.Inv X pins σ H' { s with heap := h', toks := tk } := by
  refine I.step (g' := s.gens) (d' := s.drawn) (ch := ch) (fun b hb => ?_) (fun b o _ _ hc e _ => k b o hc e) (fun b o _ _ hc e _ => ⟨o.slots, k b o hc e⟩) (fun b o _ e n => by rw [hH b o e]; exact n)
    (fun b o hc e => ⟨o, k b o hc e⟩) (fun b xs e => hS _ _ e) (fun b o u e => hS _ _ e) (fun b ps e => ⟨#[], by rw [hS _ _ e]; simp⟩) (fun m hm => ?_) hok I.bare
  · obtain ⟨_, f1, _, f3, f4, f5⟩ := hf b hb
    exact ⟨f3, f1, f4, f5⟩
  · obtain ⟨o, es, ep, ho, r⟩ := hm
    exact ⟨o, es, ep, k _ o (fun z => (hf _ z).2.1 rfl) ho, r⟩
theorem turn_zip {P : Program} {w : World} {K : PySem.W.Frag} {elts : List Expr} {x1} {tpos : Pos} (a b z TI TO i1 i2 : Addr) (D : ZipApart z TI TO i1 i2 a b) :
    Turn P w K (.Tuple elts x1 tpos) (Itz K a b) [z, TI, TO, i1, i2] z (fun i h => IsZip h z TI TO .none ∧ IsPair h TI (.ref i1) (.ref i2) ∧ (∃ u v, IsPair h TO u v) ∧ h.IsListIter i1 a i ∧ h.IsListIter i2 b i) where
  mem := by simp
  obj := fun i h st c hc => by
    obtain ⟨h1, h2, ⟨u, v, h3⟩, ⟨o4, e4, _, d4⟩, ⟨o5, e5, _, d5⟩⟩ := st
    rcases List.mem_cons.mp hc with rfl | hc
    · exact ⟨_, h1, fun v z => by have z' : Data.fields _ = Data.cell v := z; cases z'⟩
    rcases List.mem_cons.mp hc with rfl | hc
    · exact ⟨_, h2, fun v z => by have z' : Data.seq _ _ = Data.cell v := z; cases z'⟩
    rcases List.mem_cons.mp hc with rfl | hc
    · exact ⟨_, h3, fun v z => by have z' : Data.seq _ _ = Data.cell v := z; cases z'⟩
    rcases List.mem_cons.mp hc with rfl | hc
    · exact ⟨o4, e4, fun v z => by rw [d4] at z; cases z⟩
    rcases List.mem_cons.mp hc with rfl | hc
    · exact ⟨o5, e5, fun v z => by rw [d5] at z; cases z⟩
    cases hc
  keep := fun i h h' st k => by
    obtain ⟨h1, h2, ⟨u, v, h3⟩, h4, h5⟩ := st
    exact ⟨k z (by simp) _ h1, k TI (by simp) _ h2, ⟨u, v, k TO (by simp) _ h3⟩, h4.at fun o e => k i1 (by simp) o e, h5.at fun o e => k i2 (by simp) o e⟩
  item := by
    intro X hP hw hK hc i pins s σ H E I hf st hg
    subst hP hw hK
    obtain ⟨xs, ys, x, y, ha, hb, hx, hy⟩ := hg
    obtain ⟨h1, h2, ⟨u, v, h3⟩, h4, h5⟩ := st
    obtain ⟨its, rv, pl, _⟩ := I.list ha
    obtain ⟨jts, rw', pl2, _⟩ := I.list hb
    obtain ⟨xu, ex, rx⟩ := rv.get hx
    obtain ⟨yu, ey, ry⟩ := rw'.get hy
    refine wpAny_pyNext_zip_item D h1 h2 h3 h4 h5 pl.isList pl2.isList (x := xu) (y := yu) (by simpa using ex) (by simpa using ey) fun h' a1 a2 a3 a4 a5 a6 hk => ⟨_, rfl, ?_⟩
    refine wpAny_letOwnedTupleGo_zip (s := { s with heap := h' }) a1 fun h'' z1 sb => ?_
    have up : ∀ c o, c ≠ z → h'.get? c = some o → h''.get? c = some o := fun c o nc e => sb.extBut c o nc e
    have hn : H s.heap.objs.size = none := I.hok.fresh (Nat.le_refl _)
    have old : ∀ c o, s.heap.get? c = some o → c ≠ s.heap.objs.size := fun c o e => Nat.ne_of_lt (Heap.lt_size e)
    have zT : s.heap.objs.size ≠ z := (old z _ h1).symm
    have kk : ∀ c o, c ∉ [z, TI, TO, i1, i2] → s.heap.get? c = some o → h''.get? c = some o := fun c o nc e =>
      up c o (fun q => nc (by simp [q])) (hk c o (fun q => nc (by simp [q])) (fun q => nc (by simp [q])) (fun q => nc (by simp [q])) (fun q => nc (by simp [q])) e)
    have nfp : ∀ c o, H c = some o → c ∉ [z, TI, TO, i1, i2] := fun c o e hc' => by
      have := (hf c hc').1
      rw [this] at e; cases e
    have t2 : IsPair h'' TI (.ref i1) (.ref i2) := up _ _ D.TIz (hk _ _ D.TIz D.TITO D.TIi1 D.TIi2 h2)
    have t3 : IsPair h'' TO xu yu := up _ _ D.TOz a2
    have t4 : h''.IsListIter i1 a (i + 1) := a3.at fun o e => up _ o D.i1z e
    have t5 : h''.IsListIter i2 b (i + 1) := a4.at fun o e => up _ o D.i2z e
    have hok : HOk X.prog X.w (upd H s.heap.objs.size (.tup [x, y])) h'' := fun c o e => by
      by_cases hcT : c = s.heap.objs.size
      · subst hcT
        rw [upd_same] at e; cases e
        exact ⟨line1000 (by simp), [xu, yu], .cons rx (.cons ry .nil), ⟨_, up _ _ zT a5, rfl, 0, rfl⟩⟩
      · rw [upd_ne hcT] at e
        refine (I.hok c o e).stay (fun d v hd q => kk d v ?_ q) (fun d q => by rw [upd_ne (ne_of_none q hn)]; exact q) fun d xs q => by rw [upd_ne (ne_of_none q hn)]; exact q
        rcases hd with rfl | hd
        · exact nfp _ _ e
        · exact nfp _ _ hd
    refine ⟨.ref s.heap.objs.size, _, zturn (s := s) (h' := h'') (tk := s.toks) I hf kk (fun c o e => upd_ne (old c o e)) (fun c o e => by rw [upd_ne (ne_of_none e hn)]; exact e) hok, rfl, ⟨_, hn, rfl, x, y, rfl, fun xs' h' => by rw [I.list_inj h' ha]; exact hx, fun ys' h' => by rw [I.list_inj h' hb]; exact hy⟩, ⟨z1, t2, ⟨_, _, t3⟩, t4, t5⟩, fun c hc' => ?_⟩
    · have e := (hf c hc').1
      have nT : c ≠ s.heap.objs.size := by
        rcases List.mem_cons.mp hc' with rfl | hc'
        · exact old _ _ h1
        rcases List.mem_cons.mp hc' with rfl | hc'
        · exact old _ _ h2
        rcases List.mem_cons.mp hc' with rfl | hc'
        · exact old _ _ h3
        rcases List.mem_cons.mp hc' with rfl | hc'
        · obtain ⟨_, e', _⟩ := h4; exact old _ _ e'
        rcases List.mem_cons.mp hc' with rfl | hc'
        · obtain ⟨_, e', _⟩ := h5; exact old _ _ e'
        cases hc'
      rw [upd_ne nT]; exact e
  done := by
    intro X hP hw hK hc i pins s σ H E I hf st hg
    subst hP hw hK
    obtain ⟨xs, ys, ha, hb, hend⟩ := hg
    obtain ⟨h1, h2, ⟨u, v, h3⟩, h4, h5⟩ := st
    obtain ⟨its, rv, pl, _⟩ := I.list ha
    obtain ⟨jts, rw', pl2, _⟩ := I.list hb
    have l1 := rv.length
    have l2 := rw'.length
    refine wpAny_pyNext_zip_end (I.ok.hd hc) D h1 h2 h3 h4 h5 pl.isList pl2.isList (by
      rcases hend with hend | hend
      · left; simp; omega
      · right; simp; omega) fun h' hk => ⟨rfl, ?_⟩
    have kk : ∀ c o, c ∉ [z, TI, TO, i1, i2] → s.heap.get? c = some o → h'.get? c = some o := fun c o nc e =>
      hk c o (fun q => nc (by simp [q])) (fun q => nc (by simp [q])) (fun q => nc (by simp [q])) (fun q => nc (by simp [q])) e
    have nfp : ∀ c o, H c = some o → c ∉ [z, TI, TO, i1, i2] := fun c o e hc' => by
      have := (hf c hc').1
      rw [this] at e; cases e
    refine zturn (s := s) (h' := h') (tk := s.toks) I hf kk (fun _ _ _ => rfl) (fun _ _ e => e) fun c o e => ?_
    refine (I.hok c o e).stay (fun d v hd q => kk d v ?_ q) (fun d q => q) fun d xs q => q
    rcases hd with rfl | hd
    · exact nfp _ _ e
    · exact nfp _ _ hd
  self := fun _ _ _ _ _ st h => wpAny_pyIter_zip st.1 h
theorem nne {x y : Nat} (h : x ≠ y) : @Ne Addr x y := h
theorem zapart {n a b : Nat} (la : a < n) (lb : b < n) : ZipApart (n + 4) (n + 2) (n + 3) n (n + 1) a b :=
  ⟨nne (by omega), nne (by omega), nne (by omega), nne (by omega), nne (by omega), nne (by omega), nne (by omega), nne (by omega), nne (by omega), nne (by omega), nne (by omega), nne (by omega), nne (by omega), nne (by omega), nne (by omega), nne (by omega), nne (by omega), nne (by omega)⟩
def iZip (K : PySem.W.Frag) (ta : TA) : TI := fun σ H R => ta σ H fun vs H1 => ∃ a b, vs = [.ref a, .ref b] ∧ (∃ xs, SqL K H1 a xs) ∧ (∃ ys, SqL K H1 b ys) ∧ R (Itz K a b) H1
theorem pi_zip {X : Cx} {elts : List Expr} {x1} {tpos : Pos} {a b : Expr} {ta : TA} {p pos : Pos} (hg : Gl X "zip") (hm : X.mg "zip" = none) (ha : PA X [a, b] ta) (hs : starEach [a, b] X.env = [(false, eval a X.env), (false, eval b X.env)] := by rfl) (hs2 : starEach [b] X.env = [(false, eval b X.env)] := by rfl) :
    PI X (.Tuple elts x1 tpos) (.Call (.Name "zip" p) [a, b] [] pos) (iZip X.K ta) := by
  intro pins s σ H R I h
  refine Call_ (ld_blt I hg hm boot_zip (PyProof.Rows.callWith_type1 (thn (ha pos pins s σ H _ I h) fun us s1 ⟨vs, H1, I1, r1, q1⟩ => ?_) (by rw [hs, hs2]) (by rw [hs2]; rfl)))
  obtain ⟨a', b', e, ⟨xs, hx⟩, ⟨ys, hy⟩, q⟩ := q1
  subst e
  cases r1 with
  | cons r rr =>
    cases rr with
    | cons r' rr =>
      cases rr
      cases r
      cases r'
      obtain ⟨its, rv, pl, _⟩ := I1.list hx
      obtain ⟨jts, rw', pl2, _⟩ := I1.list hy
      refine call_zip_2 pl.isList pl2.isList fun h' a1 a2 a3 a4 a5 a6 hk => ?_
      have I2 : L2.Inv X pins σ H1 { s1 with heap := h' } := I1.kept (t' := s1.toks) hk
      refine wpAny_pyIter_zip (s := { s1 with heap := h' }) a1 ?_
      have la : a' < s1.heap.objs.size := by obtain ⟨_, e, _⟩ := pl.isList; exact Heap.lt_size e
      have lb : b' < s1.heap.objs.size := by obtain ⟨_, e, _⟩ := pl2.isList; exact Heap.lt_size e
      refine ⟨_, [s1.heap.objs.size + 4, s1.heap.objs.size + 2, s1.heap.objs.size + 3, s1.heap.objs.size, s1.heap.objs.size + 1], _, _, H1, rfl, I2, turn_zip a' b' (s1.heap.objs.size + 4) (s1.heap.objs.size + 2) (s1.heap.objs.size + 3) s1.heap.objs.size (s1.heap.objs.size + 1) (zapart la lb), ⟨a1, a2, ⟨_, _, a3⟩, a4, a5⟩, fun c hc => ?_, q⟩
      have lc : s1.heap.objs.size ≤ c := by
        rcases List.mem_cons.mp hc with rfl | hc
        · exact Nat.le_add_right _ _
        rcases List.mem_cons.mp hc with rfl | hc
        · exact Nat.le_add_right _ _
        rcases List.mem_cons.mp hc with rfl | hc
        · exact Nat.le_add_right _ _
        rcases List.mem_cons.mp hc with rfl | hc
        · exact Nat.le_refl _
        rcases List.mem_cons.mp hc with rfl | hc
        · exact Nat.le_add_right _ _
        cases hc
      exact I1.fpOk lc (I1.hok.fresh lc)
end ZL
namespace DL
open PySem PySem.Spec PyProof.Rows L2 ZL
def zipD : List D → Option (List D)
  | [.list xs, .list ys] => some (List.zipWith (fun x y => .tuple [x, y]) xs ys)
  | _ => none
theorem it_zip {K : PySem.W.Frag} {F : Addr → Prop} {H : Hp} {a b : Addr} {vs us : List V} {ds es : List D} (h1 : FzL K F H a vs) (r1 : Reps K F H ds vs) (h2 : FzL K F H b us) (r2 : Reps K F H es us) : ItD K F H (List.zipWith (fun x y => .tuple [x, y]) ds es) (Itz K a b) := fun F2 H2 T z i => by
  have g1 := h1.stay T
  have g2 := h2.stay T
  have s1 := r1.stay T
  have s2 := r2.stay T
  refine ⟨fun d hd => ?_, fun hl => ⟨vs, us, g1.sq, g2.sq, ?_⟩⟩
  · rw [List.getElem?_zipWith] at hd
    cases e1 : ds[i]? with
    | none => rw [e1] at hd; cases hd
    | some x =>
      cases e2 : es[i]? with
      | none => rw [e1, e2] at hd; cases hd
      | some y =>
        rw [e1, e2] at hd
        cases hd
        obtain ⟨v, e3, R1⟩ := s1.get e1
        obtain ⟨u, e4, R2⟩ := s2.get e2
        refine ⟨⟨vs, us, v, u, g1.sq, g2.sq, e3, e4⟩, fun w H3 yy => ?_⟩
        obtain ⟨p, hp, rfl, x', y', rfl, q1, q2⟩ := yy
        have q3 := q1 vs g1.sq
        have q4 := q2 us g2.sq
        rw [e3] at q3; cases q3
        rw [e4] at q4; cases q4
        exact ⟨F2, Ext.fresh hp, Rep.newTup hp (.cons R1 (.cons R2 .nil))⟩
  · rw [List.length_zipWith] at hl
    rw [← s1.length, ← s2.length]
    omega
theorem di_zip {X : Cx} {elts : List Expr} {x1} {tpos : Pos} {a b : Expr} {gr : Rho → Option (List D)} {p pos : Pos} (hg : Gl X "zip") (hm : X.mg "zip" = none) (ha : DA X [a, b] gr) (hs : starEach [a, b] X.env = [(false, eval a X.env), (false, eval b X.env)] := by rfl) (hs2 : starEach [b] X.env = [(false, eval b X.env)] := by rfl) :
    DI X (.Tuple elts x1 tpos) (.Call (.Name "zip" p) [a, b] [] pos) (fun ρ => (gr ρ).bind zipD) :=
  pi_mono (pi_zip hg hm ha hs hs2) fun σ H R ⟨F, H₀, ρ, ds, S, q, k⟩ => by
    obtain ⟨xs, e1, q⟩ := bnd q
    unfold zipD at q
    split at q
    · cases q
      refine ⟨F, H₀, ρ, _, S, e1, fun F1 H1 vs E1 R1 => ?_⟩
      cases R1 with
      | cons r rs =>
        cases r with
        | @lst a' vs' _ h1 r1 =>
          cases rs with
          | cons r rs =>
            cases r with
            | @lst b' us' _ h2 r2 =>
              cases rs
              exact ⟨a', b', rfl, ⟨_, h1.sq⟩, ⟨_, h2.sq⟩, k F1 H1 _ E1 (it_zip h1 r1 h2 r2)⟩
    · cases q
end DL

namespace DL
open PySem PySem.Spec PySem.SeqAt PyProof.Rows L2 CL SD ZL

/-! ### slices -/
def cutD (xs : List D) (lo hi : Option Int) : List D := (xs.drop (HT.sIx xs.length 0 lo)).take (HT.sIx xs.length xs.length hi - HT.sIx xs.length 0 lo)
def tDO (K : PySem.W.Frag) (g : Rho → Option (Option Int)) : TO := fun σ H Q => ∃ (F : Addr → Prop) (H₀ : Hp) (ρ : Rho) (o : Option Int), StOk K F H H₀ σ ρ ∧ g ρ = some o ∧ ∀ F' H', Ext F F' H H' → Q o H'
def DO (X : Cx) (e : Option Expr) (g : Rho → Option (Option Int)) : Prop := PO X e (tDO X.K g)
def oNo : Rho → Option (Option Int) := fun _ => some none
def oE (g : Rho → Option D) : Rho → Option (Option Int) := fun ρ => (g ρ).bind fun d => (asI d).bind fun i => some (some i)
section
variable {X : Cx} {a b e : Expr} {ga : Rho → Option D} {pos p p2 : Pos} {lo hi : Option Expr} {gl gh : Rho → Option (Option Int)}
theorem po_mono {o : Option Expr} {t t' : TO} (h : PO X o t) (m : ∀ σ H Q, t' σ H Q → t σ H Q) : PO X o t' := fun pins s σ H Q I q => h pins s σ H Q I (m σ H Q q)
theorem do_none : DO X none oNo := po_mono po_none fun σ H Q ⟨F, H₀, ρ, o, S, q, k⟩ => by
  cases q
  exact k F H (Ext.refl F H)
theorem do_some (h : DE X e ga) : DO X (some e) (oE ga) := po_mono (po_some h) fun σ H Q ⟨F, H₀, ρ, o, S, q, k⟩ => by
  obtain ⟨d, e1, q⟩ := bnd q
  obtain ⟨i, e2, q⟩ := bnd q
  cases q
  exact ⟨F, H₀, ρ, d, S, e1, fun F1 H1 v E1 R1 => ⟨i, rep_int R1 e2, k F1 H1 E1⟩⟩
def dSl : D → Option Int → Option Int → Option D
  | .list xs, lo, hi => some (.list (cutD xs lo hi))
  | .tuple xs, lo, hi => if HT.sIx xs.length 0 lo = 0 ∧ HT.sIx xs.length xs.length hi = xs.length then none else some (.tuple (cutD xs lo hi))
  | _, _, _ => none
def eSl (ga : Rho → Option D) (gl gh : Rho → Option (Option Int)) : Rho → Option D := fun ρ => (ga ρ).bind fun d => (gl ρ).bind fun l => (gh ρ).bind fun h => dSl d l h
theorem Reps.cut {K : PySem.W.Frag} {F : Addr → Prop} {H : Hp} {ds : List D} {vs : List V} (r : Reps K F H ds vs) (lo hi : Option Int) : Reps K F H (cutD ds lo hi) (cutV vs lo hi) := by
  unfold cutD cutV
  rw [r.length]
  exact (r.drop _).take _
theorem de_slice (ha : DE X a ga) (hl : DO X lo gl) (hh : DO X hi gh) : DE X (.Subscript a (.Slice lo hi none p2) pos) (eSl ga gl gh) :=
  pe_mono (pe_slice (sl_list.or sl_tup) ha hl hh) fun σ H Q ⟨F, H₀, ρ, d, S, q, k⟩ => by
    obtain ⟨x, e1, q⟩ := bnd q
    obtain ⟨l, e2, q⟩ := bnd q
    obtain ⟨h, e3, q⟩ := bnd q
    refine ⟨F, H₀, ρ, x, S, e1, fun F1 H1 v E1 R1 => ⟨F1, H₀, ρ, l, S.ext E1, e2, fun F2 H2 E2 => ⟨F2, H₀, ρ, h, (S.ext E1).ext E2, e3, fun F3 H3 E3 => ?_⟩⟩⟩
    have R3 := (R1.stay E2.stay).stay E3.stay
    have E123 := E1.trans (E2.trans E3)
    cases R3 with
    | @lst a' vs ds h1 r1 =>
      cases q
      exact .inl ⟨a', vs, rfl, h1.sq, fun p hp => k _ _ _ (E123.trans (Ext.frozen hp)) (Rep.newLst hp (r1.cut l h))⟩
    | @tup a' vs ds h1 r1 =>
      have q' : (if HT.sIx ds.length 0 l = 0 ∧ HT.sIx ds.length ds.length h = ds.length then none else some (PyData.tuple (cutD ds l h))) = some d := q
      by_cases c : HT.sIx ds.length 0 l = 0 ∧ HT.sIx ds.length ds.length h = ds.length
      · rw [if_pos c] at q'; cases q'
      · rw [if_neg c] at q'
        cases q'
        exact .inr ⟨a', vs, rfl, h1, by rw [← r1.length]; exact c, fun p hp => k _ _ _ (E123.trans (Ext.fresh hp)) (Rep.newTup hp (r1.cut l h))⟩
    | non => cases q
    | bl _ => cases q
    | int _ => cases q
    | str _ => cases q
/-! ### isinstance(x, T) -/
def tyD : D → String
  | .none => "NoneType"
  | .bool _ => "bool"
  | .int _ => "int"
  | .str _ => "str"
  | .list _ => "list"
  | .tuple _ => "tuple"
  | .dict _ => "dict"
def isD (T : String) (d : D) : Bool := tyD d == T || (T == "int" && tyD d == "bool")
def eIs (T : String) (ga : Rho → Option D) : Rho → Option D := fun ρ => (ga ρ).bind fun d => some (.bool (isD T d))
theorem kit_ok (K : PySem.W.Frag) (T : String) (hT : T = "list" ∨ T = "tuple" ∨ T = "int" ∨ T = "bool" ∨ T = "str" ∨ T = "dict") (d : D) : PySem.W.kitOne K (.type (tyD d)) (.type T) = some (isD T d) := by
  rcases hT with rfl | rfl | rfl | rfl | rfl | rfl <;> cases d <;> (first | rfl | (unfold PySem.W.kitOne; with_unfolding_all rfl) | decide +kernel)
theorem call_isT {T : String} (hT : T = "list" ∨ T = "tuple" ∨ T = "int" ∨ T = "bool" ∨ T = "str" ∨ T = "dict") : CallR X (.builtin "isinstance") (fun xs H Q => ∃ (F : Addr → Prop) (d : D) (x : V), Rep X.K F H d x ∧ xs = [x, .ty T] ∧ Q (.bl (isD T d)) H) := by
  intro pins s σ H xs us Q I rv h
  obtain ⟨F, d, x, R, rfl, q⟩ := h
  obtain ⟨u, u2, rfl, ru, r2⟩ := vals2 rv
  cases (show u2 = Value.type T from r2)
  have ok := kit_ok X.K T hT d
  have fin : ∀ tk, EP X pins σ Q (.bool (isD T d)) { s with toks := tk } := fun tk => ⟨.bl _, H, I.tok tk, rfl, q⟩
  cases R with
  | non => cases (show u = Value.none from ru); exact PySem.W.kia_one PySem.W.kitx_none I.kIn True.intro ok (fun z => nomatch z) fin
  | bl b => cases (show u = Value.bool b from ru); exact PySem.W.kia_one PySem.W.kitx_bool I.kIn True.intro ok (fun z => nomatch z) fin
  | int i => obtain ⟨t, e⟩ := (show ∃ t, u = Value.int i t from ru); cases e; exact PySem.W.kia_one PySem.W.kitx_int I.kIn True.intro ok (fun z => nomatch z) fin
  | str y => obtain ⟨t, e⟩ := (show ∃ t, u = Value.str y t from ru); cases e; exact PySem.W.kia_one PySem.W.kitx_str I.kIn True.intro ok (fun z => nomatch z) fin
  | @tup a vs ds h1 r1 =>
    cases (show u = Value.ref a from ru)
    obtain ⟨its, _, ⟨o, g1, g2, _⟩, _⟩ := I.tuple h1
    exact PySem.W.kia_one PySem.W.kitx_tuple I.kIn ⟨o, g1, g2⟩ ok (fun z => nomatch z) fin
  | @lst a vs ds h1 r1 =>
    cases (show u = Value.ref a from ru)
    obtain ⟨its, _, ⟨o, n, g1, g2, _⟩, _⟩ := I.list h1.sq
    exact PySem.W.kia_one PySem.W.kitx_list I.kIn ⟨o, g1, g2⟩ ok (fun z => nomatch z) fin
theorem boot_isinst : bootBuiltins "isinstance" = some (.builtin "isinstance") := by decide +kernel
theorem de_isinst {T : String} {Tn : Str} {p' : Pos} (hT : T = "list" ∨ T = "tuple" ∨ T = "int" ∨ T = "bool" ∨ T = "str" ∨ T = "dict") (hg : Gl X "isinstance") (hm : X.mg "isinstance" = none) (hgT : Gl X Tn) (hmT : X.mg Tn = none) (hvT : bootBuiltins Tn = some (.type T)) (hn : Tn ≠ "__name__") (ha : DE X e ga)
    (hs : starEach [e, .Name Tn p'] X.env = (false, eval e X.env) :: starEach [.Name Tn p'] X.env := by rfl) (hs2 : starEach [.Name Tn p'] X.env = (false, eval (.Name Tn p') X.env) :: starEach [] X.env := by rfl) (hdb : (Tn == ("__debug__" : Str)) = false := by decide)
    (hpl : (backTo pos (starEach [.Name Tn p'] X.env)).any (·.1) = false := by rfl) : DE X (.Call (.Name "isinstance" p) [e, .Name Tn p'] [] pos) (eIs T ga) :=
  pe_mono (pe_callB (call_isT hT) hg hm boot_isinst (pa_cons ha (pa_cons (pe_bltn (v := .ty T) hgT hmT hvT rfl hn hdb) pa_nil hs2) hs) (he := hs) (hpl := hpl)) fun σ H Q ⟨F, H₀, ρ, d, S, q, k⟩ => by
    obtain ⟨x, e1, q⟩ := bnd q
    cases q
    exact ⟨F, H₀, ρ, x, S, e1, fun F1 H1 v E1 R1 => ⟨F1, x, v, R1, rfl, k F1 H1 _ E1 (.bl _)⟩⟩
end
/-! ### the scope of a comprehension, decided -/
def compOk (osc : Scope) (oN N' : List Str) (scope : Scope) (inner : List (Option Nat)) : Bool :=
  scope.kind == .function && scope.names.all (fun x => x.2 != .cell) && scope.names.all (fun x => x.2 != .local || scope.names.lookup x.1 == some .local) &&
  scope.names.all (fun x => x.2 != .free || (scope.names.lookup x.1 == some .free && (osc.names.lookup x.1 == some .cell || osc.names.lookup x.1 == some .free))) && inner.length == N'.length &&
  (List.range inner.length).all fun i => match inner[i]? with
    | some (some j) => match N'[i]? with
      | some x => oN[j]? == some x && scope.names.lookup x == some .free
      | none => false
    | _ => true
theorem compScope_mk {X : Cx} {N' : List Str} {scope : Scope} {inner : List (Option Nat)} (osc : Scope) (oN : List Str) (h1 : X.env.scope = osc) (h2 : X.N = oN) (h : compOk osc oN N' scope inner = true) : CompScope X N' scope inner := by
  unfold compOk at h
  simp only [Bool.and_eq_true] at h
  obtain ⟨⟨⟨⟨⟨a1, a2⟩, a3⟩, a4⟩, a5⟩, a6⟩ := h
  refine ⟨eq_of_beq a1, fun x hx e => ?_, fun x hx e => ?_, fun x hx e => ?_, eq_of_beq a5, fun i j e => ?_⟩
  · have := List.all_eq_true.mp a2 x hx
    rw [e] at this; cases this
  · have := List.all_eq_true.mp a3 x hx
    rw [e] at this
    rcases Bool.or_eq_true_iff.mp this with z | z
    · cases z
    · exact eq_of_beq z
  · have := List.all_eq_true.mp a4 x hx
    rw [e] at this
    rcases Bool.or_eq_true_iff.mp this with z | z
    · cases z
    · obtain ⟨z1, z2⟩ := Bool.and_eq_true_iff.mp z
      refine ⟨eq_of_beq z1, ?_⟩
      rw [h1]
      rcases Bool.or_eq_true_iff.mp z2 with z | z
      · exact .inl (eq_of_beq z)
      · exact .inr (eq_of_beq z)
  · have hi : i < inner.length := (List.getElem?_eq_some_iff.mp e).1
    have := List.all_eq_true.mp a6 i (List.mem_range.mpr hi)
    rw [e] at this
    dsimp only at this
    split at this
    · rename_i x e2
      obtain ⟨z1, z2⟩ := Bool.and_eq_true_iff.mp this
      exact ⟨x, e2, by rw [h2]; exact eq_of_beq z1, eq_of_beq z2⟩
    · cases this
theorem u64 {k : Nat} {A : Around} (r : Room k A) : A.units + 64 < cLine := by have := r.un; omega
theorem u65 {k : Nat} {A : Around} (r : Room k A) : A.units + 65 < cLine := by have := r.un; omega
theorem u66 {k : Nat} {A : Around} (r : Room k A) : A.units + 66 < cLine := by have := r.un; omega
/-- the law's own promise: a list of at most 63 ints is handed in, True comes out -/
def spLaw (K : PySem.W.Frag) (G : List D → Option D) : Sp := fun vs H Q E => ∃ (a : Addr) (ns : List Int), vs = [.ref a] ∧ SqL K H a (ns.map V.int) ∧ ns.length ≤ 63 ∧ ∀ H', Q (.bl true) H'
theorem ints_reps {K : PySem.W.Frag} {F : Addr → Prop} {H : Hp} : ∀ ns : List Int, Reps K F H (ns.map PyData.int) (ns.map V.int)
  | [] => .nil
  | n :: ns => .cons (.int n) (ints_reps ns)
/-- a law by its denotation -/
theorem law_D {P : Program} {w : World} {K : PySem.W.Frag} {mg : Str → Option Value} {base : Heap} {CX : CXT} {k : Nat} {f : Addr} {fd : FuncData} {ps : List Str} {G : List D → Option D} (F : FnOk P w K mg base CX k f fd ps (spD K 1 G))
    (h : ∀ ns : List Int, ns.length ≤ 63 → G [.list (ns.map PyData.int)] = some (.bool true)) : FnOk P w K mg base CX k f fd ps (spLaw K G) :=
  F.imp fun vs H Q E ⟨a, ns, e, hq, hl, q⟩ => by
    subst e
    refine ⟨fun b => H b ≠ none, [.list (ns.map PyData.int)], .bool true, rfl, fun _ z => z, .cons ?_ .nil, h ns hl, fun F' H' v E' R' => ?_⟩
    · rcases hq with hq | hq
      · refine .lst (.inl ⟨?_, hq⟩) (ints_reps ns)
        rcases hq with hq | ⟨o, hq⟩ <;> (rw [hq]; simp)
      · exact .lst (.inr (.inr hq)) (ints_reps ns)
    · cases R'
      exact q H'
/-- the same with the lengths as written numbers -/
theorem fn_D2 {P : Program} {w : World} {K : PySem.W.Frag} {mg : Str → Option Value} {base : Heap} {x qual : Str} {st : Stmt} {f : Addr} {fd : FuncData} {N ps : List Str} {k n m : Nat} {g : Rho → Option Out} {G : List D → Option D} (hG : G = fnD m g) (hn : ps.length = n) (hm : N.length = m) (F : Fun K x qual st f fd) (S : FnScope N ps (defScope st))
    (hb : ∀ (cdv : Value) (A : Around) (outer : List Env) (s : Shared) (H : Hp) (E : XK), Room k (A.deeper (envOfC qual (defScope st) s.heap.objs.size f cdv)) →
      DSs (cxOf CX0 P w K mg base N qual (defScope st) f cdv A outer s H E).nox (defBody st) g) : FnOk P w K mg base CX0 (k + 1) f fd ps (spD K n G) := by
  subst hn hm hG
  exact fn_D F S hb
end DL

namespace My
open PySem PySem.Spec PySem.SeqAt PyProof.Rows L2 CL DL SD ZL

def top (i : Nat) : Stmt := PySem.Challenge.pw_lampfloor_k10_lines.main.body.getD i (.Pass ⟨0, 0, 0, 0⟩)
abbrev s_crossed : Stmt := top 1
abbrev s_couples_beside : Stmt := top 2
abbrev s__law_cell : Stmt := top 5
abbrev s__law_side : Stmt := top 7
abbrev s__law_at : Stmt := top 9
abbrev s_pinched : Stmt := top 3
abbrev s__law_drawn : Stmt := top 6
abbrev s__law_line : Stmt := top 8
abbrev s_law : Stmt := top 10
def N_crossed : List Str := ["one", "other", "far_x", "far_y", "way_x", "way_y", "gone_x", "gone_y", "cells", "border_x", "border_y"]
theorem sc_crossed : FnScope N_crossed ["one", "other"] (defScope s_crossed) := ⟨rfl, rfl, rfl, by decide +kernel, rfl, by decide +kernel, by decide +kernel⟩
def gcrossed : Rho → Option Out :=
    (sSeq (sSet 2 (eCall dAbs (eCons (eOp dSub (eOp dIx (eV 1) (eC (.int 0))) (eOp dIx (eV 0) (eC (.int 0)))) eNil)))
    (sSeq (sSet 3 (eCall dAbs (eCons (eOp dSub (eOp dIx (eV 1) (eC (.int 1))) (eOp dIx (eV 0) (eC (.int 1)))) eNil)))
    (sSeq (sSet 4 (eIf (eB (eOp dGt (eOp dIx (eV 1) (eC (.int 0))) (eOp dIx (eV 0) (eC (.int 0))))) (eC (.int 1)) (eUn dNeg (eC (.int 1)))))
    (sSeq (sSet 5 (eIf (eB (eOp dGt (eOp dIx (eV 1) (eC (.int 1))) (eOp dIx (eV 0) (eC (.int 1))))) (eC (.int 1)) (eUn dNeg (eC (.int 1)))))
    (sSeq (sSet 6 (eC (.int 0)))
    (sSeq (sSet 7 (eC (.int 0)))
    (sSeq (sOwn 8 (eCons (eV 0) eNil))
    (sSeq (whileN (eOr (eB (eOp dLt (eV 6) (eV 2))) (eB (eOp dLt (eV 7) (eV 3)))) (sSeq (sSet 9 (eOp dMul (eOp dAdd (eOp dMul (eC (.int 2)) (eV 6)) (eC (.int 1))) (eV 3)))
    (sSeq (sSet 10 (eOp dMul (eOp dAdd (eOp dMul (eC (.int 2)) (eV 7)) (eC (.int 1))) (eV 2)))
    (sSeq (sIf (eB (eOp dLe (eV 9) (eV 10))) (sSet 6 (eOp dAdd (eV 6) (eC (.int 1)))) sSkip)
    (sSeq (sIf (eB (eOp dLe (eV 10) (eV 9))) (sSet 7 (eOp dAdd (eV 7) (eC (.int 1)))) sSkip)
    (sApp 8 (eTup (eCons (eOp dAdd (eOp dIx (eV 0) (eC (.int 0))) (eOp dMul (eV 4) (eV 6))) (eCons (eOp dAdd (eOp dIx (eV 0) (eC (.int 1))) (eOp dMul (eV 5) (eV 7))) eNil)))))))) 1000)
    (sRet (eV 8))))))))))
def Gcrossed : List D → Option D := fnD 11 gcrossed
def N_couples_beside : List Str := ["cells", "couples", "here", "there"]
theorem sc_couples_beside : FnScope N_couples_beside ["cells"] (defScope s_couples_beside) := ⟨rfl, rfl, rfl, by decide +kernel, rfl, by decide +kernel, by decide +kernel⟩
def gcouples_beside : Rho → Option Out :=
    (sSeq (sOwn 1 eNil)
    (sSeq (sFor (fun ρ => ((eCons (eV 0) (eCons (eSl (eV 0) (oE (eC (.int 1))) oNo) eNil)) ρ).bind zipD) (uTup 2 (uCons (uName 2) (uCons (uName 3) uNil))) (sIf (eAnd (eB (eOp dNe (eOp dIx (eV 2) (eC (.int 0))) (eOp dIx (eV 3) (eC (.int 0))))) (eB (eOp dNe (eOp dIx (eV 2) (eC (.int 1))) (eOp dIx (eV 3) (eC (.int 1)))))) (sApp 1 (eCall dTuple (eCons (eCall dSorted (eCons (eLst (eCons (eTup (eCons (eOp dIx (eV 2) (eC (.int 0))) (eCons (eOp dIx (eV 3) (eC (.int 1))) eNil))) (eCons (eTup (eCons (eOp dIx (eV 3) (eC (.int 0))) (eCons (eOp dIx (eV 2) (eC (.int 1))) eNil))) eNil))) eNil)) eNil))) sSkip))
    (sRet (eV 1))))
def Gcouples_beside : List D → Option D := fnD 4 gcouples_beside
def N__law_cell : List Str := ["_law_script", "_law_k"]
theorem sc__law_cell : FnScope N__law_cell ["_law_script", "_law_k"] (defScope s__law_cell) := ⟨rfl, rfl, rfl, by decide +kernel, rfl, by decide +kernel, by decide +kernel⟩
def g_law_cell : Rho → Option Out :=
    (sSeq (sIf (eB (eOp dEq (eV 0) (eLst eNil))) (sRet (eOp dMul (eC (.int 7)) (eV 1))) sSkip)
    (sRet (eOp dAdd (eOp dIx (eV 0) (eOp dMod (eV 1) (eCall dLen (eCons (eV 0) eNil)))) (eOp dMul (eC (.int 6553)) (eOp dFdiv (eV 1) (eCall dLen (eCons (eV 0) eNil)))))))
def G_law_cell : List D → Option D := fnD 2 g_law_cell
def N__law_side : List Str := ["_law_across", "_law_down", "_law_x", "_law_y"]
theorem sc__law_side : FnScope N__law_side ["_law_across", "_law_down", "_law_x", "_law_y"] (defScope s__law_side) := ⟨rfl, rfl, rfl, by decide +kernel, rfl, by decide +kernel, by decide +kernel⟩
def g_law_side : Rho → Option Out :=
    (sRet (eOp dSub (eOp dMul (eV 0) (eV 3)) (eOp dMul (eV 1) (eV 2))))
def G_law_side : List D → Option D := fnD 4 g_law_side
def N__law_at : List Str := ["_law_cell_here", "_law_step"]
theorem sc__law_at : FnScope N__law_at ["_law_cell_here", "_law_step"] (defScope s__law_at) := ⟨rfl, rfl, rfl, by decide +kernel, rfl, by decide +kernel, by decide +kernel⟩
def g_law_at : Rho → Option Out :=
    (sRet (eTup (eCons (eOp dAdd (eOp dIx (eV 0) (eC (.int 0))) (eOp dIx (eV 1) (eC (.int 0)))) (eCons (eOp dAdd (eOp dIx (eV 0) (eC (.int 1))) (eOp dIx (eV 1) (eC (.int 1)))) eNil))))
def G_law_at : List D → Option D := fnD 2 g_law_at
def N_pinched : List Str := ["one", "other"]
theorem sc_pinched : FnScope N_pinched ["one", "other"] (defScope s_pinched) := ⟨rfl, rfl, rfl, by decide +kernel, rfl, by decide +kernel, by decide +kernel⟩
def gpinched : Rho → Option Out :=
    (sRet (eCall Gcouples_beside (eCons (eCall Gcrossed (eCons (eV 0) (eCons (eV 1) eNil))) eNil)))
def Gpinched : List D → Option D := fnD 2 gpinched
def N__law_drawn : List Str := ["_law_script", "_law_k", "_law_many", "_law_cell_here"]
theorem sc__law_drawn : FnScope N__law_drawn ["_law_script", "_law_k", "_law_many"] (defScope s__law_drawn) := ⟨rfl, rfl, rfl, by decide +kernel, rfl, by decide +kernel, by decide +kernel⟩
def g_law_drawn : Rho → Option Out :=
    (sSeq (sSet 3 (eOp dMod (eOp dAdd (eOp dMul (eOp dMod (eCall G_law_cell (eCons (eV 0) (eCons (eV 1) eNil))) (eC (.int 2147483563))) (eC (.int 69069))) (eOp dMul (eC (.int 104723)) (eOp dAdd (eV 1) (eC (.int 1))))) (eC (.int 2147483563))))
    (sSeq (sSet 3 (eOp dMod (eOp dAdd (eOp dMul (eV 3) (eV 3)) (eOp dFdiv (eV 3) (eC (.int 3)))) (eC (.int 2147483399))))
    (sRet (eOp dMod (eOp dFdiv (eOp dMod (eOp dAdd (eOp dMul (eV 3) (eV 3)) (eOp dFdiv (eV 3) (eC (.int 7)))) (eC (.int 2147483647))) (eC (.int 11))) (eV 2)))))
def G_law_drawn : List D → Option D := fnD 4 g_law_drawn
def N__law_line : List Str := ["_law_across", "_law_down", "_law_cells", "_law_couples", "_law_x", "_law_y", "_law_corners", "_law_sides", "_law_one", "_law_other"]
theorem sc__law_line : FnScope N__law_line ["_law_across", "_law_down"] (defScope s__law_line) := ⟨rfl, rfl, rfl, by decide +kernel, rfl, by decide +kernel, by decide +kernel⟩
def N__law_line_c1 : List Str := ["_law_corner", "_law_across", "_law_down"]
theorem nd__law_line_c1 : N__law_line_c1.Nodup := by decide +kernel
def N__law_line_c2 : List Str := ["_law_row"]
theorem nd__law_line_c2 : N__law_line_c2.Nodup := by decide +kernel
def g_law_line : Rho → Option Out :=
    (sSeq (sOwn 2 eNil)
    (sSeq (sOwn 3 eNil)
    (sSeq (sFor (fun ρ => ((eCons (eCall dMin (eCons (eC (.int 0)) (eCons (eV 0) eNil))) (eCons (eOp dAdd (eCall dMax (eCons (eC (.int 0)) (eCons (eV 0) eNil))) (eC (.int 1))) eNil)) ρ).bind rng2) (uName 4) (sFor (fun ρ => ((eCons (eCall dMin (eCons (eC (.int 0)) (eCons (eV 1) eNil))) (eCons (eOp dAdd (eCall dMax (eCons (eC (.int 0)) (eCons (eV 1) eNil))) (eC (.int 1))) eNil)) ρ).bind rng2) (uName 5) (sSeq (sSet 6 (eLst (eCons (eTup (eCons (eOp dSub (eOp dMul (eC (.int 2)) (eV 4)) (eC (.int 1))) (eCons (eOp dSub (eOp dMul (eC (.int 2)) (eV 5)) (eC (.int 1))) eNil))) (eCons (eTup (eCons (eOp dAdd (eOp dMul (eC (.int 2)) (eV 4)) (eC (.int 1))) (eCons (eOp dSub (eOp dMul (eC (.int 2)) (eV 5)) (eC (.int 1))) eNil))) (eCons (eTup (eCons (eOp dSub (eOp dMul (eC (.int 2)) (eV 4)) (eC (.int 1))) (eCons (eOp dAdd (eOp dMul (eC (.int 2)) (eV 5)) (eC (.int 1))) eNil))) (eCons (eTup (eCons (eOp dAdd (eOp dMul (eC (.int 2)) (eV 4)) (eC (.int 1))) (eCons (eOp dAdd (eOp dMul (eC (.int 2)) (eV 5)) (eC (.int 1))) eNil))) eNil))))))
    (sSeq (sSet 7 (eLc (eComp (fun ρ => ((eV 6) ρ).bind seqD) (uName 0) eT (eCall G_law_side (eCons (eV 1) (eCons (eV 2) (eCons (eOp dIx (eV 0) (eC (.int 0))) (eCons (eOp dIx (eV 0) (eC (.int 1))) eNil))))) [none, some 0, some 1])))
    (sIf (eOr (eB (eChain dLt dLt (eCall dMin (eCons (eV 7) eNil)) (eC (.int 0)) (eCall dMax (eCons (eV 7) eNil)))) (eAnd (eB (eOp dEq (eV 4) (eV 0))) (eB (eOp dEq (eV 5) (eV 1))))) (sApp 2 (eTup (eCons (eOp dAdd (eCall dAbs (eCons (eV 4) eNil)) (eCall dAbs (eCons (eV 5) eNil))) (eCons (eTup (eCons (eV 4) (eCons (eV 5) eNil))) eNil)))) sSkip)))))
    (sFrz 2 (sSeq (sSet 2 (eLc (eComp (fun ρ => ((eCall dSorted (eCons (eV 2) eNil)) ρ).bind seqD) (uName 0) eT (eOp dIx (eV 0) (eC (.int 1))) [none])))
    (sFrz 2 (sSeq (sFor (fun ρ => ((eCons (eV 2) (eCons (eSl (eV 2) (oE (eC (.int 1))) oNo) eNil)) ρ).bind zipD) (uTup 2 (uCons (uName 8) (uCons (uName 9) uNil))) (sIf (eAnd (eB (eOp dNe (eOp dIx (eV 8) (eC (.int 0))) (eOp dIx (eV 9) (eC (.int 0))))) (eB (eOp dNe (eOp dIx (eV 8) (eC (.int 1))) (eOp dIx (eV 9) (eC (.int 1)))))) (sApp 3 (eCall dTuple (eCons (eCall dSorted (eCons (eLst (eCons (eTup (eCons (eOp dIx (eV 8) (eC (.int 0))) (eCons (eOp dIx (eV 9) (eC (.int 1))) eNil))) (eCons (eTup (eCons (eOp dIx (eV 9) (eC (.int 0))) (eCons (eOp dIx (eV 8) (eC (.int 1))) eNil))) eNil))) eNil)) eNil))) sSkip))
    (sRet (eTup (eCons (eV 2) (eCons (eV 3) eNil)))))))))))
def G_law_line : List D → Option D := fnD 10 g_law_line
def N_law : List Str := ["_law_script", "_law_k", "_law_one", "_law_across", "_law_down", "_law_cells", "_law_couples", "_law_other", "_law_told", "_law_due"]
theorem sc_law : FnScope N_law ["_law_script"] (defScope s_law) := ⟨rfl, rfl, rfl, by decide +kernel, rfl, by decide +kernel, by decide +kernel⟩
def N_law_c1 : List Str := ["_law_step", "_law_one"]
theorem nd_law_c1 : N_law_c1.Nodup := by decide +kernel
def N_law_c2 : List Str := ["_law_step", "_law_more", "_law_one"]
theorem nd_law_c2 : N_law_c2.Nodup := by decide +kernel
def glaw : Rho → Option Out :=
    (sSeq (sFor (fun ρ => ((eCons (eCall dMax (eCons (eC (.int 1)) (eCons (eCall dMin (eCons (eC (.int 6)) (eCons (eCall dLen (eCons (eV 0) eNil)) eNil))) eNil))) eNil) ρ).bind rng1) (uName 1) (sSeq (sSet 2 (eTup (eCons (eOp dSub (eCall G_law_drawn (eCons (eV 0) (eCons (eOp dMul (eC (.int 10)) (eV 1)) (eCons (eC (.int 40)) eNil)))) (eC (.int 20))) (eCons (eOp dSub (eCall G_law_drawn (eCons (eV 0) (eCons (eOp dAdd (eOp dMul (eC (.int 10)) (eV 1)) (eC (.int 1))) (eCons (eC (.int 40)) eNil)))) (eC (.int 20))) eNil))))
    (sSeq (sSet 3 (eOp dSub (eCall G_law_drawn (eCons (eV 0) (eCons (eOp dAdd (eOp dMul (eC (.int 10)) (eV 1)) (eC (.int 2))) (eCons (eC (.int 19)) eNil)))) (eC (.int 9))))
    (sSeq (sSet 4 (eOp dSub (eCall G_law_drawn (eCons (eV 0) (eCons (eOp dAdd (eOp dMul (eC (.int 10)) (eV 1)) (eC (.int 3))) (eCons (eC (.int 19)) eNil)))) (eC (.int 9))))
    (sSeq (sIf (eB (eOp dEq (eCall G_law_drawn (eCons (eV 0) (eCons (eOp dAdd (eOp dMul (eC (.int 10)) (eV 1)) (eC (.int 4))) (eCons (eC (.int 2)) eNil)))) (eC (.int 0)))) (sSet 4 (eOp dIx (eLst (eCons (eV 3) (eCons (eOp dSub (eC (.int 0)) (eV 3)) (eCons (eOp dFdiv (eV 3) (eC (.int 3))) (eCons (eOp dMul (eC (.int 3)) (eOp dFdiv (eV 3) (eC (.int 4)))) (eCons (eC (.int 0)) eNil)))))) (eCall G_law_drawn (eCons (eV 0) (eCons (eOp dAdd (eOp dMul (eC (.int 10)) (eV 1)) (eC (.int 5))) (eCons (eC (.int 5)) eNil)))))) sSkip)
    (sSeq (sAsg (eCall G_law_line (eCons (eV 3) (eCons (eV 4) eNil))) (uTup 2 (uCons (uName 5) (uCons (uName 6) uNil))))
    (sSeq (sSet 7 (eTup (eCons (eOp dAdd (eOp dIx (eV 2) (eC (.int 0))) (eV 3)) (eCons (eOp dAdd (eOp dIx (eV 2) (eC (.int 1))) (eV 4)) eNil))))
    (sSeq (sSet 8 (eCall Gcrossed (eCons (eV 2) (eCons (eV 7) eNil))))
    (sSeq (sIf (eOr (eNot (eB (eIs "list" (eV 8)))) (eB (eOp dNe (eV 8) (eLc (eComp (fun ρ => ((eV 5) ρ).bind seqD) (uName 0) eT (eCall G_law_at (eCons (eV 1) (eCons (eV 0) eNil))) [none, some 2]))))) (sRet (eC (.bool false))) sSkip)
    (sSeq (sSet 9 (eLc (eComp (fun ρ => ((eV 6) ρ).bind seqD) (uTup 2 (uCons (uName 0) (uCons (uName 1) uNil))) eT (eCall dTuple (eCons (eCall dSorted (eCons (eLst (eCons (eCall G_law_at (eCons (eV 2) (eCons (eV 0) eNil))) (eCons (eCall G_law_at (eCons (eV 2) (eCons (eV 1) eNil))) eNil))) eNil)) eNil)) [none, none, some 2])))
    (sIf (eB (eOp dNe (eCall Gpinched (eCons (eV 2) (eCons (eV 7) eNil))) (eV 9))) (sRet (eC (.bool false))) sSkip)))))))))))
    (sRet (eC (.bool true))))
def Glaw : List D → Option D := fnD 10 glaw
/-- what the top has written -/
structure Txt (K : PySem.W.Frag) (mg : Str → Option Value) (f_crossed : Addr) (fd_crossed : FuncData) (f_couples_beside : Addr) (fd_couples_beside : FuncData) (f__law_cell : Addr) (fd__law_cell : FuncData) (f__law_side : Addr) (fd__law_side : FuncData) (f__law_at : Addr) (fd__law_at : FuncData) (f_pinched : Addr) (fd_pinched : FuncData) (f__law_drawn : Addr) (fd__law_drawn : FuncData) (f__law_line : Addr) (fd__law_line : FuncData) (f_law : Addr) (fd_law : FuncData) : Prop where
  F_crossed : Fun K "crossed" "crossed" s_crossed f_crossed fd_crossed
  m_crossed : mg "crossed" = some (.ref f_crossed)
  b_crossed : L2.Binds K fd_crossed ["one", "other"] []
  F_couples_beside : Fun K "couples_beside" "couples_beside" s_couples_beside f_couples_beside fd_couples_beside
  m_couples_beside : mg "couples_beside" = some (.ref f_couples_beside)
  b_couples_beside : L2.Binds K fd_couples_beside ["cells"] []
  F__law_cell : Fun K "_law_cell" "_law_cell" s__law_cell f__law_cell fd__law_cell
  m__law_cell : mg "_law_cell" = some (.ref f__law_cell)
  b__law_cell : L2.Binds K fd__law_cell ["_law_script", "_law_k"] []
  F__law_side : Fun K "_law_side" "_law_side" s__law_side f__law_side fd__law_side
  m__law_side : mg "_law_side" = some (.ref f__law_side)
  b__law_side : L2.Binds K fd__law_side ["_law_across", "_law_down", "_law_x", "_law_y"] []
  F__law_at : Fun K "_law_at" "_law_at" s__law_at f__law_at fd__law_at
  m__law_at : mg "_law_at" = some (.ref f__law_at)
  b__law_at : L2.Binds K fd__law_at ["_law_cell_here", "_law_step"] []
  F_pinched : Fun K "pinched" "pinched" s_pinched f_pinched fd_pinched
  m_pinched : mg "pinched" = some (.ref f_pinched)
  b_pinched : L2.Binds K fd_pinched ["one", "other"] []
  F__law_drawn : Fun K "_law_drawn" "_law_drawn" s__law_drawn f__law_drawn fd__law_drawn
  m__law_drawn : mg "_law_drawn" = some (.ref f__law_drawn)
  b__law_drawn : L2.Binds K fd__law_drawn ["_law_script", "_law_k", "_law_many"] []
  F__law_line : Fun K "_law_line" "_law_line" s__law_line f__law_line fd__law_line
  m__law_line : mg "_law_line" = some (.ref f__law_line)
  b__law_line : L2.Binds K fd__law_line ["_law_across", "_law_down"] []
  F_law : Fun K "law" "law" s_law f_law fd_law
  m_law : mg "law" = some (.ref f_law)
  b_law : L2.Binds K fd_law ["_law_script"] []
  z_abs : mg "abs" = none
  z_zip : mg "zip" = none
  z_sorted : mg "sorted" = none
  z_tuple : mg "tuple" = none
  z_len : mg "len" = none
  z_max : mg "max" = none
  z_min : mg "min" = none
  z_range : mg "range" = none
  z_isinstance : mg "isinstance" = none
  z_list : mg "list" = none
section
variable {P : Program} {w : World} {K : PySem.W.Frag} {mg : Str → Option Value} {base : Heap} {f_crossed : Addr} {fd_crossed : FuncData} {f_couples_beside : Addr} {fd_couples_beside : FuncData} {f__law_cell : Addr} {fd__law_cell : FuncData} {f__law_side : Addr} {fd__law_side : FuncData} {f__law_at : Addr} {fd__law_at : FuncData} {f_pinched : Addr} {fd_pinched : FuncData} {f__law_drawn : Addr} {fd__law_drawn : FuncData} {f__law_line : Addr} {fd__law_line : FuncData} {f_law : Addr} {fd_law : FuncData}
set_option maxRecDepth 100000 in
set_option maxHeartbeats 4000000 in
theorem ok_crossed (T : Txt K mg f_crossed fd_crossed f_couples_beside fd_couples_beside f__law_cell fd__law_cell f__law_side fd__law_side f__law_at fd__law_at f_pinched fd_pinched f__law_drawn fd__law_drawn f__law_line fd__law_line f_law fd_law)  : FnOk P w K mg base CX0 1 f_crossed fd_crossed ["one", "other"] (spD K 2 Gcrossed) := by
  refine fn_D2 (g := gcrossed) (G := Gcrossed) (N := N_crossed) (k := 0) rfl rfl rfl T.F_crossed sc_crossed fun cdv A outer s H E hr => ?_
  exact (dss_cons (ds_set (i := 2) sc_crossed.nd (de_callB cd_abs rfl T.z_abs boot_abs (da_cons (de_op opd_sub (de_ix ixd (de_var 1) de_int) (de_ix ixd (de_var 0) de_int)) da_nil)))
    (dss_cons (ds_set (i := 3) sc_crossed.nd (de_callB cd_abs rfl T.z_abs boot_abs (da_cons (de_op opd_sub (de_ix ixd (de_var 1) de_int) (de_ix ixd (de_var 0) de_int)) da_nil)))
    (dss_cons (ds_set (i := 4) sc_crossed.nd (de_if (dt_cmp opd_gt (de_ix ixd (de_var 1) de_int) (de_ix ixd (de_var 0) de_int) (nomark _)) de_int (de_un und_neg de_int)))
    (dss_cons (ds_set (i := 5) sc_crossed.nd (de_if (dt_cmp opd_gt (de_ix ixd (de_var 1) de_int) (de_ix ixd (de_var 0) de_int) (nomark _)) de_int (de_un und_neg de_int)))
    (dss_cons (ds_set (i := 6) sc_crossed.nd de_int)
    (dss_cons (ds_set (i := 7) sc_crossed.nd de_int)
    (dss_cons (ds_own (i := 8) sc_crossed.nd (da_cons (de_var 0) da_nil))
    (dss_cons (ds_while 1000 PassesOwn.never (dw_t (dw_or (dt_cmp opd_lt (de_var 6) (de_var 2) (nomark _)) (dw_or1 (dt_cmp opd_lt (de_var 7) (de_var 3) (nomark _))))) (dss_cons (ds_set (i := 9) sc_crossed.nd (de_op opd_mul (de_op opd_add (de_op opd_mul de_int (de_var 6)) de_int) (de_var 3)))
    (dss_cons (ds_set (i := 10) sc_crossed.nd (de_op opd_mul (de_op opd_add (de_op opd_mul de_int (de_var 7)) de_int) (de_var 2)))
    (dss_cons (ds_if (dt_cmp opd_le (de_var 9) (de_var 10) (nomark _)) (dss_one (ds_set (i := 6) sc_crossed.nd (de_op opd_add (de_var 6) de_int))) dss_nil)
    (dss_cons (ds_if (dt_cmp opd_le (de_var 10) (de_var 9) (nomark _)) (dss_one (ds_set (i := 7) sc_crossed.nd (de_op opd_add (de_var 7) de_int))) dss_nil)
    (dss_one (ds_app (i := 8) (de_tup (da_cons (de_op opd_add (de_ix ixd (de_var 0) de_int) (de_op opd_mul (de_var 4) (de_var 6))) (da_cons (de_op opd_add (de_ix ixd (de_var 0) de_int) (de_op opd_mul (de_var 5) (de_var 7))) da_nil))))))))))
    (dss_one (ds_ret (de_var 8)))))))))))
set_option maxRecDepth 100000 in
set_option maxHeartbeats 4000000 in
theorem ok_couples_beside (T : Txt K mg f_crossed fd_crossed f_couples_beside fd_couples_beside f__law_cell fd__law_cell f__law_side fd__law_side f__law_at fd__law_at f_pinched fd_pinched f__law_drawn fd__law_drawn f__law_line fd__law_line f_law fd_law)  : FnOk P w K mg base CX0 1 f_couples_beside fd_couples_beside ["cells"] (spD K 1 Gcouples_beside) := by
  refine fn_D2 (g := gcouples_beside) (G := Gcouples_beside) (N := N_couples_beside) (k := 0) rfl rfl rfl T.F_couples_beside sc_couples_beside fun cdv A outer s H E hr => ?_
  exact (dss_cons (ds_own (i := 1) sc_couples_beside.nd da_nil)
    (dss_cons (ds_for PassesOwn.never rfl (di_zip rfl T.z_zip (da_cons (de_var 0) (da_cons (de_slice (de_var 0) (do_some de_int) do_none) da_nil))) (dg_tup rfl (dgs_cons (dg_name (i := 2) sc_couples_beside.nd) (dgs_cons (dg_name (i := 3) sc_couples_beside.nd) dgs_nil))) (dss_one (ds_if (dw_t (dw_and (dt_cmp (opd_ne (u64 hr)) (de_ix ixd (de_var 2) de_int) (de_ix ixd (de_var 3) de_int) (nomark _)) (dw_and1 (dt_cmp (opd_ne (u64 hr)) (de_ix ixd (de_var 2) de_int) (de_ix ixd (de_var 3) de_int) (nomark _))))) (dss_one (ds_app (i := 1) (de_callTy cd_tuple rfl T.z_tuple boot_tuple (da_cons (de_callB (cd_sorted (u66 hr)) rfl T.z_sorted boot_sorted (da_cons (de_lst (da_cons (de_tup (da_cons (de_ix ixd (de_var 2) de_int) (da_cons (de_ix ixd (de_var 3) de_int) da_nil))) (da_cons (de_tup (da_cons (de_ix ixd (de_var 3) de_int) (da_cons (de_ix ixd (de_var 2) de_int) da_nil))) da_nil))) da_nil)) da_nil)))) dss_nil)))
    (dss_one (ds_ret (de_var 1)))))
set_option maxRecDepth 100000 in
set_option maxHeartbeats 4000000 in
theorem ok__law_cell (T : Txt K mg f_crossed fd_crossed f_couples_beside fd_couples_beside f__law_cell fd__law_cell f__law_side fd__law_side f__law_at fd__law_at f_pinched fd_pinched f__law_drawn fd__law_drawn f__law_line fd__law_line f_law fd_law)  : FnOk P w K mg base CX0 1 f__law_cell fd__law_cell ["_law_script", "_law_k"] (spD K 2 G_law_cell) := by
  refine fn_D2 (g := g_law_cell) (G := G_law_cell) (N := N__law_cell) (k := 0) rfl rfl rfl T.F__law_cell sc__law_cell fun cdv A outer s H E hr => ?_
  exact (dss_cons (ds_if (dt_cmp (opd_eq (u64 hr)) (de_var 0) (de_lst da_nil) (nomark _)) (dss_one (ds_ret (de_op opd_mul de_int (de_var 1)))) dss_nil)
    (dss_one (ds_ret (de_op opd_add (de_ix ixd (de_var 0) (de_op opd_mod (de_var 1) (de_callB cd_len rfl T.z_len PySem.boot_len (da_cons (de_var 0) da_nil)))) (de_op opd_mul de_int (de_op opd_fdiv (de_var 1) (de_callB cd_len rfl T.z_len PySem.boot_len (da_cons (de_var 0) da_nil))))))))
set_option maxRecDepth 100000 in
set_option maxHeartbeats 4000000 in
theorem ok__law_side (T : Txt K mg f_crossed fd_crossed f_couples_beside fd_couples_beside f__law_cell fd__law_cell f__law_side fd__law_side f__law_at fd__law_at f_pinched fd_pinched f__law_drawn fd__law_drawn f__law_line fd__law_line f_law fd_law)  : FnOk P w K mg base CX0 1 f__law_side fd__law_side ["_law_across", "_law_down", "_law_x", "_law_y"] (spD K 4 G_law_side) := by
  refine fn_D2 (g := g_law_side) (G := G_law_side) (N := N__law_side) (k := 0) rfl rfl rfl T.F__law_side sc__law_side fun cdv A outer s H E hr => ?_
  exact (dss_one (ds_ret (de_op opd_sub (de_op opd_mul (de_var 0) (de_var 3)) (de_op opd_mul (de_var 1) (de_var 2)))))
set_option maxRecDepth 100000 in
set_option maxHeartbeats 4000000 in
theorem ok__law_at (T : Txt K mg f_crossed fd_crossed f_couples_beside fd_couples_beside f__law_cell fd__law_cell f__law_side fd__law_side f__law_at fd__law_at f_pinched fd_pinched f__law_drawn fd__law_drawn f__law_line fd__law_line f_law fd_law)  : FnOk P w K mg base CX0 1 f__law_at fd__law_at ["_law_cell_here", "_law_step"] (spD K 2 G_law_at) := by
  refine fn_D2 (g := g_law_at) (G := G_law_at) (N := N__law_at) (k := 0) rfl rfl rfl T.F__law_at sc__law_at fun cdv A outer s H E hr => ?_
  exact (dss_one (ds_ret (de_tup (da_cons (de_op opd_add (de_ix ixd (de_var 0) de_int) (de_ix ixd (de_var 1) de_int)) (da_cons (de_op opd_add (de_ix ixd (de_var 0) de_int) (de_ix ixd (de_var 1) de_int)) da_nil)))))
set_option maxRecDepth 100000 in
set_option maxHeartbeats 4000000 in
theorem ok_pinched (T : Txt K mg f_crossed fd_crossed f_couples_beside fd_couples_beside f__law_cell fd__law_cell f__law_side fd__law_side f__law_at fd__law_at f_pinched fd_pinched f__law_drawn fd__law_drawn f__law_line fd__law_line f_law fd_law) (G_couples_beside : FnOk P w K mg base CX0 1 f_couples_beside fd_couples_beside ["cells"] (spD K 1 Gcouples_beside)) (G_crossed : FnOk P w K mg base CX0 1 f_crossed fd_crossed ["one", "other"] (spD K 2 Gcrossed)) : FnOk P w K mg base CX0 2 f_pinched fd_pinched ["one", "other"] (spD K 2 Gpinched) := by
  refine fn_D2 (g := gpinched) (G := Gpinched) (N := N_pinched) (k := 1) rfl rfl rfl T.F_pinched sc_pinched fun cdv A outer s H E hr => ?_
  exact (dss_one (ds_ret (de_call G_couples_beside (hr.mono (by decide)) rfl T.m_couples_beside T.F_couples_beside.kp T.b_couples_beside (da_cons (de_call G_crossed (hr.mono (by decide)) rfl T.m_crossed T.F_crossed.kp T.b_crossed (da_cons (de_var 0) (da_cons (de_var 1) da_nil)) (eCons_len (eCons_len (fun _ _ h => eNil_len h)))) da_nil) (eCons_len (fun _ _ h => eNil_len h)))))
set_option maxRecDepth 100000 in
set_option maxHeartbeats 4000000 in
theorem ok__law_drawn (T : Txt K mg f_crossed fd_crossed f_couples_beside fd_couples_beside f__law_cell fd__law_cell f__law_side fd__law_side f__law_at fd__law_at f_pinched fd_pinched f__law_drawn fd__law_drawn f__law_line fd__law_line f_law fd_law) (G__law_cell : FnOk P w K mg base CX0 1 f__law_cell fd__law_cell ["_law_script", "_law_k"] (spD K 2 G_law_cell)) : FnOk P w K mg base CX0 2 f__law_drawn fd__law_drawn ["_law_script", "_law_k", "_law_many"] (spD K 3 G_law_drawn) := by
  refine fn_D2 (g := g_law_drawn) (G := G_law_drawn) (N := N__law_drawn) (k := 1) rfl rfl rfl T.F__law_drawn sc__law_drawn fun cdv A outer s H E hr => ?_
  exact (dss_cons (ds_set (i := 3) sc__law_drawn.nd (de_op opd_mod (de_op opd_add (de_op opd_mul (de_op opd_mod (de_call G__law_cell (hr.mono (by decide)) rfl T.m__law_cell T.F__law_cell.kp T.b__law_cell (da_cons (de_var 0) (da_cons (de_var 1) da_nil)) (eCons_len (eCons_len (fun _ _ h => eNil_len h)))) de_int) de_int) (de_op opd_mul de_int (de_op opd_add (de_var 1) de_int))) de_int))
    (dss_cons (ds_set (i := 3) sc__law_drawn.nd (de_op opd_mod (de_op opd_add (de_op opd_mul (de_var 3) (de_var 3)) (de_op opd_fdiv (de_var 3) de_int)) de_int))
    (dss_one (ds_ret (de_op opd_mod (de_op opd_fdiv (de_op opd_mod (de_op opd_add (de_op opd_mul (de_var 3) (de_var 3)) (de_op opd_fdiv (de_var 3) de_int)) de_int) de_int) (de_var 2))))))
set_option maxRecDepth 100000 in
set_option maxHeartbeats 4000000 in
theorem ok__law_line (T : Txt K mg f_crossed fd_crossed f_couples_beside fd_couples_beside f__law_cell fd__law_cell f__law_side fd__law_side f__law_at fd__law_at f_pinched fd_pinched f__law_drawn fd__law_drawn f__law_line fd__law_line f_law fd_law) (G__law_side : FnOk P w K mg base CX0 1 f__law_side fd__law_side ["_law_across", "_law_down", "_law_x", "_law_y"] (spD K 4 G_law_side)) : FnOk P w K mg base CX0 2 f__law_line fd__law_line ["_law_across", "_law_down"] (spD K 2 G_law_line) := by
  refine fn_D2 (g := g_law_line) (G := G_law_line) (N := N__law_line) (k := 1) rfl rfl rfl T.F__law_line sc__law_line fun cdv A outer s H E hr => ?_
  exact (dss_cons (ds_own (i := 2) sc__law_line.nd da_nil)
    (dss_cons (ds_own (i := 3) sc__law_line.nd da_nil)
    (dss_cons (ds_for PassesOwn.never rfl (di_range2 rfl T.z_range (da_cons (de_callB (cd_min rfl) rfl T.z_min boot_min (da_cons de_int (da_cons (de_var 0) da_nil))) (da_cons (de_op opd_add (de_callB (cd_max rfl) rfl T.z_max boot_max (da_cons de_int (da_cons (de_var 0) da_nil))) de_int) da_nil))) (dg_name (i := 4) sc__law_line.nd) (dss_one (ds_for PassesOwn.never rfl (di_range2 rfl T.z_range (da_cons (de_callB (cd_min rfl) rfl T.z_min boot_min (da_cons de_int (da_cons (de_var 1) da_nil))) (da_cons (de_op opd_add (de_callB (cd_max rfl) rfl T.z_max boot_max (da_cons de_int (da_cons (de_var 1) da_nil))) de_int) da_nil))) (dg_name (i := 5) sc__law_line.nd) (dss_cons (ds_set (i := 6) sc__law_line.nd (de_lst (da_cons (de_tup (da_cons (de_op opd_sub (de_op opd_mul de_int (de_var 4)) de_int) (da_cons (de_op opd_sub (de_op opd_mul de_int (de_var 5)) de_int) da_nil))) (da_cons (de_tup (da_cons (de_op opd_add (de_op opd_mul de_int (de_var 4)) de_int) (da_cons (de_op opd_sub (de_op opd_mul de_int (de_var 5)) de_int) da_nil))) (da_cons (de_tup (da_cons (de_op opd_sub (de_op opd_mul de_int (de_var 4)) de_int) (da_cons (de_op opd_add (de_op opd_mul de_int (de_var 5)) de_int) da_nil))) (da_cons (de_tup (da_cons (de_op opd_add (de_op opd_mul de_int (de_var 4)) de_int) (da_cons (de_op opd_add (de_op opd_mul de_int (de_var 5)) de_int) da_nil))) da_nil))))))
    (dss_cons (ds_comp (i := 7) sc__law_line.nd rfl (compScope_mk (N' := N__law_line_c1) (inner := [none, some 0, some 1]) (defScope s__law_line) N__law_line rfl rfl (by decide +kernel)) (kp_name 0) (di_val (de_var 6)) (fun _ _ _ _ _ => (dg_name (i := 0) nd__law_line_c1)) (fun _ _ _ _ _ => dts_nil) (fun _ _ _ _ _ => (de_call G__law_side (hr.mono (by decide)) rfl T.m__law_side T.F__law_side.kp T.b__law_side (da_cons (de_var 1) (da_cons (de_var 2) (da_cons (de_ix ixd (de_var 0) de_int) (da_cons (de_ix ixd (de_var 0) de_int) da_nil)))) (eCons_len (eCons_len (eCons_len (eCons_len (fun _ _ h => eNil_len h))))))))
    (dss_one (ds_if (dw_t (dw_or (dt_chain opd_lt opd_lt (de_callB (cd_min rfl) rfl T.z_min boot_min (da_cons (de_var 7) da_nil)) de_int (de_callB (cd_max rfl) rfl T.z_max boot_max (da_cons (de_var 7) da_nil))) (dw_or1 (dw_t (dw_and (dt_cmp (opd_eq (u64 hr)) (de_var 4) (de_var 0) (nomark _)) (dw_and1 (dt_cmp (opd_eq (u64 hr)) (de_var 5) (de_var 1) (nomark _)))))))) (dss_one (ds_app (i := 2) (de_tup (da_cons (de_op opd_add (de_callB cd_abs rfl T.z_abs boot_abs (da_cons (de_var 4) da_nil)) (de_callB cd_abs rfl T.z_abs boot_abs (da_cons (de_var 5) da_nil))) (da_cons (de_tup (da_cons (de_var 4) (da_cons (de_var 5) da_nil))) da_nil))))) dss_nil)))))))
    (dss_frz 2 (dss_cons (ds_comp (i := 2) sc__law_line.nd rfl (compScope_mk (N' := N__law_line_c2) (inner := [none]) (defScope s__law_line) N__law_line rfl rfl (by decide +kernel)) (kp_name 0) (di_val (de_callB (cd_sorted (u66 hr)) rfl T.z_sorted boot_sorted (da_cons (de_var 2) da_nil))) (fun _ _ _ _ _ => (dg_name (i := 0) nd__law_line_c2)) (fun _ _ _ _ _ => dts_nil) (fun _ _ _ _ _ => (de_ix ixd (de_var 0) de_int)))
    (dss_frz 2 (dss_cons (ds_for PassesOwn.never rfl (di_zip rfl T.z_zip (da_cons (de_var 2) (da_cons (de_slice (de_var 2) (do_some de_int) do_none) da_nil))) (dg_tup rfl (dgs_cons (dg_name (i := 8) sc__law_line.nd) (dgs_cons (dg_name (i := 9) sc__law_line.nd) dgs_nil))) (dss_one (ds_if (dw_t (dw_and (dt_cmp (opd_ne (u64 hr)) (de_ix ixd (de_var 8) de_int) (de_ix ixd (de_var 9) de_int) (nomark _)) (dw_and1 (dt_cmp (opd_ne (u64 hr)) (de_ix ixd (de_var 8) de_int) (de_ix ixd (de_var 9) de_int) (nomark _))))) (dss_one (ds_app (i := 3) (de_callTy cd_tuple rfl T.z_tuple boot_tuple (da_cons (de_callB (cd_sorted (u66 hr)) rfl T.z_sorted boot_sorted (da_cons (de_lst (da_cons (de_tup (da_cons (de_ix ixd (de_var 8) de_int) (da_cons (de_ix ixd (de_var 9) de_int) da_nil))) (da_cons (de_tup (da_cons (de_ix ixd (de_var 9) de_int) (da_cons (de_ix ixd (de_var 8) de_int) da_nil))) da_nil))) da_nil)) da_nil)))) dss_nil)))
    (dss_one (ds_ret (de_tup (da_cons (de_var 2) (da_cons (de_var 3) da_nil))))))))))))
set_option maxRecDepth 100000 in
set_option maxHeartbeats 4000000 in
theorem ok_law (T : Txt K mg f_crossed fd_crossed f_couples_beside fd_couples_beside f__law_cell fd__law_cell f__law_side fd__law_side f__law_at fd__law_at f_pinched fd_pinched f__law_drawn fd__law_drawn f__law_line fd__law_line f_law fd_law) (G__law_line : FnOk P w K mg base CX0 2 f__law_line fd__law_line ["_law_across", "_law_down"] (spD K 2 G_law_line)) (G_crossed : FnOk P w K mg base CX0 1 f_crossed fd_crossed ["one", "other"] (spD K 2 Gcrossed)) (G__law_drawn : FnOk P w K mg base CX0 2 f__law_drawn fd__law_drawn ["_law_script", "_law_k", "_law_many"] (spD K 3 G_law_drawn)) (G_pinched : FnOk P w K mg base CX0 2 f_pinched fd_pinched ["one", "other"] (spD K 2 Gpinched)) (G__law_at : FnOk P w K mg base CX0 1 f__law_at fd__law_at ["_law_cell_here", "_law_step"] (spD K 2 G_law_at)) : FnOk P w K mg base CX0 3 f_law fd_law ["_law_script"] (spD K 1 Glaw) := by
  refine fn_D2 (g := glaw) (G := Glaw) (N := N_law) (k := 2) rfl rfl rfl T.F_law sc_law fun cdv A outer s H E hr => ?_
  exact (dss_cons (ds_for PassesOwn.never rfl (di_range1 rfl T.z_range (da_cons (de_callB (cd_max rfl) rfl T.z_max boot_max (da_cons de_int (da_cons (de_callB (cd_min rfl) rfl T.z_min boot_min (da_cons de_int (da_cons (de_callB cd_len rfl T.z_len PySem.boot_len (da_cons (de_var 0) da_nil)) da_nil))) da_nil))) da_nil)) (dg_name (i := 1) sc_law.nd) (dss_cons (ds_set (i := 2) sc_law.nd (de_tup (da_cons (de_op opd_sub (de_call G__law_drawn (hr.mono (by decide)) rfl T.m__law_drawn T.F__law_drawn.kp T.b__law_drawn (da_cons (de_var 0) (da_cons (de_op opd_mul de_int (de_var 1)) (da_cons de_int da_nil))) (eCons_len (eCons_len (eCons_len (fun _ _ h => eNil_len h))))) de_int) (da_cons (de_op opd_sub (de_call G__law_drawn (hr.mono (by decide)) rfl T.m__law_drawn T.F__law_drawn.kp T.b__law_drawn (da_cons (de_var 0) (da_cons (de_op opd_add (de_op opd_mul de_int (de_var 1)) de_int) (da_cons de_int da_nil))) (eCons_len (eCons_len (eCons_len (fun _ _ h => eNil_len h))))) de_int) da_nil))))
    (dss_cons (ds_set (i := 3) sc_law.nd (de_op opd_sub (de_call G__law_drawn (hr.mono (by decide)) rfl T.m__law_drawn T.F__law_drawn.kp T.b__law_drawn (da_cons (de_var 0) (da_cons (de_op opd_add (de_op opd_mul de_int (de_var 1)) de_int) (da_cons de_int da_nil))) (eCons_len (eCons_len (eCons_len (fun _ _ h => eNil_len h))))) de_int))
    (dss_cons (ds_set (i := 4) sc_law.nd (de_op opd_sub (de_call G__law_drawn (hr.mono (by decide)) rfl T.m__law_drawn T.F__law_drawn.kp T.b__law_drawn (da_cons (de_var 0) (da_cons (de_op opd_add (de_op opd_mul de_int (de_var 1)) de_int) (da_cons de_int da_nil))) (eCons_len (eCons_len (eCons_len (fun _ _ h => eNil_len h))))) de_int))
    (dss_cons (ds_if (dt_cmp (opd_eq (u64 hr)) (de_call G__law_drawn (hr.mono (by decide)) rfl T.m__law_drawn T.F__law_drawn.kp T.b__law_drawn (da_cons (de_var 0) (da_cons (de_op opd_add (de_op opd_mul de_int (de_var 1)) de_int) (da_cons de_int da_nil))) (eCons_len (eCons_len (eCons_len (fun _ _ h => eNil_len h))))) de_int (nomark _)) (dss_one (ds_set (i := 4) sc_law.nd (de_ix ixd (de_lst (da_cons (de_var 3) (da_cons (de_op opd_sub de_int (de_var 3)) (da_cons (de_op opd_fdiv (de_var 3) de_int) (da_cons (de_op opd_mul de_int (de_op opd_fdiv (de_var 3) de_int)) (da_cons de_int da_nil)))))) (de_call G__law_drawn (hr.mono (by decide)) rfl T.m__law_drawn T.F__law_drawn.kp T.b__law_drawn (da_cons (de_var 0) (da_cons (de_op opd_add (de_op opd_mul de_int (de_var 1)) de_int) (da_cons de_int da_nil))) (eCons_len (eCons_len (eCons_len (fun _ _ h => eNil_len h)))))))) dss_nil)
    (dss_cons (ds_asg (de_call G__law_line (hr.mono (by decide)) rfl T.m__law_line T.F__law_line.kp T.b__law_line (da_cons (de_var 3) (da_cons (de_var 4) da_nil)) (eCons_len (eCons_len (fun _ _ h => eNil_len h)))) (dg_tup rfl (dgs_cons (dg_name (i := 5) sc_law.nd) (dgs_cons (dg_name (i := 6) sc_law.nd) dgs_nil))))
    (dss_cons (ds_set (i := 7) sc_law.nd (de_tup (da_cons (de_op opd_add (de_ix ixd (de_var 2) de_int) (de_var 3)) (da_cons (de_op opd_add (de_ix ixd (de_var 2) de_int) (de_var 4)) da_nil))))
    (dss_cons (ds_set (i := 8) sc_law.nd (de_call G_crossed (hr.mono (by decide)) rfl T.m_crossed T.F_crossed.kp T.b_crossed (da_cons (de_var 2) (da_cons (de_var 7) da_nil)) (eCons_len (eCons_len (fun _ _ h => eNil_len h)))))
    (dss_cons (ds_if (dw_t (dw_or (dt_not (dt_val (de_isinst (T := "list") (.inl rfl) rfl T.z_isinstance rfl T.z_list boot_list (by decide) (de_var 8)))) (dw_or1 (dt_cmp (opd_ne (u64 hr)) (de_var 8) (de_comp rfl (compScope_mk (N' := N_law_c1) (inner := [none, some 2]) (defScope s_law) N_law rfl rfl (by decide +kernel)) (kp_name 0) (di_val (de_var 5)) (fun _ _ _ _ _ => (dg_name (i := 0) nd_law_c1)) (fun _ _ _ _ _ => dts_nil) (fun _ _ _ _ _ => (de_call G__law_at (hr.mono (by decide)) rfl T.m__law_at T.F__law_at.kp T.b__law_at (da_cons (de_var 1) (da_cons (de_var 0) da_nil)) (eCons_len (eCons_len (fun _ _ h => eNil_len h)))))) (nomark _))))) (dss_one (ds_ret de_bl)) dss_nil)
    (dss_cons (ds_comp (i := 9) sc_law.nd rfl (compScope_mk (N' := N_law_c2) (inner := [none, none, some 2]) (defScope s_law) N_law rfl rfl (by decide +kernel)) (kp_tup (kp_cons (kp_name 0) (kp_cons (kp_name 1) kp_nil))) (di_val (de_var 6)) (fun _ _ _ _ _ => (dg_tup rfl (dgs_cons (dg_name (i := 0) nd_law_c2) (dgs_cons (dg_name (i := 1) nd_law_c2) dgs_nil)))) (fun _ _ _ _ _ => dts_nil) (fun _ _ _ _ _ => (de_callTy cd_tuple rfl T.z_tuple boot_tuple (da_cons (de_callB (cd_sorted (u66 hr)) rfl T.z_sorted boot_sorted (da_cons (de_lst (da_cons (de_call G__law_at (hr.mono (by decide)) rfl T.m__law_at T.F__law_at.kp T.b__law_at (da_cons (de_var 2) (da_cons (de_var 0) da_nil)) (eCons_len (eCons_len (fun _ _ h => eNil_len h)))) (da_cons (de_call G__law_at (hr.mono (by decide)) rfl T.m__law_at T.F__law_at.kp T.b__law_at (da_cons (de_var 2) (da_cons (de_var 1) da_nil)) (eCons_len (eCons_len (fun _ _ h => eNil_len h)))) da_nil))) da_nil)) da_nil))))
    (dss_one (ds_if (dt_cmp (opd_ne (u64 hr)) (de_call G_pinched (hr.mono (by decide)) rfl T.m_pinched T.F_pinched.kp T.b_pinched (da_cons (de_var 2) (da_cons (de_var 7) da_nil)) (eCons_len (eCons_len (fun _ _ h => eNil_len h)))) (de_var 9) (nomark _)) (dss_one (ds_ret de_bl)) dss_nil))))))))))))
    (dss_one (ds_ret de_bl)))
end
end My

namespace My
open PySem L2 DL SD
def cellD (c : Int × Int) : D := .tuple [.int c.1, .int c.2]
def walkM (fx fy : Int) : Nat → Int → Int → Option (List (Int × Int))
  | 0, _, _ => none
  | n + 1, gx, gy => if gx < fx ∨ gy < fy then
      (walkM fx fy n (if (2 * gx + 1) * fy ≤ (2 * gy + 1) * fx then gx + 1 else gx) (if (2 * gy + 1) * fx ≤ (2 * gx + 1) * fy then gy + 1 else gy)).bind fun r =>
        some ((if (2 * gx + 1) * fy ≤ (2 * gy + 1) * fx then gx + 1 else gx, if (2 * gy + 1) * fx ≤ (2 * gx + 1) * fy then gy + 1 else gy) :: r)
    else some []
def tC : Rho → Option Bool := eOr (eB (eOp dLt (eV 6) (eV 2))) (eB (eOp dLt (eV 7) (eV 3)))
def bC : Rho → Option Out := (sSeq (sSet 9 (eOp dMul (eOp dAdd (eOp dMul (eC (.int 2)) (eV 6)) (eC (.int 1))) (eV 3)))
    (sSeq (sSet 10 (eOp dMul (eOp dAdd (eOp dMul (eC (.int 2)) (eV 7)) (eC (.int 1))) (eV 2)))
    (sSeq (sIf (eB (eOp dLe (eV 9) (eV 10))) (sSet 6 (eOp dAdd (eV 6) (eC (.int 1)))) sSkip)
    (sSeq (sIf (eB (eOp dLe (eV 10) (eV 9))) (sSet 7 (eOp dAdd (eV 7) (eC (.int 1)))) sSkip)
    (sApp 8 (eTup (eCons (eOp dAdd (eOp dIx (eV 0) (eC (.int 0))) (eOp dMul (eV 4) (eV 6))) (eCons (eOp dAdd (eOp dIx (eV 0) (eC (.int 1))) (eOp dMul (eV 5) (eV 7))) eNil))))))))
def rC (x y u v fx fy wx wy gx gy : Int) (cs : List D) (s9 s10 : Sl) : Rho := [.dat (cellD (x, y)), .dat (cellD (u, v)), .dat (.int fx), .dat (.int fy), .dat (.int wx), .dat (.int wy), .dat (.int gx), .dat (.int gy), .own cs, s9, s10]
theorem okL {i j : Int} (h1 : -100 < i) (h2 : i < 100) : okMul i j = true := by
  unfold okMul
  rw [decide_eq_true (show -18446744073709551616 < i by omega), decide_eq_true (show i < 18446744073709551616 by omega)]
  rfl
theorem okR {i j : Int} (h1 : -100 < j) (h2 : j < 100) : okMul i j = true := by
  unfold okMul
  rw [decide_eq_true (show -18446744073709551616 < j by omega), decide_eq_true (show j < 18446744073709551616 by omega)]
  simp
theorem tC_eq (x y u v fx fy wx wy gx gy : Int) (cs : List D) (s9 s10 : Sl) : tC ((rC x y u v fx fy wx wy gx gy cs s9 s10).map frz) = some (decide (gx < fx ∨ gy < fy)) := by
  have : tC ((rC x y u v fx fy wx wy gx gy cs s9 s10).map frz) = if decide (gx < fx) = true then some true else some (decide (gy < fy)) := rfl
  rw [this]
  by_cases h : gx < fx
  · simp [h]
  · simp [h]
theorem mul_eq {i j : Int} (h : okMul i j = true) : dMul (.int i) (.int j) = some (.int (i * j)) := by
  show (if okMul i j = true then _ else _) = _
  rw [if_pos h]
theorem bC_eq {x y u v fx fy wx wy gx gy : Int} {cs : List D} {s9 s10 : Sl} (h1 : 0 ≤ fx) (h2 : fx < 100) (h3 : 0 ≤ fy) (h4 : fy < 100) (h5 : -100 < wx) (h6 : wx < 100) (h7 : -100 < wy) (h8 : wy < 100) (hl : cs.length < 1000) :
    bC (rC x y u v fx fy wx wy gx gy cs s9 s10) = some (.nx (rC x y u v fx fy wx wy (if (2 * gx + 1) * fy ≤ (2 * gy + 1) * fx then gx + 1 else gx) (if (2 * gy + 1) * fx ≤ (2 * gx + 1) * fy then gy + 1 else gy)
      (cs ++ [cellD (x + wx * (if (2 * gx + 1) * fy ≤ (2 * gy + 1) * fx then gx + 1 else gx), y + wy * (if (2 * gy + 1) * fx ≤ (2 * gx + 1) * fy then gy + 1 else gy))]) (.dat (.int ((2 * gx + 1) * fy))) (.dat (.int ((2 * gy + 1) * fx))))) := by
  have m1 : ∀ i, dMul (.int 2) (.int i) = some (.int (2 * i)) := fun i => mul_eq (okL (by omega) (by omega))
  have m2 : ∀ i, dMul (.int i) (.int fy) = some (.int (i * fy)) := fun i => mul_eq (okR (by omega) (by omega))
  have m3 : ∀ i, dMul (.int i) (.int fx) = some (.int (i * fx)) := fun i => mul_eq (okR (by omega) (by omega))
  have m4 : ∀ i, dMul (.int wx) (.int i) = some (.int (wx * i)) := fun i => mul_eq (okL h5 h6)
  have m5 : ∀ i, dMul (.int wy) (.int i) = some (.int (wy * i)) := fun i => mul_eq (okL h7 h8)
  by_cases c1 : (2 * gx + 1) * fy ≤ (2 * gy + 1) * fx <;> by_cases c2 : (2 * gy + 1) * fx ≤ (2 * gx + 1) * fy <;>
    simp [bC, rC, sSeq, sSet, sIf, sSkip, sApp, eOp, eV, eC, eB, eTup, eCons, eNil, dAdd, dIx, dLe, dI0, asB, frz, cellD, L2.atI, L2.ixN, m1, m2, m3, m4, m5, c1, c2, hl]
end My

namespace My
open PySem L2 DL SD
theorem while_eq {x y u v fx fy wx wy : Int} (h1 : 0 ≤ fx) (h2 : fx < 100) (h3 : 0 ≤ fy) (h4 : fy < 100) (h5 : -100 < wx) (h6 : wx < 100) (h7 : -100 < wy) (h8 : wy < 100) : ∀ (n : Nat) (gx gy : Int) (cs : List D) (s9 s10 : Sl) (st : List (Int × Int)), walkM fx fy n gx gy = some st → cs.length + st.length ≤ 1000 →
    ∃ gx' gy' s9' s10', whileN tC bC n (rC x y u v fx fy wx wy gx gy cs s9 s10) = some (.nx (rC x y u v fx fy wx wy gx' gy' (cs ++ st.map fun g => cellD (x + wx * g.1, y + wy * g.2)) s9' s10'))
  | 0, _, _, _, _, _, _, h, _ => by cases h
  | n + 1, gx, gy, cs, s9, s10, st, h, hl => by
    unfold walkM at h
    unfold whileN
    rw [tC_eq]
    by_cases c : gx < fx ∨ gy < fy
    · rw [if_pos c] at h
      obtain ⟨r, e, h⟩ := bnd h
      cases h
      rw [List.length_cons] at hl
      obtain ⟨a, b, c', d, q⟩ := while_eq (x := x) (y := y) (u := u) (v := v) h1 h2 h3 h4 h5 h6 h7 h8 n _ _ (cs ++ [cellD (x + wx * (if (2 * gx + 1) * fy ≤ (2 * gy + 1) * fx then gx + 1 else gx), y + wy * (if (2 * gy + 1) * fx ≤ (2 * gx + 1) * fy then gy + 1 else gy))]) (.dat (.int ((2 * gx + 1) * fy))) (.dat (.int ((2 * gy + 1) * fx))) r e (by rw [List.length_append, List.length_singleton]; omega)
      refine ⟨a, b, c', d, ?_⟩
      rw [decide_eq_true c]
      simp only [Option.bind_some, if_true]
      rw [bC_eq h1 h2 h3 h4 h5 h6 h7 h8 (by omega)]
      simp only [Option.bind_some]
      rw [q, List.append_assoc, List.map_cons]
      rfl
    · rw [if_neg c] at h
      cases h
      rw [decide_eq_false c]
      exact ⟨gx, gy, s9, s10, by simp⟩
theorem seq_nx {g1 g2 : Rho → Option Out} {ρ ρ' : Rho} (h : g1 ρ = some (.nx ρ')) : sSeq g1 g2 ρ = g2 ρ' := by
  unfold sSeq
  rw [h]
  rfl
theorem set_some {i : Nat} {g : Rho → Option D} {ρ : Rho} {d : D} (h : g ρ = some d) : sSet i g ρ = some (.nx (ρ.set i (.dat d))) := by
  unfold sSet
  rw [h]
  rfl
def iabs (i : Int) : Int := if i < 0 then -i else i
def sgn (a : Int) : Int := if 0 < a then 1 else -1
/-- the steps of the line from (0, 0) to (a, b) -/
def rel (a b : Int) : Option (List (Int × Int)) := (walkM (iabs a) (iabs b) 1000 0 0).bind fun st => some ((0, 0) :: st.map fun g => (sgn a * g.1, sgn b * g.2))
theorem crossed_eq {x y a b : Int} {st : List (Int × Int)} (ha : -100 < a) (ha' : a < 100) (hb : -100 < b) (hb' : b < 100) (h : rel a b = some st) (hl : st.length ≤ 1000) :
    Gcrossed [cellD (x, y), cellD (x + a, y + b)] = some (.list (st.map fun g => cellD (x + g.1, y + g.2))) := by
  obtain ⟨w, e, h⟩ := bnd h
  cases h
  rw [List.length_cons, List.length_map] at hl
  have sa : -100 < sgn a ∧ sgn a < 100 := by unfold sgn; split <;> omega
  have sb : -100 < sgn b ∧ sgn b < 100 := by unfold sgn; split <;> omega
  have ia : 0 ≤ iabs a ∧ iabs a < 100 := by unfold iabs; split <;> omega
  have ib : 0 ≤ iabs b ∧ iabs b < 100 := by unfold iabs; split <;> omega
  obtain ⟨gx', gy', s9', s10', q⟩ := while_eq (x := x) (y := y) (u := x + a) (v := y + b) ia.1 ia.2 ib.1 ib.2 sa.1 sa.2 sb.1 sb.2 1000 0 0 [cellD (x, y)] .no .no w e (by rw [List.length_singleton]; omega)
  have e1 : x + a - x = a := by omega
  have e2 : y + b - y = b := by omega
  have e3 : decide (x < x + a) = decide (0 < a) := by rw [decide_eq_decide]; omega
  have e4 : decide (y < y + b) = decide (0 < b) := by rw [decide_eq_decide]; omega
  have i1 : (if decide (0 < a) = true then some (PyData.int 1) else some (PyData.int (-1))) = some (.int (sgn a)) := by unfold sgn; by_cases c : 0 < a <;> simp [c]
  have i2 : (if decide (0 < b) = true then some (PyData.int 1) else some (PyData.int (-1))) = some (.int (sgn b)) := by unfold sgn; by_cases c : 0 < b <;> simp [c]
  have d1 : (if x + a - x < 0 then -(x + a - x) else x + a - x) = iabs a := by rw [e1]; rfl
  have d2 : (if y + b - y < 0 then -(y + b - y) else y + b - y) = iabs b := by rw [e2]; rfl
  have k1 : eCall dAbs (eCons (eOp dSub (eOp dIx (eV 1) (eC (.int 0))) (eOp dIx (eV 0) (eC (.int 0)))) eNil) [.dat (cellD (x, y)), .dat (cellD (x + a, y + b)), .no, .no, .no, .no, .no, .no, .no, .no, .no] = some (.int (iabs a)) := by
    rw [← d1]; rfl
  have k2 : eCall dAbs (eCons (eOp dSub (eOp dIx (eV 1) (eC (.int 1))) (eOp dIx (eV 0) (eC (.int 1)))) eNil) [.dat (cellD (x, y)), .dat (cellD (x + a, y + b)), .dat (.int (iabs a)), .no, .no, .no, .no, .no, .no, .no, .no] = some (.int (iabs b)) := by
    rw [← d2]; rfl
  have k3 : eIf (eB (eOp dGt (eOp dIx (eV 1) (eC (.int 0))) (eOp dIx (eV 0) (eC (.int 0))))) (eC (.int 1)) (eUn dNeg (eC (.int 1))) [.dat (cellD (x, y)), .dat (cellD (x + a, y + b)), .dat (.int (iabs a)), .dat (.int (iabs b)), .no, .no, .no, .no, .no, .no, .no] = some (.int (sgn a)) := by
    rw [← i1, ← e3]; rfl
  have k4 : eIf (eB (eOp dGt (eOp dIx (eV 1) (eC (.int 1))) (eOp dIx (eV 0) (eC (.int 1))))) (eC (.int 1)) (eUn dNeg (eC (.int 1))) [.dat (cellD (x, y)), .dat (cellD (x + a, y + b)), .dat (.int (iabs a)), .dat (.int (iabs b)), .dat (.int (sgn a)), .no, .no, .no, .no, .no, .no] = some (.int (sgn b)) := by
    rw [← i2, ← e4]; rfl
  have q1 : gcrossed (startD 11 [cellD (x, y), cellD (x + a, y + b)]) = some (.rt (.list ([cellD (x, y)] ++ w.map fun g => cellD (x + sgn a * g.1, y + sgn b * g.2)))) :=
    (seq_nx (set_some k1)).trans ((seq_nx (set_some k2)).trans ((seq_nx (set_some k3)).trans ((seq_nx (set_some k4)).trans ((seq_nx (set_some rfl)).trans ((seq_nx (set_some rfl)).trans
      ((seq_nx (g1 := sOwn 8 (eCons (eV 0) eNil)) (ρ' := rC x y (x + a) (y + b) (iabs a) (iabs b) (sgn a) (sgn b) 0 0 [cellD (x, y)] .no .no) rfl).trans ((seq_nx q).trans rfl)))))))
  unfold Gcrossed fnD
  rw [q1]
  show some (PyData.list ([cellD (x, y)] ++ w.map fun g => cellD (x + sgn a * g.1, y + sgn b * g.2))) = _
  rw [List.map_cons, List.map_map]
  simp only [Int.add_zero]
  rfl
end My

namespace My
open PySem L2 DL SD
abbrev Cp := (Int × Int) × (Int × Int)
def sh (x y : Int) (g : Int × Int) : D := cellD (x + g.1, y + g.2)
def shC (x y : Int) (c : Cp) : D := .tuple [sh x y c.1, sh x y c.2]
/-- two cells in their order -/
def two (p q : Int × Int) : Cp := if HT.lexLt [q.1, q.2] [p.1, p.2] = true then (q, p) else (p, q)
def pinRel : List (Int × Int) → List Cp
  | [] => []
  | [_] => []
  | g :: h :: r => if (!(g.1 == h.1) && !(g.2 == h.2)) = true then two (g.1, h.2) (h.1, g.2) :: pinRel (h :: r) else pinRel (h :: r)
theorem lex_shift (x y : Int) (p q : Int × Int) : HT.lexLt [x + p.1, y + p.2] [x + q.1, y + q.2] = HT.lexLt [p.1, p.2] [q.1, q.2] := by
  simp only [HT.lexLt]
  by_cases c : p.1 = q.1
  · rw [if_pos (by omega), if_pos c]
    by_cases c2 : p.2 = q.2
    · rw [if_pos (by omega), if_pos c2]
    · rw [if_neg (by omega), if_neg c2, decide_eq_decide]; omega
  · rw [if_neg (by omega), if_neg c, decide_eq_decide]; omega
theorem sorted2 (p q : Int × Int) : dSorted [.list [cellD p, cellD q]] = some (.list (if HT.lexLt [q.1, q.2] [p.1, p.2] = true then [cellD q, cellD p] else [cellD p, cellD q])) := by
  have : dSorted [.list [cellD p, cellD q]] = some (.list ((if HT.lexLt [q.1, q.2] [p.1, p.2] = true then [([q.1, q.2], cellD q), ([p.1, p.2], cellD p)] else [([p.1, p.2], cellD p), ([q.1, q.2], cellD q)]).map (·.2))) := rfl
  rw [this]
  split <;> rfl
theorem tup2 (x y : Int) (p q : Int × Int) : (dSorted [.list [sh x y p, sh x y q]]).bind (fun d => dTuple [d]) = some (shC x y (two p q)) := by
  unfold sh
  rw [sorted2]
  unfold two
  rw [show HT.lexLt [(x + q.1, y + q.2).1, (x + q.1, y + q.2).2] [(x + p.1, y + p.2).1, (x + p.1, y + p.2).2] = HT.lexLt [q.1, q.2] [p.1, p.2] from lex_shift x y q p]
  split <;> rfl
def bP : Rho → Option Out := (sIf (eAnd (eB (eOp dNe (eOp dIx (eV 2) (eC (.int 0))) (eOp dIx (eV 3) (eC (.int 0))))) (eB (eOp dNe (eOp dIx (eV 2) (eC (.int 1))) (eOp dIx (eV 3) (eC (.int 1)))))) (sApp 1 (eCall dTuple (eCons (eCall dSorted (eCons (eLst (eCons (eTup (eCons (eOp dIx (eV 2) (eC (.int 0))) (eCons (eOp dIx (eV 3) (eC (.int 1))) eNil))) (eCons (eTup (eCons (eOp dIx (eV 3) (eC (.int 0))) (eCons (eOp dIx (eV 2) (eC (.int 1))) eNil))) eNil))) eNil)) eNil))) sSkip)
def uP : D → Rho → Option Rho := uTup 2 (uCons (uName 2) (uCons (uName 3) uNil))
theorem app_some {i : Nat} {g : Rho → Option D} {ρ : Rho} {ds : List D} {d : D} (h1 : ρ[i]? = some (.own ds)) (h2 : g ρ = some d) (h3 : ds.length < 1000) : sApp i g ρ = some (.nx (ρ.set i (.own (ds ++ [d])))) := by
  simp [sApp, h1, h2, h3]
theorem pinRel_cons2 (g h : Int × Int) (r : List (Int × Int)) : pinRel (g :: h :: r) = if (!(g.1 == h.1) && !(g.2 == h.2)) = true then two (g.1, h.2) (h.1, g.2) :: pinRel (h :: r) else pinRel (h :: r) := rfl
theorem bP_eq (x y : Int) (c : Sl) (acc : List D) (g h : Int × Int) (hl : acc.length < 1000) :
    bP [c, .own acc, .dat (sh x y g), .dat (sh x y h)] = some (.nx [c, .own (acc ++ (if (!(g.1 == h.1) && !(g.2 == h.2)) = true then [shC x y (two (g.1, h.2) (h.1, g.2))] else [])), .dat (sh x y g), .dat (sh x y h)]) := by
  have b1 : (x + g.1 == x + h.1) = (g.1 == h.1) := by
    by_cases e : g.1 = h.1
    · rw [e]; simp
    · rw [beq_eq_false_iff_ne.mpr e, beq_eq_false_iff_ne.mpr (by omega)]
  have b2 : (y + g.2 == y + h.2) = (g.2 == h.2) := by
    by_cases e : g.2 = h.2
    · rw [e]; simp
    · rw [beq_eq_false_iff_ne.mpr e, beq_eq_false_iff_ne.mpr (by omega)]
  have t : (eAnd (eB (eOp dNe (eOp dIx (eV 2) (eC (.int 0))) (eOp dIx (eV 3) (eC (.int 0))))) (eB (eOp dNe (eOp dIx (eV 2) (eC (.int 1))) (eOp dIx (eV 3) (eC (.int 1)))))) ([c, .own acc, .dat (sh x y g), .dat (sh x y h)].map frz) = some (!(g.1 == h.1) && !(g.2 == h.2)) := by
    have : (eAnd (eB (eOp dNe (eOp dIx (eV 2) (eC (.int 0))) (eOp dIx (eV 3) (eC (.int 0))))) (eB (eOp dNe (eOp dIx (eV 2) (eC (.int 1))) (eOp dIx (eV 3) (eC (.int 1)))))) ([c, .own acc, .dat (sh x y g), .dat (sh x y h)].map frz) = (if (!(x + g.1 == x + h.1)) = true then some (!(y + g.2 == y + h.2)) else some false) := rfl
    rw [this, b1, b2]
    cases (g.1 == h.1) <;> rfl
  unfold bP sIf
  rw [t]
  show (if (!(g.1 == h.1) && !(g.2 == h.2)) = true then _ else _) = _
  by_cases cc : (!(g.1 == h.1) && !(g.2 == h.2)) = true
  · rw [if_pos cc, if_pos cc]
    have k : (eCall dTuple (eCons (eCall dSorted (eCons (eLst (eCons (eTup (eCons (eOp dIx (eV 2) (eC (.int 0))) (eCons (eOp dIx (eV 3) (eC (.int 1))) eNil))) (eCons (eTup (eCons (eOp dIx (eV 3) (eC (.int 0))) (eCons (eOp dIx (eV 2) (eC (.int 1))) eNil))) eNil))) eNil)) eNil)) [c, .own acc, .dat (sh x y g), .dat (sh x y h)] = some (shC x y (two (g.1, h.2) (h.1, g.2))) := by
      rw [← tup2 x y (g.1, h.2) (h.1, g.2)]
      show ((dSorted [.list [sh x y (g.1, h.2), sh x y (h.1, g.2)]]).bind fun x => some [x]).bind dTuple = _
      rw [Option.bind_assoc]
      rfl
    exact app_some (ds := acc) rfl k hl
  · rw [if_neg cc, if_neg cc, List.append_nil]
    rfl
theorem for_pin (x y : Int) (c : Sl) : ∀ (l : List (Int × Int)) (g : Int × Int) (acc : List D) (s4 s5 : Sl), acc.length + (pinRel (g :: l)).length < 1000 →
    ∃ s4' s5', forN uP bP (List.zipWith (fun x y => .tuple [x, y]) ((g :: l).map (sh x y)) (l.map (sh x y))) [c, .own acc, s4, s5] = some (.nx [c, .own (acc ++ (pinRel (g :: l)).map (shC x y)), s4', s5'])
  | [], g, acc, s4, s5, _ => ⟨s4, s5, by simp [forN, pinRel]⟩
  | h :: r, g, acc, s4, s5, hl => by
    rw [List.map_cons, List.map_cons, List.zipWith_cons_cons]
    have e1 : uP (.tuple [sh x y g, sh x y h]) [c, .own acc, s4, s5] = some [c, .own acc, .dat (sh x y g), .dat (sh x y h)] := rfl
    have la : acc.length < 1000 := by omega
    have hl2 : (acc ++ (if (!(g.1 == h.1) && !(g.2 == h.2)) = true then [shC x y (two (g.1, h.2) (h.1, g.2))] else [])).length + (pinRel (h :: r)).length < 1000 := by
      rw [pinRel_cons2] at hl
      rw [List.length_append]
      split at hl
      · rename_i cc
        rw [if_pos cc]
        rw [List.length_cons] at hl
        rw [List.length_singleton]
        omega
      · rename_i cc
        rw [if_neg cc]
        simpa using hl
    obtain ⟨s4', s5', q⟩ := for_pin x y c r h _ (.dat (sh x y g)) (.dat (sh x y h)) hl2
    refine ⟨s4', s5', ?_⟩
    unfold forN
    rw [e1]
    simp only [Option.bind_some]
    rw [bP_eq x y c acc g h la]
    simp only [Option.bind_some]
    rw [List.map_cons] at q
    rw [q, List.append_assoc]
    congr 5
    rw [pinRel_cons2 g h r]
    split
    · rw [List.map_cons]; rfl
    · rfl
theorem cut1 {α : D} (xs : List D) : cutD (α :: xs) (some 1) none = xs := by
  unfold cutD
  have e1 : HT.sIx (α :: xs).length 0 (some 1) = 1 := by
    have := HT.sIx_nat (α :: xs).length 0 1
    rw [show ((1 : Nat) : Int) = 1 from rfl] at this
    rw [this, List.length_cons]
    omega
  rw [e1, HT.sIx_none]
  simp
theorem beside_eq {x y : Int} {g : Int × Int} {st : List (Int × Int)} (hp : (pinRel (g :: st)).length < 1000) : Gcouples_beside [.list ((g :: st).map (sh x y))] = some (.list ((pinRel (g :: st)).map (shC x y))) := by
  obtain ⟨s4', s5', q⟩ := for_pin x y (.dat (.list ((g :: st).map (sh x y)))) st g [] .no .no (by simpa using hp)
  have k3 : sFor (fun ρ => ((eCons (eV 0) (eCons (eSl (eV 0) (oE (eC (.int 1))) oNo) eNil)) ρ).bind zipD) uP bP [.dat (.list ((g :: st).map (sh x y))), .own [], .no, .no] =
      some (.nx [.dat (.list ((g :: st).map (sh x y))), .own ([] ++ (pinRel (g :: st)).map (shC x y)), s4', s5']) := by
    rw [← q]
    unfold sFor
    have : ((eCons (eV 0) (eCons (eSl (eV 0) (oE (eC (.int 1))) oNo) eNil)) [.dat (.list ((g :: st).map (sh x y))), .own [], .no, .no]).bind zipD = some (List.zipWith (fun x y => .tuple [x, y]) ((g :: st).map (sh x y)) (cutD ((g :: st).map (sh x y)) (some 1) none)) := rfl
    rw [List.map_cons, cut1] at this
    show Option.bind (((eCons (eV 0) (eCons (eSl (eV 0) (oE (eC (.int 1))) oNo) eNil)) [.dat (.list ((g :: st).map (sh x y))), .own [], .no, .no]).bind zipD) _ = _
    rw [List.map_cons, this]
    rfl
  have q1 : gcouples_beside (startD 4 [.list ((g :: st).map (sh x y))]) = some (.rt (.list ([] ++ (pinRel (g :: st)).map (shC x y)))) :=
    (seq_nx (g1 := sOwn 1 eNil) (ρ' := [.dat (.list ((g :: st).map (sh x y))), .own [], .no, .no]) rfl).trans ((seq_nx k3).trans rfl)
  unfold Gcouples_beside fnD
  rw [q1]
  rfl
theorem pinched_eq {x y a b : Int} {g : Int × Int} {st : List (Int × Int)} (ha : -100 < a) (ha' : a < 100) (hb : -100 < b) (hb' : b < 100) (h : rel a b = some (g :: st)) (hl : (g :: st).length ≤ 1000) (hp : (pinRel (g :: st)).length < 1000) :
    Gpinched [cellD (x, y), cellD (x + a, y + b)] = some (.list ((pinRel (g :: st)).map (shC x y))) := by
  have k1 : eCall Gcrossed (eCons (eV 0) (eCons (eV 1) eNil)) [.dat (cellD (x, y)), .dat (cellD (x + a, y + b))] = some (.list ((g :: st).map (sh x y))) := crossed_eq ha ha' hb hb' h hl
  have k2 : eCall Gcouples_beside (eCons (eCall Gcrossed (eCons (eV 0) (eCons (eV 1) eNil))) eNil) [.dat (cellD (x, y)), .dat (cellD (x + a, y + b))] = some (.list ((pinRel (g :: st)).map (shC x y))) := by
    show Option.bind (Option.bind (eCall Gcrossed (eCons (eV 0) (eCons (eV 1) eNil)) [.dat (cellD (x, y)), .dat (cellD (x + a, y + b))]) fun z => Option.bind (some []) fun zs => some (z :: zs)) Gcouples_beside = _
    rw [k1]
    exact beside_eq hp
  have q1 : gpinched (startD 2 [cellD (x, y), cellD (x + a, y + b)]) = some (.rt (.list ((pinRel (g :: st)).map (shC x y)))) := by
    show Option.bind (eCall Gcouples_beside (eCons (eCall Gcrossed (eCons (eV 0) (eCons (eV 1) eNil))) eNil) [.dat (cellD (x, y)), .dat (cellD (x + a, y + b))]) _ = _
    rw [k2]
    rfl
  unfold Gpinched fnD
  rw [q1]
end My

namespace My
open PySem L2 DL SD
/-! ### what a script draws -/
def scr (ns : List Int) : D := .list (ns.map PyData.int)
theorem lay_ints : ∀ ns : List Int, PyData.canLayAll0 (ns.map PyData.int) = true ∧ PyData.depthAll (ns.map PyData.int) = 0
  | [] => ⟨rfl, rfl⟩
  | _ :: r => ⟨by simp [PyData.canLayAll0, PyData.canLay0, (lay_ints r).1], by simp [PyData.depthAll, PyData.depth, (lay_ints r).2]⟩
theorem shaped_ints (ns : List Int) : SeqAt.shaped (scr ns) = true := by
  simp [SeqAt.shaped, scr, PyData.canLay0, PyData.depth, (lay_ints ns).1, (lay_ints ns).2]
theorem atI_ints {ns : List Int} {i : Int} (h0 : 0 ≤ i) (h1 : i < ns.length) : ∃ r, L2.atI (ns.map PyData.int) i = some (.int r) := by
  unfold L2.atI L2.ixN
  rw [List.length_map, if_pos h0, if_pos h1]
  have : i.toNat < ns.length := by omega
  exact ⟨ns[i.toNat], by simp [this]⟩
theorem if_some {t : Rho → Option Bool} {g1 g2 : Rho → Option Out} {ρ : Rho} {b : Bool} (h : t (ρ.map frz) = some b) : sIf t g1 g2 ρ = if b = true then g1 ρ else g2 ρ := by
  unfold sIf
  rw [h]
  rfl
theorem op_some {f : D → D → Option D} {ga gb : Rho → Option D} {ρ : Rho} {a b r : D} (h1 : ga ρ = some a) (h2 : gb ρ = some b) (h : f a b = some r) : eOp f ga gb ρ = some r := by
  unfold eOp
  rw [h1, h2]
  exact h
theorem fdiv_eq {i j : Int} (h : okDiv i j = true) : dFdiv (.int i) (.int j) = some (.int (i / j)) := by
  show (if okDiv i j = true then _ else _) = _
  rw [if_pos h]
theorem mod_eq {i j : Int} (h : 0 < j) : dMod (.int i) (.int j) = some (.int (i % j)) := by
  show (if decide (0 < j) = true then _ else _) = _
  rw [if_pos (decide_eq_true h)]
theorem okS {i j : Int} (h1 : -18446744073709551616 < i) (h2 : i < 18446744073709551616) : okMul i j = true := by
  unfold okMul
  rw [decide_eq_true h1, decide_eq_true h2]
  rfl
theorem okT {i j : Int} (h1 : -18446744073709551616 < j) (h2 : j < 18446744073709551616) : okMul i j = true := by
  unfold okMul
  rw [decide_eq_true h1, decide_eq_true h2]
  simp
theorem okD {i j : Int} (h1 : 0 < j) (h2 : j < 1073741824) : okDiv i j = true := by
  unfold okDiv
  rw [decide_eq_true h1, decide_eq_true h2]
  rfl
theorem cell_ok (ns : List Int) (hn : ns.length ≤ 63) (k : Int) : ∃ r, G_law_cell [scr ns, .int k] = some (.int r) := by
  cases ns with
  | nil =>
    refine ⟨7 * k, ?_⟩
    have q : g_law_cell (startD 2 [scr [], .int k]) = some (.rt (.int (7 * k))) := by
      have t : eB (eOp dEq (eV 0) (eLst eNil)) ((startD 2 [scr [], .int k]).map frz) = some true := rfl
      have r : sRet (eOp dMul (eC (.int 7)) (eV 1)) (startD 2 [scr [], .int k]) = some (.rt (.int (7 * k))) := by
        show Option.bind (dMul (.int 7) (.int k)) _ = _
        rw [mul_eq (okL (by omega) (by omega))]
        rfl
      unfold g_law_cell sSeq
      rw [if_some t, if_pos rfl, r]
      rfl
    unfold G_law_cell fnD
    rw [q]
  | cons n ns =>
    have hl : (0 : Int) < ((n :: ns).length : Int) := by rw [List.length_cons]; omega
    obtain ⟨r, hr⟩ := atI_ints (ns := n :: ns) (i := k % ((n :: ns).length : Int)) (Int.emod_nonneg _ (by omega)) (Int.emod_lt_of_pos _ hl)
    refine ⟨r + 6553 * (k / ((n :: ns).length : Int)), ?_⟩
    have t : eB (eOp dEq (eV 0) (eLst eNil)) ((startD 2 [scr (n :: ns), .int k]).map frz) = some false := by
      show Option.bind (dEq (scr (n :: ns)) (.list [])) asB = _
      unfold dEq
      rw [shaped_ints]
      rfl
    have q2 : sRet (eOp dAdd (eOp dIx (eV 0) (eOp dMod (eV 1) (eCall dLen (eCons (eV 0) eNil)))) (eOp dMul (eC (.int 6553)) (eOp dFdiv (eV 1) (eCall dLen (eCons (eV 0) eNil))))) (startD 2 [scr (n :: ns), .int k]) = some (.rt (.int (r + 6553 * (k / ((n :: ns).length : Int))))) := by
      have len : eCall dLen (eCons (eV 0) eNil) ((startD 2 [scr (n :: ns), .int k]).map frz) = some (.int ((n :: ns).length : Int)) := by
        show some (PyData.int (((n :: ns).map PyData.int).length : Int)) = _
        rw [List.length_map]
      unfold sRet
      rw [op_some (r := .int (r + 6553 * (k / ((n :: ns).length : Int)))) (op_some (a := scr (n :: ns)) rfl (op_some (a := .int k) rfl len (mod_eq hl)) hr) (op_some (a := .int 6553) rfl (op_some (a := .int k) rfl len (fdiv_eq (by unfold okDiv; rw [decide_eq_true hl, decide_eq_true (by omega)]; rfl))) (mul_eq (okS (by omega) (by omega)))) rfl]
      rfl
    unfold G_law_cell fnD g_law_cell
    rw [seq_nx (ρ' := startD 2 [scr (n :: ns), .int k]) (by rw [if_some t]; rfl), q2]
theorem drawn_ok (ns : List Int) (hn : ns.length ≤ 63) (k m : Int) (hm : 0 < m) : ∃ r, 0 ≤ r ∧ r < m ∧ G_law_drawn [scr ns, .int k, .int m] = some (.int r) := by
  obtain ⟨c, hc⟩ := cell_ok ns hn k
  obtain ⟨u, hu⟩ : ∃ u, u = ((c % 2147483563) * 69069 + 104723 * (k + 1)) % 2147483563 := ⟨_, rfl⟩
  have u0 : 0 ≤ u := by rw [hu]; exact Int.emod_nonneg _ (by omega)
  have u1 : u < 2147483563 := by rw [hu]; exact Int.emod_lt_of_pos _ (by omega)
  obtain ⟨v, hv⟩ : ∃ v, v = (u * u + u / 3) % 2147483399 := ⟨_, rfl⟩
  have v0 : 0 ≤ v := by rw [hv]; exact Int.emod_nonneg _ (by omega)
  have v1 : v < 2147483399 := by rw [hv]; exact Int.emod_lt_of_pos _ (by omega)
  have k1 : (eOp dMod (eOp dAdd (eOp dMul (eOp dMod (eCall G_law_cell (eCons (eV 0) (eCons (eV 1) eNil))) (eC (.int 2147483563))) (eC (.int 69069))) (eOp dMul (eC (.int 104723)) (eOp dAdd (eV 1) (eC (.int 1))))) (eC (.int 2147483563))) (startD 4 [scr ns, .int k, .int m]) = some (.int u) := by
    refine op_some (b := .int 2147483563) (op_some (op_some (op_some (a := .int c) (b := .int 2147483563) hc rfl (mod_eq (by omega))) (b := .int 69069) rfl (mul_eq (okT (by omega) (by omega)))) (op_some (a := .int 104723) (b := .int (k + 1)) rfl rfl (mul_eq (okS (by omega) (by omega)))) rfl) rfl ?_
    rw [mod_eq (by omega), ← hu]
  have k2 : (eOp dMod (eOp dAdd (eOp dMul (eV 3) (eV 3)) (eOp dFdiv (eV 3) (eC (.int 3)))) (eC (.int 2147483399))) ((startD 4 [scr ns, .int k, .int m]).set 3 (.dat (.int u))) = some (.int v) := by
    refine op_some (b := .int 2147483399) (op_some (op_some (a := .int u) (b := .int u) rfl rfl (mul_eq (okS (by omega) (by omega)))) (op_some (a := .int u) (b := .int 3) rfl rfl (fdiv_eq (okD (by omega) (by omega)))) rfl) rfl ?_
    rw [mod_eq (by omega), ← hv]
  have k3 : (eOp dMod (eOp dFdiv (eOp dMod (eOp dAdd (eOp dMul (eV 3) (eV 3)) (eOp dFdiv (eV 3) (eC (.int 7)))) (eC (.int 2147483647))) (eC (.int 11))) (eV 2)) ((((startD 4 [scr ns, .int k, .int m]).set 3 (.dat (.int u))).set 3 (.dat (.int v))).map frz) = some (.int ((v * v + v / 7) % 2147483647 / 11 % m)) := by
    refine op_some (b := .int m) (op_some (b := .int 11) (op_some (b := .int 2147483647) (op_some (op_some (a := .int v) (b := .int v) rfl rfl (mul_eq (okS (by omega) (by omega)))) (op_some (a := .int v) (b := .int 7) rfl rfl (fdiv_eq (okD (by omega) (by omega)))) rfl) rfl (mod_eq (by omega))) rfl (fdiv_eq (okD (by omega) (by omega)))) rfl (mod_eq hm)
  refine ⟨(v * v + v / 7) % 2147483647 / 11 % m, Int.emod_nonneg _ (by omega), Int.emod_lt_of_pos _ hm, ?_⟩
  · have q : g_law_drawn (startD 4 [scr ns, .int k, .int m]) = some (.rt (.int ((v * v + v / 7) % 2147483647 / 11 % m))) := by
      refine (seq_nx (set_some k1)).trans ((seq_nx (set_some k2)).trans ?_)
      unfold sRet
      rw [k3]
      rfl
    unfold G_law_drawn fnD
    rw [q]
end My

namespace My
open PySem L2 DL SD
mutual
def beqD : D → D → Bool
  | .int i, .int j => i == j
  | .tuple xs, .tuple ys => beqDs xs ys
  | .list xs, .list ys => beqDs xs ys
  | _, _ => false
def beqDs : List D → List D → Bool
  | [], [] => true
  | x :: xs, y :: ys => beqD x y && beqDs xs ys
  | _, _ => false
end
mutual
theorem beqD_sound : ∀ (d e : D), beqD d e = true → d = e
  | .int i, .int j, h => by
    have : i = j := by simpa [beqD] using h
    rw [this]
  | .tuple xs, .tuple ys, h => by rw [beqDs_sound xs ys (by simpa [beqD] using h)]
  | .list xs, .list ys, h => by rw [beqDs_sound xs ys (by simpa [beqD] using h)]
  | .none, _, h => by simp [beqD] at h
  | .bool _, _, h => by simp [beqD] at h
  | .str _, _, h => by simp [beqD] at h
  | .dict _, _, h => by simp [beqD] at h
  | .int _, .none, h => by simp [beqD] at h
  | .int _, .bool _, h => by simp [beqD] at h
  | .int _, .str _, h => by simp [beqD] at h
  | .int _, .list _, h => by simp [beqD] at h
  | .int _, .tuple _, h => by simp [beqD] at h
  | .int _, .dict _, h => by simp [beqD] at h
  | .list _, .none, h => by simp [beqD] at h
  | .list _, .bool _, h => by simp [beqD] at h
  | .list _, .str _, h => by simp [beqD] at h
  | .list _, .int _, h => by simp [beqD] at h
  | .list _, .tuple _, h => by simp [beqD] at h
  | .list _, .dict _, h => by simp [beqD] at h
  | .tuple _, .none, h => by simp [beqD] at h
  | .tuple _, .bool _, h => by simp [beqD] at h
  | .tuple _, .str _, h => by simp [beqD] at h
  | .tuple _, .int _, h => by simp [beqD] at h
  | .tuple _, .list _, h => by simp [beqD] at h
  | .tuple _, .dict _, h => by simp [beqD] at h
theorem beqDs_sound : ∀ (xs ys : List D), beqDs xs ys = true → xs = ys
  | [], [], _ => rfl
  | x :: xs, y :: ys, h => by
    have h' : beqD x y = true ∧ beqDs xs ys = true := by simpa [beqDs] using h
    rw [beqD_sound x y h'.1, beqDs_sound xs ys h'.2]
  | [], _ :: _, h => by simp [beqDs] at h
  | _ :: _, [], h => by simp [beqDs] at h
end
def coupD (c : Cp) : D := .tuple [cellD c.1, cellD c.2]
def lineOk (a b : Int) : Bool := match rel a b, G_law_line [.int a, .int b] with
  | some (g :: st), some d => beqD d (.tuple [.list ((g :: st).map cellD), .list ((pinRel (g :: st)).map coupD)]) && decide ((g :: st).length ≤ 900) && decide ((pinRel (g :: st)).length ≤ 900) && (pinRel (g :: st)).all fun c => !HT.lexLt [c.2.1, c.2.2] [c.1.1, c.1.2]
  | _, _ => false
def rowOk (a : Int) : Bool := (List.range 19).all fun j => lineOk a ((j : Int) - 9)
theorem c0_0 : lineOk (-9) (-9) = true := by decide +kernel
theorem c0_1 : lineOk (-9) (-8) = true := by decide +kernel
theorem c0_2 : lineOk (-9) (-7) = true := by decide +kernel
theorem c0_3 : lineOk (-9) (-6) = true := by decide +kernel
theorem c0_4 : lineOk (-9) (-5) = true := by decide +kernel
theorem c0_5 : lineOk (-9) (-4) = true := by decide +kernel
theorem c0_6 : lineOk (-9) (-3) = true := by decide +kernel
theorem c0_7 : lineOk (-9) (-2) = true := by decide +kernel
theorem c0_8 : lineOk (-9) (-1) = true := by decide +kernel
theorem c0_9 : lineOk (-9) (0) = true := by decide +kernel
theorem c0_10 : lineOk (-9) (1) = true := by decide +kernel
theorem c0_11 : lineOk (-9) (2) = true := by decide +kernel
theorem c0_12 : lineOk (-9) (3) = true := by decide +kernel
theorem c0_13 : lineOk (-9) (4) = true := by decide +kernel
theorem c0_14 : lineOk (-9) (5) = true := by decide +kernel
theorem c0_15 : lineOk (-9) (6) = true := by decide +kernel
theorem c0_16 : lineOk (-9) (7) = true := by decide +kernel
theorem c0_17 : lineOk (-9) (8) = true := by decide +kernel
theorem c0_18 : lineOk (-9) (9) = true := by decide +kernel
theorem row0 : rowOk (-9) = true := List.all_eq_true.mpr fun j hj => by
  have h := List.mem_range.mp hj
  have : j = 0 ∨ j = 1 ∨ j = 2 ∨ j = 3 ∨ j = 4 ∨ j = 5 ∨ j = 6 ∨ j = 7 ∨ j = 8 ∨ j = 9 ∨ j = 10 ∨ j = 11 ∨ j = 12 ∨ j = 13 ∨ j = 14 ∨ j = 15 ∨ j = 16 ∨ j = 17 ∨ j = 18 := by omega
  rcases this with rfl | rfl | rfl | rfl | rfl | rfl | rfl | rfl | rfl | rfl | rfl | rfl | rfl | rfl | rfl | rfl | rfl | rfl | rfl
  · exact c0_0
  · exact c0_1
  · exact c0_2
  · exact c0_3
  · exact c0_4
  · exact c0_5
  · exact c0_6
  · exact c0_7
  · exact c0_8
  · exact c0_9
  · exact c0_10
  · exact c0_11
  · exact c0_12
  · exact c0_13
  · exact c0_14
  · exact c0_15
  · exact c0_16
  · exact c0_17
  · exact c0_18
theorem c1_0 : lineOk (-8) (-9) = true := by decide +kernel
theorem c1_1 : lineOk (-8) (-8) = true := by decide +kernel
theorem c1_2 : lineOk (-8) (-7) = true := by decide +kernel
theorem c1_3 : lineOk (-8) (-6) = true := by decide +kernel
theorem c1_4 : lineOk (-8) (-5) = true := by decide +kernel
theorem c1_5 : lineOk (-8) (-4) = true := by decide +kernel
theorem c1_6 : lineOk (-8) (-3) = true := by decide +kernel
theorem c1_7 : lineOk (-8) (-2) = true := by decide +kernel
theorem c1_8 : lineOk (-8) (-1) = true := by decide +kernel
theorem c1_9 : lineOk (-8) (0) = true := by decide +kernel
theorem c1_10 : lineOk (-8) (1) = true := by decide +kernel
theorem c1_11 : lineOk (-8) (2) = true := by decide +kernel
theorem c1_12 : lineOk (-8) (3) = true := by decide +kernel
theorem c1_13 : lineOk (-8) (4) = true := by decide +kernel
theorem c1_14 : lineOk (-8) (5) = true := by decide +kernel
theorem c1_15 : lineOk (-8) (6) = true := by decide +kernel
theorem c1_16 : lineOk (-8) (7) = true := by decide +kernel
theorem c1_17 : lineOk (-8) (8) = true := by decide +kernel
theorem c1_18 : lineOk (-8) (9) = true := by decide +kernel
theorem row1 : rowOk (-8) = true := List.all_eq_true.mpr fun j hj => by
  have h := List.mem_range.mp hj
  have : j = 0 ∨ j = 1 ∨ j = 2 ∨ j = 3 ∨ j = 4 ∨ j = 5 ∨ j = 6 ∨ j = 7 ∨ j = 8 ∨ j = 9 ∨ j = 10 ∨ j = 11 ∨ j = 12 ∨ j = 13 ∨ j = 14 ∨ j = 15 ∨ j = 16 ∨ j = 17 ∨ j = 18 := by omega
  rcases this with rfl | rfl | rfl | rfl | rfl | rfl | rfl | rfl | rfl | rfl | rfl | rfl | rfl | rfl | rfl | rfl | rfl | rfl | rfl
  · exact c1_0
  · exact c1_1
  · exact c1_2
  · exact c1_3
  · exact c1_4
  · exact c1_5
  · exact c1_6
  · exact c1_7
  · exact c1_8
  · exact c1_9
  · exact c1_10
  · exact c1_11
  · exact c1_12
  · exact c1_13
  · exact c1_14
  · exact c1_15
  · exact c1_16
  · exact c1_17
  · exact c1_18
theorem c2_0 : lineOk (-7) (-9) = true := by decide +kernel
theorem c2_1 : lineOk (-7) (-8) = true := by decide +kernel
theorem c2_2 : lineOk (-7) (-7) = true := by decide +kernel
theorem c2_3 : lineOk (-7) (-6) = true := by decide +kernel
theorem c2_4 : lineOk (-7) (-5) = true := by decide +kernel
theorem c2_5 : lineOk (-7) (-4) = true := by decide +kernel
theorem c2_6 : lineOk (-7) (-3) = true := by decide +kernel
theorem c2_7 : lineOk (-7) (-2) = true := by decide +kernel
theorem c2_8 : lineOk (-7) (-1) = true := by decide +kernel
theorem c2_9 : lineOk (-7) (0) = true := by decide +kernel
theorem c2_10 : lineOk (-7) (1) = true := by decide +kernel
theorem c2_11 : lineOk (-7) (2) = true := by decide +kernel
theorem c2_12 : lineOk (-7) (3) = true := by decide +kernel
theorem c2_13 : lineOk (-7) (4) = true := by decide +kernel
theorem c2_14 : lineOk (-7) (5) = true := by decide +kernel
theorem c2_15 : lineOk (-7) (6) = true := by decide +kernel
theorem c2_16 : lineOk (-7) (7) = true := by decide +kernel
theorem c2_17 : lineOk (-7) (8) = true := by decide +kernel
theorem c2_18 : lineOk (-7) (9) = true := by decide +kernel
theorem row2 : rowOk (-7) = true := List.all_eq_true.mpr fun j hj => by
  have h := List.mem_range.mp hj
  have : j = 0 ∨ j = 1 ∨ j = 2 ∨ j = 3 ∨ j = 4 ∨ j = 5 ∨ j = 6 ∨ j = 7 ∨ j = 8 ∨ j = 9 ∨ j = 10 ∨ j = 11 ∨ j = 12 ∨ j = 13 ∨ j = 14 ∨ j = 15 ∨ j = 16 ∨ j = 17 ∨ j = 18 := by omega
  rcases this with rfl | rfl | rfl | rfl | rfl | rfl | rfl | rfl | rfl | rfl | rfl | rfl | rfl | rfl | rfl | rfl | rfl | rfl | rfl
  · exact c2_0
  · exact c2_1
  · exact c2_2
  · exact c2_3
  · exact c2_4
  · exact c2_5
  · exact c2_6
  · exact c2_7
  · exact c2_8
  · exact c2_9
  · exact c2_10
  · exact c2_11
  · exact c2_12
  · exact c2_13
  · exact c2_14
  · exact c2_15
  · exact c2_16
  · exact c2_17
  · exact c2_18
theorem c3_0 : lineOk (-6) (-9) = true := by decide +kernel
theorem c3_1 : lineOk (-6) (-8) = true := by decide +kernel
theorem c3_2 : lineOk (-6) (-7) = true := by decide +kernel
theorem c3_3 : lineOk (-6) (-6) = true := by decide +kernel
theorem c3_4 : lineOk (-6) (-5) = true := by decide +kernel
theorem c3_5 : lineOk (-6) (-4) = true := by decide +kernel
theorem c3_6 : lineOk (-6) (-3) = true := by decide +kernel
theorem c3_7 : lineOk (-6) (-2) = true := by decide +kernel
theorem c3_8 : lineOk (-6) (-1) = true := by decide +kernel
theorem c3_9 : lineOk (-6) (0) = true := by decide +kernel
theorem c3_10 : lineOk (-6) (1) = true := by decide +kernel
theorem c3_11 : lineOk (-6) (2) = true := by decide +kernel
theorem c3_12 : lineOk (-6) (3) = true := by decide +kernel
theorem c3_13 : lineOk (-6) (4) = true := by decide +kernel
theorem c3_14 : lineOk (-6) (5) = true := by decide +kernel
theorem c3_15 : lineOk (-6) (6) = true := by decide +kernel
theorem c3_16 : lineOk (-6) (7) = true := by decide +kernel
theorem c3_17 : lineOk (-6) (8) = true := by decide +kernel
theorem c3_18 : lineOk (-6) (9) = true := by decide +kernel
theorem row3 : rowOk (-6) = true := List.all_eq_true.mpr fun j hj => by
  have h := List.mem_range.mp hj
  have : j = 0 ∨ j = 1 ∨ j = 2 ∨ j = 3 ∨ j = 4 ∨ j = 5 ∨ j = 6 ∨ j = 7 ∨ j = 8 ∨ j = 9 ∨ j = 10 ∨ j = 11 ∨ j = 12 ∨ j = 13 ∨ j = 14 ∨ j = 15 ∨ j = 16 ∨ j = 17 ∨ j = 18 := by omega
  rcases this with rfl | rfl | rfl | rfl | rfl | rfl | rfl | rfl | rfl | rfl | rfl | rfl | rfl | rfl | rfl | rfl | rfl | rfl | rfl
  · exact c3_0
  · exact c3_1
  · exact c3_2
  · exact c3_3
  · exact c3_4
  · exact c3_5
  · exact c3_6
  · exact c3_7
  · exact c3_8
  · exact c3_9
  · exact c3_10
  · exact c3_11
  · exact c3_12
  · exact c3_13
  · exact c3_14
  · exact c3_15
  · exact c3_16
  · exact c3_17
  · exact c3_18
theorem c4_0 : lineOk (-5) (-9) = true := by decide +kernel
theorem c4_1 : lineOk (-5) (-8) = true := by decide +kernel
theorem c4_2 : lineOk (-5) (-7) = true := by decide +kernel
theorem c4_3 : lineOk (-5) (-6) = true := by decide +kernel
theorem c4_4 : lineOk (-5) (-5) = true := by decide +kernel
theorem c4_5 : lineOk (-5) (-4) = true := by decide +kernel
theorem c4_6 : lineOk (-5) (-3) = true := by decide +kernel
theorem c4_7 : lineOk (-5) (-2) = true := by decide +kernel
theorem c4_8 : lineOk (-5) (-1) = true := by decide +kernel
theorem c4_9 : lineOk (-5) (0) = true := by decide +kernel
theorem c4_10 : lineOk (-5) (1) = true := by decide +kernel
theorem c4_11 : lineOk (-5) (2) = true := by decide +kernel
theorem c4_12 : lineOk (-5) (3) = true := by decide +kernel
theorem c4_13 : lineOk (-5) (4) = true := by decide +kernel
theorem c4_14 : lineOk (-5) (5) = true := by decide +kernel
theorem c4_15 : lineOk (-5) (6) = true := by decide +kernel
theorem c4_16 : lineOk (-5) (7) = true := by decide +kernel
theorem c4_17 : lineOk (-5) (8) = true := by decide +kernel
theorem c4_18 : lineOk (-5) (9) = true := by decide +kernel
theorem row4 : rowOk (-5) = true := List.all_eq_true.mpr fun j hj => by
  have h := List.mem_range.mp hj
  have : j = 0 ∨ j = 1 ∨ j = 2 ∨ j = 3 ∨ j = 4 ∨ j = 5 ∨ j = 6 ∨ j = 7 ∨ j = 8 ∨ j = 9 ∨ j = 10 ∨ j = 11 ∨ j = 12 ∨ j = 13 ∨ j = 14 ∨ j = 15 ∨ j = 16 ∨ j = 17 ∨ j = 18 := by omega
  rcases this with rfl | rfl | rfl | rfl | rfl | rfl | rfl | rfl | rfl | rfl | rfl | rfl | rfl | rfl | rfl | rfl | rfl | rfl | rfl
  · exact c4_0
  · exact c4_1
  · exact c4_2
  · exact c4_3
  · exact c4_4
  · exact c4_5
  · exact c4_6
  · exact c4_7
  · exact c4_8
  · exact c4_9
  · exact c4_10
  · exact c4_11
  · exact c4_12
  · exact c4_13
  · exact c4_14
  · exact c4_15
  · exact c4_16
  · exact c4_17
  · exact c4_18
theorem c5_0 : lineOk (-4) (-9) = true := by decide +kernel
theorem c5_1 : lineOk (-4) (-8) = true := by decide +kernel
theorem c5_2 : lineOk (-4) (-7) = true := by decide +kernel
theorem c5_3 : lineOk (-4) (-6) = true := by decide +kernel
theorem c5_4 : lineOk (-4) (-5) = true := by decide +kernel
theorem c5_5 : lineOk (-4) (-4) = true := by decide +kernel
theorem c5_6 : lineOk (-4) (-3) = true := by decide +kernel
theorem c5_7 : lineOk (-4) (-2) = true := by decide +kernel
theorem c5_8 : lineOk (-4) (-1) = true := by decide +kernel
theorem c5_9 : lineOk (-4) (0) = true := by decide +kernel
theorem c5_10 : lineOk (-4) (1) = true := by decide +kernel
theorem c5_11 : lineOk (-4) (2) = true := by decide +kernel
theorem c5_12 : lineOk (-4) (3) = true := by decide +kernel
theorem c5_13 : lineOk (-4) (4) = true := by decide +kernel
theorem c5_14 : lineOk (-4) (5) = true := by decide +kernel
theorem c5_15 : lineOk (-4) (6) = true := by decide +kernel
theorem c5_16 : lineOk (-4) (7) = true := by decide +kernel
theorem c5_17 : lineOk (-4) (8) = true := by decide +kernel
theorem c5_18 : lineOk (-4) (9) = true := by decide +kernel
theorem row5 : rowOk (-4) = true := List.all_eq_true.mpr fun j hj => by
  have h := List.mem_range.mp hj
  have : j = 0 ∨ j = 1 ∨ j = 2 ∨ j = 3 ∨ j = 4 ∨ j = 5 ∨ j = 6 ∨ j = 7 ∨ j = 8 ∨ j = 9 ∨ j = 10 ∨ j = 11 ∨ j = 12 ∨ j = 13 ∨ j = 14 ∨ j = 15 ∨ j = 16 ∨ j = 17 ∨ j = 18 := by omega
  rcases this with rfl | rfl | rfl | rfl | rfl | rfl | rfl | rfl | rfl | rfl | rfl | rfl | rfl | rfl | rfl | rfl | rfl | rfl | rfl
  · exact c5_0
  · exact c5_1
  · exact c5_2
  · exact c5_3
  · exact c5_4
  · exact c5_5
  · exact c5_6
  · exact c5_7
  · exact c5_8
  · exact c5_9
  · exact c5_10
  · exact c5_11
  · exact c5_12
  · exact c5_13
  · exact c5_14
  · exact c5_15
  · exact c5_16
  · exact c5_17
  · exact c5_18
theorem c6_0 : lineOk (-3) (-9) = true := by decide +kernel
theorem c6_1 : lineOk (-3) (-8) = true := by decide +kernel
theorem c6_2 : lineOk (-3) (-7) = true := by decide +kernel
theorem c6_3 : lineOk (-3) (-6) = true := by decide +kernel
theorem c6_4 : lineOk (-3) (-5) = true := by decide +kernel
theorem c6_5 : lineOk (-3) (-4) = true := by decide +kernel
theorem c6_6 : lineOk (-3) (-3) = true := by decide +kernel
theorem c6_7 : lineOk (-3) (-2) = true := by decide +kernel
theorem c6_8 : lineOk (-3) (-1) = true := by decide +kernel
theorem c6_9 : lineOk (-3) (0) = true := by decide +kernel
theorem c6_10 : lineOk (-3) (1) = true := by decide +kernel
theorem c6_11 : lineOk (-3) (2) = true := by decide +kernel
theorem c6_12 : lineOk (-3) (3) = true := by decide +kernel
theorem c6_13 : lineOk (-3) (4) = true := by decide +kernel
theorem c6_14 : lineOk (-3) (5) = true := by decide +kernel
theorem c6_15 : lineOk (-3) (6) = true := by decide +kernel
theorem c6_16 : lineOk (-3) (7) = true := by decide +kernel
theorem c6_17 : lineOk (-3) (8) = true := by decide +kernel
theorem c6_18 : lineOk (-3) (9) = true := by decide +kernel
theorem row6 : rowOk (-3) = true := List.all_eq_true.mpr fun j hj => by
  have h := List.mem_range.mp hj
  have : j = 0 ∨ j = 1 ∨ j = 2 ∨ j = 3 ∨ j = 4 ∨ j = 5 ∨ j = 6 ∨ j = 7 ∨ j = 8 ∨ j = 9 ∨ j = 10 ∨ j = 11 ∨ j = 12 ∨ j = 13 ∨ j = 14 ∨ j = 15 ∨ j = 16 ∨ j = 17 ∨ j = 18 := by omega
  rcases this with rfl | rfl | rfl | rfl | rfl | rfl | rfl | rfl | rfl | rfl | rfl | rfl | rfl | rfl | rfl | rfl | rfl | rfl | rfl
  · exact c6_0
  · exact c6_1
  · exact c6_2
  · exact c6_3
  · exact c6_4
  · exact c6_5
  · exact c6_6
  · exact c6_7
  · exact c6_8
  · exact c6_9
  · exact c6_10
  · exact c6_11
  · exact c6_12
  · exact c6_13
  · exact c6_14
  · exact c6_15
  · exact c6_16
  · exact c6_17
  · exact c6_18
theorem c7_0 : lineOk (-2) (-9) = true := by decide +kernel
theorem c7_1 : lineOk (-2) (-8) = true := by decide +kernel
theorem c7_2 : lineOk (-2) (-7) = true := by decide +kernel
theorem c7_3 : lineOk (-2) (-6) = true := by decide +kernel
theorem c7_4 : lineOk (-2) (-5) = true := by decide +kernel
theorem c7_5 : lineOk (-2) (-4) = true := by decide +kernel
theorem c7_6 : lineOk (-2) (-3) = true := by decide +kernel
theorem c7_7 : lineOk (-2) (-2) = true := by decide +kernel
theorem c7_8 : lineOk (-2) (-1) = true := by decide +kernel
theorem c7_9 : lineOk (-2) (0) = true := by decide +kernel
theorem c7_10 : lineOk (-2) (1) = true := by decide +kernel
theorem c7_11 : lineOk (-2) (2) = true := by decide +kernel
theorem c7_12 : lineOk (-2) (3) = true := by decide +kernel
theorem c7_13 : lineOk (-2) (4) = true := by decide +kernel
theorem c7_14 : lineOk (-2) (5) = true := by decide +kernel
theorem c7_15 : lineOk (-2) (6) = true := by decide +kernel
theorem c7_16 : lineOk (-2) (7) = true := by decide +kernel
theorem c7_17 : lineOk (-2) (8) = true := by decide +kernel
theorem c7_18 : lineOk (-2) (9) = true := by decide +kernel
theorem row7 : rowOk (-2) = true := List.all_eq_true.mpr fun j hj => by
  have h := List.mem_range.mp hj
  have : j = 0 ∨ j = 1 ∨ j = 2 ∨ j = 3 ∨ j = 4 ∨ j = 5 ∨ j = 6 ∨ j = 7 ∨ j = 8 ∨ j = 9 ∨ j = 10 ∨ j = 11 ∨ j = 12 ∨ j = 13 ∨ j = 14 ∨ j = 15 ∨ j = 16 ∨ j = 17 ∨ j = 18 := by omega
  rcases this with rfl | rfl | rfl | rfl | rfl | rfl | rfl | rfl | rfl | rfl | rfl | rfl | rfl | rfl | rfl | rfl | rfl | rfl | rfl
  · exact c7_0
  · exact c7_1
  · exact c7_2
  · exact c7_3
  · exact c7_4
  · exact c7_5
  · exact c7_6
  · exact c7_7
  · exact c7_8
  · exact c7_9
  · exact c7_10
  · exact c7_11
  · exact c7_12
  · exact c7_13
  · exact c7_14
  · exact c7_15
  · exact c7_16
  · exact c7_17
  · exact c7_18
theorem c8_0 : lineOk (-1) (-9) = true := by decide +kernel
theorem c8_1 : lineOk (-1) (-8) = true := by decide +kernel
theorem c8_2 : lineOk (-1) (-7) = true := by decide +kernel
theorem c8_3 : lineOk (-1) (-6) = true := by decide +kernel
theorem c8_4 : lineOk (-1) (-5) = true := by decide +kernel
theorem c8_5 : lineOk (-1) (-4) = true := by decide +kernel
theorem c8_6 : lineOk (-1) (-3) = true := by decide +kernel
theorem c8_7 : lineOk (-1) (-2) = true := by decide +kernel
theorem c8_8 : lineOk (-1) (-1) = true := by decide +kernel
theorem c8_9 : lineOk (-1) (0) = true := by decide +kernel
theorem c8_10 : lineOk (-1) (1) = true := by decide +kernel
theorem c8_11 : lineOk (-1) (2) = true := by decide +kernel
theorem c8_12 : lineOk (-1) (3) = true := by decide +kernel
theorem c8_13 : lineOk (-1) (4) = true := by decide +kernel
theorem c8_14 : lineOk (-1) (5) = true := by decide +kernel
theorem c8_15 : lineOk (-1) (6) = true := by decide +kernel
theorem c8_16 : lineOk (-1) (7) = true := by decide +kernel
theorem c8_17 : lineOk (-1) (8) = true := by decide +kernel
theorem c8_18 : lineOk (-1) (9) = true := by decide +kernel
theorem row8 : rowOk (-1) = true := List.all_eq_true.mpr fun j hj => by
  have h := List.mem_range.mp hj
  have : j = 0 ∨ j = 1 ∨ j = 2 ∨ j = 3 ∨ j = 4 ∨ j = 5 ∨ j = 6 ∨ j = 7 ∨ j = 8 ∨ j = 9 ∨ j = 10 ∨ j = 11 ∨ j = 12 ∨ j = 13 ∨ j = 14 ∨ j = 15 ∨ j = 16 ∨ j = 17 ∨ j = 18 := by omega
  rcases this with rfl | rfl | rfl | rfl | rfl | rfl | rfl | rfl | rfl | rfl | rfl | rfl | rfl | rfl | rfl | rfl | rfl | rfl | rfl
  · exact c8_0
  · exact c8_1
  · exact c8_2
  · exact c8_3
  · exact c8_4
  · exact c8_5
  · exact c8_6
  · exact c8_7
  · exact c8_8
  · exact c8_9
  · exact c8_10
  · exact c8_11
  · exact c8_12
  · exact c8_13
  · exact c8_14
  · exact c8_15
  · exact c8_16
  · exact c8_17
  · exact c8_18
theorem c9_0 : lineOk (0) (-9) = true := by decide +kernel
theorem c9_1 : lineOk (0) (-8) = true := by decide +kernel
theorem c9_2 : lineOk (0) (-7) = true := by decide +kernel
theorem c9_3 : lineOk (0) (-6) = true := by decide +kernel
theorem c9_4 : lineOk (0) (-5) = true := by decide +kernel
theorem c9_5 : lineOk (0) (-4) = true := by decide +kernel
theorem c9_6 : lineOk (0) (-3) = true := by decide +kernel
theorem c9_7 : lineOk (0) (-2) = true := by decide +kernel
theorem c9_8 : lineOk (0) (-1) = true := by decide +kernel
theorem c9_9 : lineOk (0) (0) = true := by decide +kernel
theorem c9_10 : lineOk (0) (1) = true := by decide +kernel
theorem c9_11 : lineOk (0) (2) = true := by decide +kernel
theorem c9_12 : lineOk (0) (3) = true := by decide +kernel
theorem c9_13 : lineOk (0) (4) = true := by decide +kernel
theorem c9_14 : lineOk (0) (5) = true := by decide +kernel
theorem c9_15 : lineOk (0) (6) = true := by decide +kernel
theorem c9_16 : lineOk (0) (7) = true := by decide +kernel
theorem c9_17 : lineOk (0) (8) = true := by decide +kernel
theorem c9_18 : lineOk (0) (9) = true := by decide +kernel
theorem row9 : rowOk (0) = true := List.all_eq_true.mpr fun j hj => by
  have h := List.mem_range.mp hj
  have : j = 0 ∨ j = 1 ∨ j = 2 ∨ j = 3 ∨ j = 4 ∨ j = 5 ∨ j = 6 ∨ j = 7 ∨ j = 8 ∨ j = 9 ∨ j = 10 ∨ j = 11 ∨ j = 12 ∨ j = 13 ∨ j = 14 ∨ j = 15 ∨ j = 16 ∨ j = 17 ∨ j = 18 := by omega
  rcases this with rfl | rfl | rfl | rfl | rfl | rfl | rfl | rfl | rfl | rfl | rfl | rfl | rfl | rfl | rfl | rfl | rfl | rfl | rfl
  · exact c9_0
  · exact c9_1
  · exact c9_2
  · exact c9_3
  · exact c9_4
  · exact c9_5
  · exact c9_6
  · exact c9_7
  · exact c9_8
  · exact c9_9
  · exact c9_10
  · exact c9_11
  · exact c9_12
  · exact c9_13
  · exact c9_14
  · exact c9_15
  · exact c9_16
  · exact c9_17
  · exact c9_18
theorem c10_0 : lineOk (1) (-9) = true := by decide +kernel
theorem c10_1 : lineOk (1) (-8) = true := by decide +kernel
theorem c10_2 : lineOk (1) (-7) = true := by decide +kernel
theorem c10_3 : lineOk (1) (-6) = true := by decide +kernel
theorem c10_4 : lineOk (1) (-5) = true := by decide +kernel
theorem c10_5 : lineOk (1) (-4) = true := by decide +kernel
theorem c10_6 : lineOk (1) (-3) = true := by decide +kernel
theorem c10_7 : lineOk (1) (-2) = true := by decide +kernel
theorem c10_8 : lineOk (1) (-1) = true := by decide +kernel
theorem c10_9 : lineOk (1) (0) = true := by decide +kernel
theorem c10_10 : lineOk (1) (1) = true := by decide +kernel
theorem c10_11 : lineOk (1) (2) = true := by decide +kernel
theorem c10_12 : lineOk (1) (3) = true := by decide +kernel
theorem c10_13 : lineOk (1) (4) = true := by decide +kernel
theorem c10_14 : lineOk (1) (5) = true := by decide +kernel
theorem c10_15 : lineOk (1) (6) = true := by decide +kernel
theorem c10_16 : lineOk (1) (7) = true := by decide +kernel
theorem c10_17 : lineOk (1) (8) = true := by decide +kernel
theorem c10_18 : lineOk (1) (9) = true := by decide +kernel
theorem row10 : rowOk (1) = true := List.all_eq_true.mpr fun j hj => by
  have h := List.mem_range.mp hj
  have : j = 0 ∨ j = 1 ∨ j = 2 ∨ j = 3 ∨ j = 4 ∨ j = 5 ∨ j = 6 ∨ j = 7 ∨ j = 8 ∨ j = 9 ∨ j = 10 ∨ j = 11 ∨ j = 12 ∨ j = 13 ∨ j = 14 ∨ j = 15 ∨ j = 16 ∨ j = 17 ∨ j = 18 := by omega
  rcases this with rfl | rfl | rfl | rfl | rfl | rfl | rfl | rfl | rfl | rfl | rfl | rfl | rfl | rfl | rfl | rfl | rfl | rfl | rfl
  · exact c10_0
  · exact c10_1
  · exact c10_2
  · exact c10_3
  · exact c10_4
  · exact c10_5
  · exact c10_6
  · exact c10_7
  · exact c10_8
  · exact c10_9
  · exact c10_10
  · exact c10_11
  · exact c10_12
  · exact c10_13
  · exact c10_14
  · exact c10_15
  · exact c10_16
  · exact c10_17
  · exact c10_18
theorem c11_0 : lineOk (2) (-9) = true := by decide +kernel
theorem c11_1 : lineOk (2) (-8) = true := by decide +kernel
theorem c11_2 : lineOk (2) (-7) = true := by decide +kernel
theorem c11_3 : lineOk (2) (-6) = true := by decide +kernel
theorem c11_4 : lineOk (2) (-5) = true := by decide +kernel
theorem c11_5 : lineOk (2) (-4) = true := by decide +kernel
theorem c11_6 : lineOk (2) (-3) = true := by decide +kernel
theorem c11_7 : lineOk (2) (-2) = true := by decide +kernel
theorem c11_8 : lineOk (2) (-1) = true := by decide +kernel
theorem c11_9 : lineOk (2) (0) = true := by decide +kernel
theorem c11_10 : lineOk (2) (1) = true := by decide +kernel
theorem c11_11 : lineOk (2) (2) = true := by decide +kernel
theorem c11_12 : lineOk (2) (3) = true := by decide +kernel
theorem c11_13 : lineOk (2) (4) = true := by decide +kernel
theorem c11_14 : lineOk (2) (5) = true := by decide +kernel
theorem c11_15 : lineOk (2) (6) = true := by decide +kernel
theorem c11_16 : lineOk (2) (7) = true := by decide +kernel
theorem c11_17 : lineOk (2) (8) = true := by decide +kernel
theorem c11_18 : lineOk (2) (9) = true := by decide +kernel
theorem row11 : rowOk (2) = true := List.all_eq_true.mpr fun j hj => by
  have h := List.mem_range.mp hj
  have : j = 0 ∨ j = 1 ∨ j = 2 ∨ j = 3 ∨ j = 4 ∨ j = 5 ∨ j = 6 ∨ j = 7 ∨ j = 8 ∨ j = 9 ∨ j = 10 ∨ j = 11 ∨ j = 12 ∨ j = 13 ∨ j = 14 ∨ j = 15 ∨ j = 16 ∨ j = 17 ∨ j = 18 := by omega
  rcases this with rfl | rfl | rfl | rfl | rfl | rfl | rfl | rfl | rfl | rfl | rfl | rfl | rfl | rfl | rfl | rfl | rfl | rfl | rfl
  · exact c11_0
  · exact c11_1
  · exact c11_2
  · exact c11_3
  · exact c11_4
  · exact c11_5
  · exact c11_6
  · exact c11_7
  · exact c11_8
  · exact c11_9
  · exact c11_10
  · exact c11_11
  · exact c11_12
  · exact c11_13
  · exact c11_14
  · exact c11_15
  · exact c11_16
  · exact c11_17
  · exact c11_18
theorem c12_0 : lineOk (3) (-9) = true := by decide +kernel
theorem c12_1 : lineOk (3) (-8) = true := by decide +kernel
theorem c12_2 : lineOk (3) (-7) = true := by decide +kernel
theorem c12_3 : lineOk (3) (-6) = true := by decide +kernel
theorem c12_4 : lineOk (3) (-5) = true := by decide +kernel
theorem c12_5 : lineOk (3) (-4) = true := by decide +kernel
theorem c12_6 : lineOk (3) (-3) = true := by decide +kernel
theorem c12_7 : lineOk (3) (-2) = true := by decide +kernel
theorem c12_8 : lineOk (3) (-1) = true := by decide +kernel
theorem c12_9 : lineOk (3) (0) = true := by decide +kernel
theorem c12_10 : lineOk (3) (1) = true := by decide +kernel
theorem c12_11 : lineOk (3) (2) = true := by decide +kernel
theorem c12_12 : lineOk (3) (3) = true := by decide +kernel
theorem c12_13 : lineOk (3) (4) = true := by decide +kernel
theorem c12_14 : lineOk (3) (5) = true := by decide +kernel
theorem c12_15 : lineOk (3) (6) = true := by decide +kernel
theorem c12_16 : lineOk (3) (7) = true := by decide +kernel
theorem c12_17 : lineOk (3) (8) = true := by decide +kernel
theorem c12_18 : lineOk (3) (9) = true := by decide +kernel
theorem row12 : rowOk (3) = true := List.all_eq_true.mpr fun j hj => by
  have h := List.mem_range.mp hj
  have : j = 0 ∨ j = 1 ∨ j = 2 ∨ j = 3 ∨ j = 4 ∨ j = 5 ∨ j = 6 ∨ j = 7 ∨ j = 8 ∨ j = 9 ∨ j = 10 ∨ j = 11 ∨ j = 12 ∨ j = 13 ∨ j = 14 ∨ j = 15 ∨ j = 16 ∨ j = 17 ∨ j = 18 := by omega
  rcases this with rfl | rfl | rfl | rfl | rfl | rfl | rfl | rfl | rfl | rfl | rfl | rfl | rfl | rfl | rfl | rfl | rfl | rfl | rfl
  · exact c12_0
  · exact c12_1
  · exact c12_2
  · exact c12_3
  · exact c12_4
  · exact c12_5
  · exact c12_6
  · exact c12_7
  · exact c12_8
  · exact c12_9
  · exact c12_10
  · exact c12_11
  · exact c12_12
  · exact c12_13
  · exact c12_14
  · exact c12_15
  · exact c12_16
  · exact c12_17
  · exact c12_18
theorem c13_0 : lineOk (4) (-9) = true := by decide +kernel
theorem c13_1 : lineOk (4) (-8) = true := by decide +kernel
theorem c13_2 : lineOk (4) (-7) = true := by decide +kernel
theorem c13_3 : lineOk (4) (-6) = true := by decide +kernel
theorem c13_4 : lineOk (4) (-5) = true := by decide +kernel
theorem c13_5 : lineOk (4) (-4) = true := by decide +kernel
theorem c13_6 : lineOk (4) (-3) = true := by decide +kernel
theorem c13_7 : lineOk (4) (-2) = true := by decide +kernel
theorem c13_8 : lineOk (4) (-1) = true := by decide +kernel
theorem c13_9 : lineOk (4) (0) = true := by decide +kernel
theorem c13_10 : lineOk (4) (1) = true := by decide +kernel
theorem c13_11 : lineOk (4) (2) = true := by decide +kernel
theorem c13_12 : lineOk (4) (3) = true := by decide +kernel
theorem c13_13 : lineOk (4) (4) = true := by decide +kernel
theorem c13_14 : lineOk (4) (5) = true := by decide +kernel
theorem c13_15 : lineOk (4) (6) = true := by decide +kernel
theorem c13_16 : lineOk (4) (7) = true := by decide +kernel
theorem c13_17 : lineOk (4) (8) = true := by decide +kernel
theorem c13_18 : lineOk (4) (9) = true := by decide +kernel
theorem row13 : rowOk (4) = true := List.all_eq_true.mpr fun j hj => by
  have h := List.mem_range.mp hj
  have : j = 0 ∨ j = 1 ∨ j = 2 ∨ j = 3 ∨ j = 4 ∨ j = 5 ∨ j = 6 ∨ j = 7 ∨ j = 8 ∨ j = 9 ∨ j = 10 ∨ j = 11 ∨ j = 12 ∨ j = 13 ∨ j = 14 ∨ j = 15 ∨ j = 16 ∨ j = 17 ∨ j = 18 := by omega
  rcases this with rfl | rfl | rfl | rfl | rfl | rfl | rfl | rfl | rfl | rfl | rfl | rfl | rfl | rfl | rfl | rfl | rfl | rfl | rfl
  · exact c13_0
  · exact c13_1
  · exact c13_2
  · exact c13_3
  · exact c13_4
  · exact c13_5
  · exact c13_6
  · exact c13_7
  · exact c13_8
  · exact c13_9
  · exact c13_10
  · exact c13_11
  · exact c13_12
  · exact c13_13
  · exact c13_14
  · exact c13_15
  · exact c13_16
  · exact c13_17
  · exact c13_18
theorem c14_0 : lineOk (5) (-9) = true := by decide +kernel
theorem c14_1 : lineOk (5) (-8) = true := by decide +kernel
theorem c14_2 : lineOk (5) (-7) = true := by decide +kernel
theorem c14_3 : lineOk (5) (-6) = true := by decide +kernel
theorem c14_4 : lineOk (5) (-5) = true := by decide +kernel
theorem c14_5 : lineOk (5) (-4) = true := by decide +kernel
theorem c14_6 : lineOk (5) (-3) = true := by decide +kernel
theorem c14_7 : lineOk (5) (-2) = true := by decide +kernel
theorem c14_8 : lineOk (5) (-1) = true := by decide +kernel
theorem c14_9 : lineOk (5) (0) = true := by decide +kernel
theorem c14_10 : lineOk (5) (1) = true := by decide +kernel
theorem c14_11 : lineOk (5) (2) = true := by decide +kernel
theorem c14_12 : lineOk (5) (3) = true := by decide +kernel
theorem c14_13 : lineOk (5) (4) = true := by decide +kernel
theorem c14_14 : lineOk (5) (5) = true := by decide +kernel
theorem c14_15 : lineOk (5) (6) = true := by decide +kernel
theorem c14_16 : lineOk (5) (7) = true := by decide +kernel
theorem c14_17 : lineOk (5) (8) = true := by decide +kernel
theorem c14_18 : lineOk (5) (9) = true := by decide +kernel
theorem row14 : rowOk (5) = true := List.all_eq_true.mpr fun j hj => by
  have h := List.mem_range.mp hj
  have : j = 0 ∨ j = 1 ∨ j = 2 ∨ j = 3 ∨ j = 4 ∨ j = 5 ∨ j = 6 ∨ j = 7 ∨ j = 8 ∨ j = 9 ∨ j = 10 ∨ j = 11 ∨ j = 12 ∨ j = 13 ∨ j = 14 ∨ j = 15 ∨ j = 16 ∨ j = 17 ∨ j = 18 := by omega
  rcases this with rfl | rfl | rfl | rfl | rfl | rfl | rfl | rfl | rfl | rfl | rfl | rfl | rfl | rfl | rfl | rfl | rfl | rfl | rfl
  · exact c14_0
  · exact c14_1
  · exact c14_2
  · exact c14_3
  · exact c14_4
  · exact c14_5
  · exact c14_6
  · exact c14_7
  · exact c14_8
  · exact c14_9
  · exact c14_10
  · exact c14_11
  · exact c14_12
  · exact c14_13
  · exact c14_14
  · exact c14_15
  · exact c14_16
  · exact c14_17
  · exact c14_18
theorem c15_0 : lineOk (6) (-9) = true := by decide +kernel
theorem c15_1 : lineOk (6) (-8) = true := by decide +kernel
theorem c15_2 : lineOk (6) (-7) = true := by decide +kernel
theorem c15_3 : lineOk (6) (-6) = true := by decide +kernel
theorem c15_4 : lineOk (6) (-5) = true := by decide +kernel
theorem c15_5 : lineOk (6) (-4) = true := by decide +kernel
theorem c15_6 : lineOk (6) (-3) = true := by decide +kernel
theorem c15_7 : lineOk (6) (-2) = true := by decide +kernel
theorem c15_8 : lineOk (6) (-1) = true := by decide +kernel
theorem c15_9 : lineOk (6) (0) = true := by decide +kernel
theorem c15_10 : lineOk (6) (1) = true := by decide +kernel
theorem c15_11 : lineOk (6) (2) = true := by decide +kernel
theorem c15_12 : lineOk (6) (3) = true := by decide +kernel
theorem c15_13 : lineOk (6) (4) = true := by decide +kernel
theorem c15_14 : lineOk (6) (5) = true := by decide +kernel
theorem c15_15 : lineOk (6) (6) = true := by decide +kernel
theorem c15_16 : lineOk (6) (7) = true := by decide +kernel
theorem c15_17 : lineOk (6) (8) = true := by decide +kernel
theorem c15_18 : lineOk (6) (9) = true := by decide +kernel
theorem row15 : rowOk (6) = true := List.all_eq_true.mpr fun j hj => by
  have h := List.mem_range.mp hj
  have : j = 0 ∨ j = 1 ∨ j = 2 ∨ j = 3 ∨ j = 4 ∨ j = 5 ∨ j = 6 ∨ j = 7 ∨ j = 8 ∨ j = 9 ∨ j = 10 ∨ j = 11 ∨ j = 12 ∨ j = 13 ∨ j = 14 ∨ j = 15 ∨ j = 16 ∨ j = 17 ∨ j = 18 := by omega
  rcases this with rfl | rfl | rfl | rfl | rfl | rfl | rfl | rfl | rfl | rfl | rfl | rfl | rfl | rfl | rfl | rfl | rfl | rfl | rfl
  · exact c15_0
  · exact c15_1
  · exact c15_2
  · exact c15_3
  · exact c15_4
  · exact c15_5
  · exact c15_6
  · exact c15_7
  · exact c15_8
  · exact c15_9
  · exact c15_10
  · exact c15_11
  · exact c15_12
  · exact c15_13
  · exact c15_14
  · exact c15_15
  · exact c15_16
  · exact c15_17
  · exact c15_18
theorem c16_0 : lineOk (7) (-9) = true := by decide +kernel
theorem c16_1 : lineOk (7) (-8) = true := by decide +kernel
theorem c16_2 : lineOk (7) (-7) = true := by decide +kernel
theorem c16_3 : lineOk (7) (-6) = true := by decide +kernel
theorem c16_4 : lineOk (7) (-5) = true := by decide +kernel
theorem c16_5 : lineOk (7) (-4) = true := by decide +kernel
theorem c16_6 : lineOk (7) (-3) = true := by decide +kernel
theorem c16_7 : lineOk (7) (-2) = true := by decide +kernel
theorem c16_8 : lineOk (7) (-1) = true := by decide +kernel
theorem c16_9 : lineOk (7) (0) = true := by decide +kernel
theorem c16_10 : lineOk (7) (1) = true := by decide +kernel
theorem c16_11 : lineOk (7) (2) = true := by decide +kernel
theorem c16_12 : lineOk (7) (3) = true := by decide +kernel
theorem c16_13 : lineOk (7) (4) = true := by decide +kernel
theorem c16_14 : lineOk (7) (5) = true := by decide +kernel
theorem c16_15 : lineOk (7) (6) = true := by decide +kernel
theorem c16_16 : lineOk (7) (7) = true := by decide +kernel
theorem c16_17 : lineOk (7) (8) = true := by decide +kernel
theorem c16_18 : lineOk (7) (9) = true := by decide +kernel
theorem row16 : rowOk (7) = true := List.all_eq_true.mpr fun j hj => by
  have h := List.mem_range.mp hj
  have : j = 0 ∨ j = 1 ∨ j = 2 ∨ j = 3 ∨ j = 4 ∨ j = 5 ∨ j = 6 ∨ j = 7 ∨ j = 8 ∨ j = 9 ∨ j = 10 ∨ j = 11 ∨ j = 12 ∨ j = 13 ∨ j = 14 ∨ j = 15 ∨ j = 16 ∨ j = 17 ∨ j = 18 := by omega
  rcases this with rfl | rfl | rfl | rfl | rfl | rfl | rfl | rfl | rfl | rfl | rfl | rfl | rfl | rfl | rfl | rfl | rfl | rfl | rfl
  · exact c16_0
  · exact c16_1
  · exact c16_2
  · exact c16_3
  · exact c16_4
  · exact c16_5
  · exact c16_6
  · exact c16_7
  · exact c16_8
  · exact c16_9
  · exact c16_10
  · exact c16_11
  · exact c16_12
  · exact c16_13
  · exact c16_14
  · exact c16_15
  · exact c16_16
  · exact c16_17
  · exact c16_18
theorem c17_0 : lineOk (8) (-9) = true := by decide +kernel
theorem c17_1 : lineOk (8) (-8) = true := by decide +kernel
theorem c17_2 : lineOk (8) (-7) = true := by decide +kernel
theorem c17_3 : lineOk (8) (-6) = true := by decide +kernel
theorem c17_4 : lineOk (8) (-5) = true := by decide +kernel
theorem c17_5 : lineOk (8) (-4) = true := by decide +kernel
theorem c17_6 : lineOk (8) (-3) = true := by decide +kernel
theorem c17_7 : lineOk (8) (-2) = true := by decide +kernel
theorem c17_8 : lineOk (8) (-1) = true := by decide +kernel
theorem c17_9 : lineOk (8) (0) = true := by decide +kernel
theorem c17_10 : lineOk (8) (1) = true := by decide +kernel
theorem c17_11 : lineOk (8) (2) = true := by decide +kernel
theorem c17_12 : lineOk (8) (3) = true := by decide +kernel
theorem c17_13 : lineOk (8) (4) = true := by decide +kernel
theorem c17_14 : lineOk (8) (5) = true := by decide +kernel
theorem c17_15 : lineOk (8) (6) = true := by decide +kernel
theorem c17_16 : lineOk (8) (7) = true := by decide +kernel
theorem c17_17 : lineOk (8) (8) = true := by decide +kernel
theorem c17_18 : lineOk (8) (9) = true := by decide +kernel
theorem row17 : rowOk (8) = true := List.all_eq_true.mpr fun j hj => by
  have h := List.mem_range.mp hj
  have : j = 0 ∨ j = 1 ∨ j = 2 ∨ j = 3 ∨ j = 4 ∨ j = 5 ∨ j = 6 ∨ j = 7 ∨ j = 8 ∨ j = 9 ∨ j = 10 ∨ j = 11 ∨ j = 12 ∨ j = 13 ∨ j = 14 ∨ j = 15 ∨ j = 16 ∨ j = 17 ∨ j = 18 := by omega
  rcases this with rfl | rfl | rfl | rfl | rfl | rfl | rfl | rfl | rfl | rfl | rfl | rfl | rfl | rfl | rfl | rfl | rfl | rfl | rfl
  · exact c17_0
  · exact c17_1
  · exact c17_2
  · exact c17_3
  · exact c17_4
  · exact c17_5
  · exact c17_6
  · exact c17_7
  · exact c17_8
  · exact c17_9
  · exact c17_10
  · exact c17_11
  · exact c17_12
  · exact c17_13
  · exact c17_14
  · exact c17_15
  · exact c17_16
  · exact c17_17
  · exact c17_18
theorem c18_0 : lineOk (9) (-9) = true := by decide +kernel
theorem c18_1 : lineOk (9) (-8) = true := by decide +kernel
theorem c18_2 : lineOk (9) (-7) = true := by decide +kernel
theorem c18_3 : lineOk (9) (-6) = true := by decide +kernel
theorem c18_4 : lineOk (9) (-5) = true := by decide +kernel
theorem c18_5 : lineOk (9) (-4) = true := by decide +kernel
theorem c18_6 : lineOk (9) (-3) = true := by decide +kernel
theorem c18_7 : lineOk (9) (-2) = true := by decide +kernel
theorem c18_8 : lineOk (9) (-1) = true := by decide +kernel
theorem c18_9 : lineOk (9) (0) = true := by decide +kernel
theorem c18_10 : lineOk (9) (1) = true := by decide +kernel
theorem c18_11 : lineOk (9) (2) = true := by decide +kernel
theorem c18_12 : lineOk (9) (3) = true := by decide +kernel
theorem c18_13 : lineOk (9) (4) = true := by decide +kernel
theorem c18_14 : lineOk (9) (5) = true := by decide +kernel
theorem c18_15 : lineOk (9) (6) = true := by decide +kernel
theorem c18_16 : lineOk (9) (7) = true := by decide +kernel
theorem c18_17 : lineOk (9) (8) = true := by decide +kernel
theorem c18_18 : lineOk (9) (9) = true := by decide +kernel
theorem row18 : rowOk (9) = true := List.all_eq_true.mpr fun j hj => by
  have h := List.mem_range.mp hj
  have : j = 0 ∨ j = 1 ∨ j = 2 ∨ j = 3 ∨ j = 4 ∨ j = 5 ∨ j = 6 ∨ j = 7 ∨ j = 8 ∨ j = 9 ∨ j = 10 ∨ j = 11 ∨ j = 12 ∨ j = 13 ∨ j = 14 ∨ j = 15 ∨ j = 16 ∨ j = 17 ∨ j = 18 := by omega
  rcases this with rfl | rfl | rfl | rfl | rfl | rfl | rfl | rfl | rfl | rfl | rfl | rfl | rfl | rfl | rfl | rfl | rfl | rfl | rfl
  · exact c18_0
  · exact c18_1
  · exact c18_2
  · exact c18_3
  · exact c18_4
  · exact c18_5
  · exact c18_6
  · exact c18_7
  · exact c18_8
  · exact c18_9
  · exact c18_10
  · exact c18_11
  · exact c18_12
  · exact c18_13
  · exact c18_14
  · exact c18_15
  · exact c18_16
  · exact c18_17
  · exact c18_18
theorem rows_ok {a : Int} (ha : -9 ≤ a) (ha' : a ≤ 9) : rowOk a = true := by
  have : a = -9 ∨ a = -8 ∨ a = -7 ∨ a = -6 ∨ a = -5 ∨ a = -4 ∨ a = -3 ∨ a = -2 ∨ a = -1 ∨ a = 0 ∨ a = 1 ∨ a = 2 ∨ a = 3 ∨ a = 4 ∨ a = 5 ∨ a = 6 ∨ a = 7 ∨ a = 8 ∨ a = 9 := by omega
  rcases this with rfl | rfl | rfl | rfl | rfl | rfl | rfl | rfl | rfl | rfl | rfl | rfl | rfl | rfl | rfl | rfl | rfl | rfl | rfl
  · exact row0
  · exact row1
  · exact row2
  · exact row3
  · exact row4
  · exact row5
  · exact row6
  · exact row7
  · exact row8
  · exact row9
  · exact row10
  · exact row11
  · exact row12
  · exact row13
  · exact row14
  · exact row15
  · exact row16
  · exact row17
  · exact row18
theorem line_ok {a b : Int} (ha : -9 ≤ a) (ha' : a ≤ 9) (hb : -9 ≤ b) (hb' : b ≤ 9) : ∃ g st, rel a b = some (g :: st) ∧ G_law_line [.int a, .int b] = some (.tuple [.list ((g :: st).map cellD), .list ((pinRel (g :: st)).map coupD)]) ∧ (g :: st).length ≤ 900 ∧ (pinRel (g :: st)).length ≤ 900 ∧ ∀ c ∈ pinRel (g :: st), two c.1 c.2 = c := by
  have h : lineOk a b = true := by
    have := rows_ok ha ha'
    unfold rowOk at this
    rw [List.all_eq_true] at this
    have := this (b + 9).toNat (List.mem_range.mpr (by omega))
    rwa [show (((b + 9).toNat : Nat) : Int) - 9 = b by omega] at this
  unfold lineOk at h
  split at h
  · rename_i g st d e1 e2
    simp only [Bool.and_eq_true] at h
    refine ⟨g, st, e1, ?_, of_decide_eq_true h.1.1.2, of_decide_eq_true h.1.2, fun c hc => ?_⟩
    · rw [e2, beqD_sound _ _ h.1.1.1]
    · have := List.all_eq_true.mp h.2 c hc
      unfold two
      rw [if_neg (by simpa using this)]
  · cases h
end My

namespace My
open PySem L2 DL SD
/-! ### steps of the law -/
theorem tup_2 {ga gb : Rho → Option D} {ρ : Rho} {a b : D} (h1 : ga ρ = some a) (h2 : gb ρ = some b) : eTup (eCons ga (eCons gb eNil)) ρ = some (.tuple [a, b]) := by
  unfold eTup eCons
  rw [h1, h2]
  rfl
theorem call_2 {G : List D → Option D} {ga gb : Rho → Option D} {ρ : Rho} {a b r : D} (h1 : ga ρ = some a) (h2 : gb ρ = some b) (h : G [a, b] = some r) : eCall G (eCons ga (eCons gb eNil)) ρ = some r := by
  unfold eCall eCons
  rw [h1, h2]
  exact h
theorem call_3 {G : List D → Option D} {ga gb gc : Rho → Option D} {ρ : Rho} {a b c r : D} (h1 : ga ρ = some a) (h2 : gb ρ = some b) (h3 : gc ρ = some c) (h : G [a, b, c] = some r) : eCall G (eCons ga (eCons gb (eCons gc eNil))) ρ = some r := by
  unfold eCall eCons
  rw [h1, h2, h3]
  exact h
theorem asg_some {ga : Rho → Option D} {s : D → Rho → Option Rho} {ρ ρ' : Rho} {d : D} (h1 : ga ρ = some d) (h2 : s d ρ = some ρ') : sAsg ga s ρ = some (.nx ρ') := by
  unfold sAsg
  rw [h1]
  simp only [Option.bind_some]
  rw [h2]
  rfl
theorem ne_refl {d : D} (h : SeqAt.shaped d = true) : dNe d d = some (.bool false) := by
  unfold dNe
  rw [h, SeqAt.eqv_refl d (SeqAt.canLay_of_shaped h)]
  rfl
theorem lay_sh (x y : Int) : ∀ l : List (Int × Int), PyData.canLayAll0 (l.map (sh x y)) = true ∧ PyData.depthAll (l.map (sh x y)) ≤ 2
  | [] => ⟨rfl, Nat.zero_le _⟩
  | _ :: r => ⟨by simp [PyData.canLayAll0, PyData.canLay0, sh, cellD, (lay_sh x y r).1], by have := (lay_sh x y r).2; simp [PyData.depthAll, PyData.depth, sh, cellD] at this ⊢; omega⟩
theorem lay_shC (x y : Int) : ∀ l : List Cp, PyData.canLayAll0 (l.map (shC x y)) = true ∧ PyData.depthAll (l.map (shC x y)) ≤ 3
  | [] => ⟨rfl, Nat.zero_le _⟩
  | _ :: r => ⟨by simp [PyData.canLayAll0, PyData.canLay0, shC, sh, cellD, (lay_shC x y r).1], by have := (lay_shC x y r).2; simp [PyData.depthAll, PyData.depth, shC, sh, cellD] at this ⊢; omega⟩
theorem shaped_sh (x y : Int) (l : List (Int × Int)) : SeqAt.shaped (.list (l.map (sh x y))) = true := by
  have := (lay_sh x y l).2
  unfold SeqAt.shaped
  rw [PyData.canLay0, PyData.depth, (lay_sh x y l).1, decide_eq_true (by omega)]
  rfl
theorem shaped_shC (x y : Int) (l : List Cp) : SeqAt.shaped (.list (l.map (shC x y))) = true := by
  have := (lay_shC x y l).2
  unfold SeqAt.shaped
  rw [PyData.canLay0, PyData.depth, (lay_shC x y l).1, decide_eq_true (by omega)]
  rfl
theorem comp_at (x y : Int) : ∀ (l : List (Int × Int)) (s : Sl), compN (uName 0) eT (eCall G_law_at (eCons (eV 1) (eCons (eV 0) eNil))) (l.map cellD) [s, .dat (cellD (x, y))] = some (l.map (sh x y))
  | [], _ => rfl
  | g :: l, s => by
    rw [List.map_cons, List.map_cons]
    unfold compN
    show Option.bind (some (sh x y g)) (fun d => (compN (uName 0) eT (eCall G_law_at (eCons (eV 1) (eCons (eV 0) eNil))) (l.map cellD) [.dat (cellD g), .dat (cellD (x, y))]).bind fun r => some (d :: r)) = _
    rw [comp_at x y l]
    rfl
def eDue : Rho → Option D := (eCall dTuple (eCons (eCall dSorted (eCons (eLst (eCons (eCall G_law_at (eCons (eV 2) (eCons (eV 0) eNil))) (eCons (eCall G_law_at (eCons (eV 2) (eCons (eV 1) eNil))) eNil))) eNil)) eNil))
def uDue : D → Rho → Option Rho := (uTup 2 (uCons (uName 0) (uCons (uName 1) uNil)))
theorem due_1 (x y : Int) (p q : Int × Int) : eDue [.dat (cellD p), .dat (cellD q), .dat (cellD (x, y))] = some (shC x y (two p q)) := by
  rw [← tup2 x y p q]
  show ((dSorted [.list [sh x y p, sh x y q]]).bind fun x => some [x]).bind dTuple = _
  rw [Option.bind_assoc]
  rfl
theorem comp_due (x y : Int) : ∀ (l : List Cp) (s s' : Sl), (∀ c ∈ l, two c.1 c.2 = c) → compN uDue eT eDue (l.map coupD) [s, s', .dat (cellD (x, y))] = some (l.map (shC x y))
  | [], _, _, _ => rfl
  | g :: l, s, s', h => by
    rw [List.map_cons, List.map_cons]
    unfold compN
    show Option.bind (eDue [.dat (cellD g.1), .dat (cellD g.2), .dat (cellD (x, y))]) (fun d => (compN uDue eT eDue (l.map coupD) [.dat (cellD g.1), .dat (cellD g.2), .dat (cellD (x, y))]).bind fun r => some (d :: r)) = _
    rw [due_1, comp_due x y l _ _ fun c hc => h c (List.mem_cons_of_mem _ hc), h g (List.mem_cons_self ..)]
    rfl
def sDown : Rho → Option Out := (sIf (eB (eOp dEq (eCall G_law_drawn (eCons (eV 0) (eCons (eOp dAdd (eOp dMul (eC (.int 10)) (eV 1)) (eC (.int 4))) (eCons (eC (.int 2)) eNil)))) (eC (.int 0)))) (sSet 4 (eOp dIx (eLst (eCons (eV 3) (eCons (eOp dSub (eC (.int 0)) (eV 3)) (eCons (eOp dFdiv (eV 3) (eC (.int 3))) (eCons (eOp dMul (eC (.int 3)) (eOp dFdiv (eV 3) (eC (.int 4)))) (eCons (eC (.int 0)) eNil)))))) (eCall G_law_drawn (eCons (eV 0) (eCons (eOp dAdd (eOp dMul (eC (.int 10)) (eV 1)) (eC (.int 5))) (eCons (eC (.int 5)) eNil)))))) sSkip)
theorem ten (k : Int) : dMul (.int 10) (.int k) = some (.int (10 * k)) := mul_eq (okS (by omega) (by omega))
theorem eq_int (i j : Int) : dEq (.int i) (.int j) = some (.bool (i == j)) := rfl
theorem down_ok (ns : List Int) (hn : ns.length ≤ 63) (k a b0 : Int) (ha : -9 ≤ a) (ha' : a ≤ 9) (hb : -9 ≤ b0) (hb' : b0 ≤ 9) (s2 s5 s6 s7 s8 s9 : Sl) :
    ∃ b : Int, -9 ≤ b ∧ b ≤ 9 ∧ sDown [.dat (scr ns), .dat (.int k), s2, .dat (.int a), .dat (.int b0), s5, s6, s7, s8, s9] = some (.nx [.dat (scr ns), .dat (.int k), s2, .dat (.int a), .dat (.int b), s5, s6, s7, s8, s9]) := by
  obtain ⟨h, h0, h1, hh⟩ := drawn_ok ns hn (10 * k + 4) 2 (by omega)
  obtain ⟨z, z0, z1, hz⟩ := drawn_ok ns hn (10 * k + 5) 5 (by omega)
  have t : (eB (eOp dEq (eCall G_law_drawn (eCons (eV 0) (eCons (eOp dAdd (eOp dMul (eC (.int 10)) (eV 1)) (eC (.int 4))) (eCons (eC (.int 2)) eNil)))) (eC (.int 0)))) ([.dat (scr ns), .dat (.int k), s2, .dat (.int a), .dat (.int b0), s5, s6, s7, s8, s9].map frz) = some (h == 0) := by
    unfold eB
    rw [op_some (call_3 (a := scr ns) (c := .int 2) rfl (op_some (op_some (a := .int 10) (b := .int k) rfl rfl (ten k)) (b := .int 4) rfl rfl) rfl hh) (b := .int 0) rfl (eq_int h 0)]
    rfl
  unfold sDown
  rw [if_some t]
  by_cases c : (h == 0) = true
  · rw [if_pos c]
    have ez : (eCall G_law_drawn (eCons (eV 0) (eCons (eOp dAdd (eOp dMul (eC (.int 10)) (eV 1)) (eC (.int 5))) (eCons (eC (.int 5)) eNil)))) [.dat (scr ns), .dat (.int k), s2, .dat (.int a), .dat (.int b0), s5, s6, s7, s8, s9] = some (.int z) :=
      call_3 (a := scr ns) (c := .int 5) rfl (op_some (op_some (a := .int 10) (b := .int k) rfl rfl (ten k)) (b := .int 5) rfl rfl) rfl hz
    have el : (eLst (eCons (eV 3) (eCons (eOp dSub (eC (.int 0)) (eV 3)) (eCons (eOp dFdiv (eV 3) (eC (.int 3))) (eCons (eOp dMul (eC (.int 3)) (eOp dFdiv (eV 3) (eC (.int 4)))) (eCons (eC (.int 0)) eNil)))))) [.dat (scr ns), .dat (.int k), s2, .dat (.int a), .dat (.int b0), s5, s6, s7, s8, s9] = some (.list [.int a, .int (0 - a), .int (a / 3), .int (3 * (a / 4)), .int 0]) := by
      have e3 : (eOp dMul (eC (.int 3)) (eOp dFdiv (eV 3) (eC (.int 4)))) [.dat (scr ns), .dat (.int k), s2, .dat (.int a), .dat (.int b0), s5, s6, s7, s8, s9] = some (.int (3 * (a / 4))) :=
        op_some (a := .int 3) rfl (op_some (a := .int a) (b := .int 4) rfl rfl (fdiv_eq (okD (by omega) (by omega)))) (mul_eq (okS (by omega) (by omega)))
      unfold eLst eCons
      rw [e3]
      rfl
    have fin : ∀ r : Int, dIx (.list [.int a, .int (0 - a), .int (a / 3), .int (3 * (a / 4)), .int 0]) (.int z) = some (.int r) → sSet 4 (eOp dIx (eLst (eCons (eV 3) (eCons (eOp dSub (eC (.int 0)) (eV 3)) (eCons (eOp dFdiv (eV 3) (eC (.int 3))) (eCons (eOp dMul (eC (.int 3)) (eOp dFdiv (eV 3) (eC (.int 4)))) (eCons (eC (.int 0)) eNil)))))) (eCall G_law_drawn (eCons (eV 0) (eCons (eOp dAdd (eOp dMul (eC (.int 10)) (eV 1)) (eC (.int 5))) (eCons (eC (.int 5)) eNil))))) [.dat (scr ns), .dat (.int k), s2, .dat (.int a), .dat (.int b0), s5, s6, s7, s8, s9] = some (.nx [.dat (scr ns), .dat (.int k), s2, .dat (.int a), .dat (.int r), s5, s6, s7, s8, s9]) :=
      fun r hr => set_some (op_some el ez hr)
    have : z = 0 ∨ z = 1 ∨ z = 2 ∨ z = 3 ∨ z = 4 := by omega
    rcases this with rfl | rfl | rfl | rfl | rfl
    · exact ⟨_, ha, ha', fin _ rfl⟩
    · exact ⟨0 - a, by omega, by omega, fin _ rfl⟩
    · exact ⟨a / 3, by omega, by omega, fin _ rfl⟩
    · exact ⟨3 * (a / 4), by omega, by omega, fin _ rfl⟩
    · exact ⟨0, by omega, by omega, fin _ rfl⟩
  · rw [if_neg c]
    exact ⟨b0, hb, hb', rfl⟩
def bL : Rho → Option Out := (sSeq (sSet 2 (eTup (eCons (eOp dSub (eCall G_law_drawn (eCons (eV 0) (eCons (eOp dMul (eC (.int 10)) (eV 1)) (eCons (eC (.int 40)) eNil)))) (eC (.int 20))) (eCons (eOp dSub (eCall G_law_drawn (eCons (eV 0) (eCons (eOp dAdd (eOp dMul (eC (.int 10)) (eV 1)) (eC (.int 1))) (eCons (eC (.int 40)) eNil)))) (eC (.int 20))) eNil))))
    (sSeq (sSet 3 (eOp dSub (eCall G_law_drawn (eCons (eV 0) (eCons (eOp dAdd (eOp dMul (eC (.int 10)) (eV 1)) (eC (.int 2))) (eCons (eC (.int 19)) eNil)))) (eC (.int 9))))
    (sSeq (sSet 4 (eOp dSub (eCall G_law_drawn (eCons (eV 0) (eCons (eOp dAdd (eOp dMul (eC (.int 10)) (eV 1)) (eC (.int 3))) (eCons (eC (.int 19)) eNil)))) (eC (.int 9))))
    (sSeq sDown
    (sSeq (sAsg (eCall G_law_line (eCons (eV 3) (eCons (eV 4) eNil))) (uTup 2 (uCons (uName 5) (uCons (uName 6) uNil))))
    (sSeq (sSet 7 (eTup (eCons (eOp dAdd (eOp dIx (eV 2) (eC (.int 0))) (eV 3)) (eCons (eOp dAdd (eOp dIx (eV 2) (eC (.int 1))) (eV 4)) eNil))))
    (sSeq (sSet 8 (eCall Gcrossed (eCons (eV 2) (eCons (eV 7) eNil))))
    (sSeq (sIf (eOr (eNot (eB (eIs "list" (eV 8)))) (eB (eOp dNe (eV 8) (eLc (eComp (fun ρ => ((eV 5) ρ).bind seqD) (uName 0) eT (eCall G_law_at (eCons (eV 1) (eCons (eV 0) eNil))) [none, some 2]))))) (sRet (eC (.bool false))) sSkip)
    (sSeq (sSet 9 (eLc (eComp (fun ρ => ((eV 6) ρ).bind seqD) uDue eT eDue [none, none, some 2])))
    (sIf (eB (eOp dNe (eCall Gpinched (eCons (eV 2) (eCons (eV 7) eNil))) (eV 9))) (sRet (eC (.bool false))) sSkip))))))))))
theorem body_ok (ns : List Int) (hn : ns.length ≤ 63) (k : Int) (s2 s3 s4 s5 s6 s7 s8 s9 : Sl) :
    ∃ s2' s3' s4' s5' s6' s7' s8' s9', bL [.dat (scr ns), .dat (.int k), s2, s3, s4, s5, s6, s7, s8, s9] = some (.nx [.dat (scr ns), .dat (.int k), s2', s3', s4', s5', s6', s7', s8', s9']) := by
  obtain ⟨x, _, _, hx⟩ := drawn_ok ns hn (10 * k) 40 (by omega)
  obtain ⟨y, _, _, hy⟩ := drawn_ok ns hn (10 * k + 1) 40 (by omega)
  obtain ⟨p, p0, p1, hp⟩ := drawn_ok ns hn (10 * k + 2) 19 (by omega)
  obtain ⟨q, q0, q1, hq⟩ := drawn_ok ns hn (10 * k + 3) 19 (by omega)
  obtain ⟨b, b1, b2, hb⟩ := down_ok ns hn k (p - 9) (q - 9) (by omega) (by omega) (by omega) (by omega) (.dat (cellD (x - 20, y - 20))) s5 s6 s7 s8 s9
  obtain ⟨g, st, hr, hl, l1, l2, h2⟩ := line_ok (a := p - 9) (b := b) (by omega) (by omega) b1 b2
  have hc := crossed_eq (x := x - 20) (y := y - 20) (a := p - 9) (b := b) (by omega) (by omega) (by omega) (by omega) hr (by omega)
  have hpi := pinched_eq (x := x - 20) (y := y - 20) (a := p - 9) (b := b) (by omega) (by omega) (by omega) (by omega) hr (by omega) (by omega)
  generalize hX : x - 20 = X at *
  generalize hY : y - 20 = Y at *
  generalize hA : p - 9 = a at *
  have k2 : (eTup (eCons (eOp dSub (eCall G_law_drawn (eCons (eV 0) (eCons (eOp dMul (eC (.int 10)) (eV 1)) (eCons (eC (.int 40)) eNil)))) (eC (.int 20))) (eCons (eOp dSub (eCall G_law_drawn (eCons (eV 0) (eCons (eOp dAdd (eOp dMul (eC (.int 10)) (eV 1)) (eC (.int 1))) (eCons (eC (.int 40)) eNil)))) (eC (.int 20))) eNil))) [.dat (scr ns), .dat (.int k), s2, s3, s4, s5, s6, s7, s8, s9] = some (cellD (X, Y)) := by
    rw [← hX, ← hY]
    exact tup_2 (op_some (b := .int 20) (call_3 (a := scr ns) (c := .int 40) rfl (op_some (a := .int 10) (b := .int k) rfl rfl (ten k)) rfl hx) rfl rfl) (op_some (b := .int 20) (call_3 (a := scr ns) (c := .int 40) rfl (op_some (op_some (a := .int 10) (b := .int k) rfl rfl (ten k)) (b := .int 1) rfl rfl) rfl hy) rfl rfl)
  have k3 : (eOp dSub (eCall G_law_drawn (eCons (eV 0) (eCons (eOp dAdd (eOp dMul (eC (.int 10)) (eV 1)) (eC (.int 2))) (eCons (eC (.int 19)) eNil)))) (eC (.int 9))) [.dat (scr ns), .dat (.int k), .dat (cellD (X, Y)), s3, s4, s5, s6, s7, s8, s9] = some (.int a) := by
    rw [← hA]
    exact op_some (b := .int 9) (call_3 (a := scr ns) (c := .int 19) rfl (op_some (op_some (a := .int 10) (b := .int k) rfl rfl (ten k)) (b := .int 2) rfl rfl) rfl hp) rfl rfl
  have k4 : (eOp dSub (eCall G_law_drawn (eCons (eV 0) (eCons (eOp dAdd (eOp dMul (eC (.int 10)) (eV 1)) (eC (.int 3))) (eCons (eC (.int 19)) eNil)))) (eC (.int 9))) [.dat (scr ns), .dat (.int k), .dat (cellD (X, Y)), .dat (.int a), s4, s5, s6, s7, s8, s9] = some (.int (q - 9)) :=
    op_some (b := .int 9) (call_3 (a := scr ns) (c := .int 19) rfl (op_some (op_some (a := .int 10) (b := .int k) rfl rfl (ten k)) (b := .int 3) rfl rfl) rfl hq) rfl rfl
  have k5 : sAsg (eCall G_law_line (eCons (eV 3) (eCons (eV 4) eNil))) (uTup 2 (uCons (uName 5) (uCons (uName 6) uNil))) [.dat (scr ns), .dat (.int k), .dat (cellD (X, Y)), .dat (.int a), .dat (.int b), s5, s6, s7, s8, s9] = some (.nx [.dat (scr ns), .dat (.int k), .dat (cellD (X, Y)), .dat (.int a), .dat (.int b), .dat (.list ((g :: st).map cellD)), .dat (.list ((pinRel (g :: st)).map coupD)), s7, s8, s9]) :=
    asg_some (call_2 (a := .int a) (b := .int b) rfl rfl hl) rfl
  have k8 : eCall Gcrossed (eCons (eV 2) (eCons (eV 7) eNil)) [.dat (scr ns), .dat (.int k), .dat (cellD (X, Y)), .dat (.int a), .dat (.int b), .dat (.list ((g :: st).map cellD)), .dat (.list ((pinRel (g :: st)).map coupD)), .dat (cellD (X + a, Y + b)), s8, s9] = some (.list ((g :: st).map (sh X Y))) :=
    call_2 (a := cellD (X, Y)) (b := cellD (X + a, Y + b)) rfl rfl hc
  have c5 : (eLc (eComp (fun ρ => ((eV 5) ρ).bind seqD) (uName 0) eT (eCall G_law_at (eCons (eV 1) (eCons (eV 0) eNil))) [none, some 2])) [.dat (scr ns), .dat (.int k), .dat (cellD (X, Y)), .dat (.int a), .dat (.int b), .dat (.list ((g :: st).map cellD)), .dat (.list ((pinRel (g :: st)).map coupD)), .dat (cellD (X + a, Y + b)), .dat (.list ((g :: st).map (sh X Y))), frz s9] = some (.list ((g :: st).map (sh X Y))) := by
    show Option.bind (Option.bind (compN (uName 0) eT (eCall G_law_at (eCons (eV 1) (eCons (eV 0) eNil))) ((g :: st).map cellD) [.no, .dat (cellD (X, Y))]) (fun out => if out.length ≤ 1000 then some out else none)) _ = _
    rw [comp_at]
    simp only [Option.bind_some]
    rw [if_pos (by rw [List.length_map]; omega)]
    rfl
  have t1 : (eOr (eNot (eB (eIs "list" (eV 8)))) (eB (eOp dNe (eV 8) (eLc (eComp (fun ρ => ((eV 5) ρ).bind seqD) (uName 0) eT (eCall G_law_at (eCons (eV 1) (eCons (eV 0) eNil))) [none, some 2]))))) ([.dat (scr ns), .dat (.int k), .dat (cellD (X, Y)), .dat (.int a), .dat (.int b), .dat (.list ((g :: st).map cellD)), .dat (.list ((pinRel (g :: st)).map coupD)), .dat (cellD (X + a, Y + b)), .dat (.list ((g :: st).map (sh X Y))), s9].map frz) = some false := by
    show Option.bind (eOp dNe (eV 8) (eLc (eComp (fun ρ => ((eV 5) ρ).bind seqD) (uName 0) eT (eCall G_law_at (eCons (eV 1) (eCons (eV 0) eNil))) [none, some 2])) [.dat (scr ns), .dat (.int k), .dat (cellD (X, Y)), .dat (.int a), .dat (.int b), .dat (.list ((g :: st).map cellD)), .dat (.list ((pinRel (g :: st)).map coupD)), .dat (cellD (X + a, Y + b)), .dat (.list ((g :: st).map (sh X Y))), frz s9]) asB = _
    rw [op_some (a := .list ((g :: st).map (sh X Y))) rfl c5 (ne_refl (shaped_sh X Y _))]
    rfl
  have c9 : (eLc (eComp (fun ρ => ((eV 6) ρ).bind seqD) uDue eT eDue [none, none, some 2])) [.dat (scr ns), .dat (.int k), .dat (cellD (X, Y)), .dat (.int a), .dat (.int b), .dat (.list ((g :: st).map cellD)), .dat (.list ((pinRel (g :: st)).map coupD)), .dat (cellD (X + a, Y + b)), .dat (.list ((g :: st).map (sh X Y))), s9] = some (.list ((pinRel (g :: st)).map (shC X Y))) := by
    show Option.bind (Option.bind (compN uDue eT eDue ((pinRel (g :: st)).map coupD) [.no, .no, .dat (cellD (X, Y))]) (fun out => if out.length ≤ 1000 then some out else none)) _ = _
    rw [comp_due X Y _ _ _ h2]
    simp only [Option.bind_some]
    rw [if_pos (by rw [List.length_map]; omega)]
    rfl
  have t2 : (eB (eOp dNe (eCall Gpinched (eCons (eV 2) (eCons (eV 7) eNil))) (eV 9))) ([.dat (scr ns), .dat (.int k), .dat (cellD (X, Y)), .dat (.int a), .dat (.int b), .dat (.list ((g :: st).map cellD)), .dat (.list ((pinRel (g :: st)).map coupD)), .dat (cellD (X + a, Y + b)), .dat (.list ((g :: st).map (sh X Y))), .dat (.list ((pinRel (g :: st)).map (shC X Y)))].map frz) = some false := by
    unfold eB
    rw [op_some (call_2 (a := cellD (X, Y)) (b := cellD (X + a, Y + b)) rfl rfl hpi) (b := .list ((pinRel (g :: st)).map (shC X Y))) rfl (ne_refl (shaped_shC X Y _))]
    rfl
  refine ⟨.dat (cellD (X, Y)), .dat (.int a), .dat (.int b), .dat (.list ((g :: st).map cellD)), .dat (.list ((pinRel (g :: st)).map coupD)), .dat (cellD (X + a, Y + b)), .dat (.list ((g :: st).map (sh X Y))), .dat (.list ((pinRel (g :: st)).map (shC X Y))), (seq_nx (set_some k2)).trans ((seq_nx (set_some k3)).trans ((seq_nx (set_some k4)).trans ((seq_nx hb).trans ((seq_nx k5).trans ((seq_nx (set_some (d := cellD (X + a, Y + b)) rfl)).trans ((seq_nx (set_some k8)).trans ((seq_nx (ρ' := [.dat (scr ns), .dat (.int k), .dat (cellD (X, Y)), .dat (.int a), .dat (.int b), .dat (.list ((g :: st).map cellD)), .dat (.list ((pinRel (g :: st)).map coupD)), .dat (cellD (X + a, Y + b)), .dat (.list ((g :: st).map (sh X Y))), s9]) ?_).trans ((seq_nx (set_some c9)).trans ?_))))))))⟩
  · exact (if_some t1).trans rfl
  · exact (if_some t2).trans rfl
theorem loop_ok (ns : List Int) (hn : ns.length ≤ 63) : ∀ (ks : List Int) (s1 s2 s3 s4 s5 s6 s7 s8 s9 : Sl), ∃ ρ, forN (uName 1) bL (ks.map PyData.int) [.dat (scr ns), s1, s2, s3, s4, s5, s6, s7, s8, s9] = some (.nx ρ)
  | [], s1, s2, s3, s4, s5, s6, s7, s8, s9 => ⟨_, rfl⟩
  | k :: ks, s1, s2, s3, s4, s5, s6, s7, s8, s9 => by
    obtain ⟨t2, t3, t4, t5, t6, t7, t8, t9, h⟩ := body_ok ns hn k s2 s3 s4 s5 s6 s7 s8 s9
    obtain ⟨ρ, q⟩ := loop_ok ns hn ks (.dat (.int k)) t2 t3 t4 t5 t6 t7 t8 t9
    refine ⟨ρ, ?_⟩
    rw [List.map_cons]
    unfold forN
    show Option.bind (bL [.dat (scr ns), .dat (.int k), s2, s3, s4, s5, s6, s7, s8, s9]) _ = _
    rw [h]
    exact q
theorem main (ns : List Int) (hn : ns.length ≤ 63) : Glaw [.list (ns.map PyData.int)] = some (.bool true) := by
  obtain ⟨M, hM⟩ : ∃ M : Int, M = (if (if (ns.length : Int) < 6 then (ns.length : Int) else 6) > 1 then (if (ns.length : Int) < 6 then (ns.length : Int) else 6) else 1) := ⟨_, rfl⟩
  have M1 : M ≤ 6 := by rw [hM]; split <;> (try split) <;> omega
  have M0 : 0 ≤ M := by rw [hM]; split <;> (try split) <;> omega
  have hi : Option.bind (eCons (eCall dMax (eCons (eC (.int 1)) (eCons (eCall dMin (eCons (eC (.int 6)) (eCons (eCall dLen (eCons (eV 0) eNil)) eNil))) eNil))) eNil (startD 10 [scr ns])) rng1 = some (((List.range M.toNat).map fun (k : Nat) => (0 + (k : Int))).map PyData.int) := by
    have e1 : eCall dLen (eCons (eV 0) eNil) (startD 10 [scr ns]) = some (.int (ns.length : Int)) := by
      show some (PyData.int ((ns.map PyData.int).length : Int)) = _
      rw [List.length_map]
    have e2 : eCall dMax (eCons (eC (.int 1)) (eCons (eCall dMin (eCons (eC (.int 6)) (eCons (eCall dLen (eCons (eV 0) eNil)) eNil))) eNil)) (startD 10 [scr ns]) = some (.int M) := by
      rw [hM]
      exact call_2 (a := .int 1) rfl (call_2 (a := .int 6) rfl e1 rfl) rfl
    rw [show eCons (eCall dMax (eCons (eC (.int 1)) (eCons (eCall dMin (eCons (eC (.int 6)) (eCons (eCall dLen (eCons (eV 0) eNil)) eNil))) eNil))) eNil (startD 10 [scr ns]) = Option.bind (eCall dMax (eCons (eC (.int 1)) (eCons (eCall dMin (eCons (eC (.int 6)) (eCons (eCall dLen (eCons (eV 0) eNil)) eNil))) eNil)) (startD 10 [scr ns])) (fun x => some [x]) from rfl, e2]
    show (if -4611686018427387904 ≤ M ∧ M < 4611686018427387904 then some ((List.range M.toNat).map fun (k : Nat) => PyData.int (0 + (k : Int))) else none) = _
    rw [if_pos ⟨by omega, by omega⟩, List.map_map]
    rfl
  obtain ⟨ρ, q⟩ := loop_ok ns hn ((List.range M.toNat).map fun (k : Nat) => (0 + (k : Int))) .no .no .no .no .no .no .no .no .no
  have q1 : glaw (startD 10 [scr ns]) = some (.rt (.bool true)) := by
    refine (seq_nx (g1 := sFor (fun ρ => Option.bind (eCons (eCall dMax (eCons (eC (.int 1)) (eCons (eCall dMin (eCons (eC (.int 6)) (eCons (eCall dLen (eCons (eV 0) eNil)) eNil))) eNil))) eNil ρ) rng1) (uName 1) bL) (ρ' := ρ) ?_).trans rfl
    show Option.bind (Option.bind (eCons (eCall dMax (eCons (eC (.int 1)) (eCons (eCall dMin (eCons (eC (.int 6)) (eCons (eCall dLen (eCons (eV 0) eNil)) eNil))) eNil))) eNil (startD 10 [scr ns])) rng1) (fun xs => forN (uName 1) bL xs (startD 10 [scr ns])) = _
    rw [hi]
    exact q
  show fnD 10 glaw [scr ns] = _
  unfold fnD
  rw [q1]
end My

namespace My
open PySem PySem.Spec PySem.SeqAt PyProof.Rows L2 CL DL SD ZL
theorem all_mk (main : ∀ ns : List Int, ns.length ≤ 63 → Glaw [.list (ns.map PyData.int)] = some (.bool true)) {l : PySem.W.OpenLaw} {w : World} {K : PySem.W.Frag} {h : Heap} {mg : Str → Option Value} {fa : Addr} {f0 : Addr} {od0 an0 : Option Addr} {sl0 : Array (Option Value)} {oc0 kV0 dc0 pm0 cd0 ct0 : Value} {f1 : Addr} {od1 an1 : Option Addr} {sl1 : Array (Option Value)} {oc1 kV1 dc1 pm1 cd1 ct1 : Value} {f2 : Addr} {od2 an2 : Option Addr} {sl2 : Array (Option Value)} {oc2 kV2 dc2 pm2 cd2 ct2 : Value} {f3 : Addr} {od3 an3 : Option Addr} {sl3 : Array (Option Value)} {oc3 kV3 dc3 pm3 cd3 ct3 : Value} {f4 : Addr} {od4 an4 : Option Addr} {sl4 : Array (Option Value)} {oc4 kV4 dc4 pm4 cd4 ct4 : Value} {f5 : Addr} {od5 an5 : Option Addr} {sl5 : Array (Option Value)} {oc5 kV5 dc5 pm5 cd5 ct5 : Value} {f6 : Addr} {od6 an6 : Option Addr} {sl6 : Array (Option Value)} {oc6 kV6 dc6 pm6 cd6 ct6 : Value} {f7 : Addr} {od7 an7 : Option Addr} {sl7 : Array (Option Value)} {oc7 kV7 dc7 pm7 cd7 ct7 : Value} {f8 : Addr} {od8 an8 : Option Addr} {sl8 : Array (Option Value)} {oc8 kV8 dc8 pm8 cd8 ct8 : Value} (X : K.In h) (G : h.Ns mainGlobals mg) (hfa : mg "law" = some (.ref fa))
    (a0 : PySem.W.nsIn K mainGlobals "crossed" = some (some (.ref f0)))
    (l0 : K.lookup f0 = some ⟨oc0, od0, .func (PySem.W.fnOf "crossed" "crossed" (defArgs s_crossed) (defBody s_crossed) (defScope s_crossed) .none kV0 dc0 pm0 an0 cd0 ct0), sl0⟩)
    (c0 : PySem.W.codeIn K cd0 "crossed" = true)
    (k0 : PySem.W.keepIn K (.ref f0) = true)
    (a1 : PySem.W.nsIn K mainGlobals "couples_beside" = some (some (.ref f1)))
    (l1 : K.lookup f1 = some ⟨oc1, od1, .func (PySem.W.fnOf "couples_beside" "couples_beside" (defArgs s_couples_beside) (defBody s_couples_beside) (defScope s_couples_beside) .none kV1 dc1 pm1 an1 cd1 ct1), sl1⟩)
    (c1 : PySem.W.codeIn K cd1 "couples_beside" = true)
    (k1 : PySem.W.keepIn K (.ref f1) = true)
    (a2 : PySem.W.nsIn K mainGlobals "_law_cell" = some (some (.ref f2)))
    (l2 : K.lookup f2 = some ⟨oc2, od2, .func (PySem.W.fnOf "_law_cell" "_law_cell" (defArgs s__law_cell) (defBody s__law_cell) (defScope s__law_cell) .none kV2 dc2 pm2 an2 cd2 ct2), sl2⟩)
    (c2 : PySem.W.codeIn K cd2 "_law_cell" = true)
    (k2 : PySem.W.keepIn K (.ref f2) = true)
    (a3 : PySem.W.nsIn K mainGlobals "_law_side" = some (some (.ref f3)))
    (l3 : K.lookup f3 = some ⟨oc3, od3, .func (PySem.W.fnOf "_law_side" "_law_side" (defArgs s__law_side) (defBody s__law_side) (defScope s__law_side) .none kV3 dc3 pm3 an3 cd3 ct3), sl3⟩)
    (c3 : PySem.W.codeIn K cd3 "_law_side" = true)
    (k3 : PySem.W.keepIn K (.ref f3) = true)
    (a4 : PySem.W.nsIn K mainGlobals "_law_at" = some (some (.ref f4)))
    (l4 : K.lookup f4 = some ⟨oc4, od4, .func (PySem.W.fnOf "_law_at" "_law_at" (defArgs s__law_at) (defBody s__law_at) (defScope s__law_at) .none kV4 dc4 pm4 an4 cd4 ct4), sl4⟩)
    (c4 : PySem.W.codeIn K cd4 "_law_at" = true)
    (k4 : PySem.W.keepIn K (.ref f4) = true)
    (a5 : PySem.W.nsIn K mainGlobals "pinched" = some (some (.ref f5)))
    (l5 : K.lookup f5 = some ⟨oc5, od5, .func (PySem.W.fnOf "pinched" "pinched" (defArgs s_pinched) (defBody s_pinched) (defScope s_pinched) .none kV5 dc5 pm5 an5 cd5 ct5), sl5⟩)
    (c5 : PySem.W.codeIn K cd5 "pinched" = true)
    (k5 : PySem.W.keepIn K (.ref f5) = true)
    (a6 : PySem.W.nsIn K mainGlobals "_law_drawn" = some (some (.ref f6)))
    (l6 : K.lookup f6 = some ⟨oc6, od6, .func (PySem.W.fnOf "_law_drawn" "_law_drawn" (defArgs s__law_drawn) (defBody s__law_drawn) (defScope s__law_drawn) .none kV6 dc6 pm6 an6 cd6 ct6), sl6⟩)
    (c6 : PySem.W.codeIn K cd6 "_law_drawn" = true)
    (k6 : PySem.W.keepIn K (.ref f6) = true)
    (a7 : PySem.W.nsIn K mainGlobals "_law_line" = some (some (.ref f7)))
    (l7 : K.lookup f7 = some ⟨oc7, od7, .func (PySem.W.fnOf "_law_line" "_law_line" (defArgs s__law_line) (defBody s__law_line) (defScope s__law_line) .none kV7 dc7 pm7 an7 cd7 ct7), sl7⟩)
    (c7 : PySem.W.codeIn K cd7 "_law_line" = true)
    (k7 : PySem.W.keepIn K (.ref f7) = true)
    (a8 : PySem.W.nsIn K mainGlobals "law" = some (some (.ref f8)))
    (l8 : K.lookup f8 = some ⟨oc8, od8, .func (PySem.W.fnOf "law" "law" (defArgs s_law) (defBody s_law) (defScope s_law) .none kV8 dc8 pm8 an8 cd8 ct8), sl8⟩)
    (c8 : PySem.W.codeIn K cd8 "law" = true)
    (k8 : PySem.W.keepIn K (.ref f8) = true)
    (z0 : PySem.W.nsIn K mainGlobals "abs" = some none)
    (z1 : PySem.W.nsIn K mainGlobals "zip" = some none)
    (z2 : PySem.W.nsIn K mainGlobals "sorted" = some none)
    (z3 : PySem.W.nsIn K mainGlobals "tuple" = some none)
    (z4 : PySem.W.nsIn K mainGlobals "len" = some none)
    (z5 : PySem.W.nsIn K mainGlobals "max" = some none)
    (z6 : PySem.W.nsIn K mainGlobals "min" = some none)
    (z7 : PySem.W.nsIn K mainGlobals "range" = some none)
    (z8 : PySem.W.nsIn K mainGlobals "isinstance" = some none)
    (z9 : PySem.W.nsIn K mainGlobals "list" = some none) :
    ∃ fd : FuncData, (∀ (s : Shared) (v : Value), BindsTo s fd ⟨[v], []⟩ [("_law_script", v)]) ∧ ∀ base : Heap, K.In base → base.Ns mainGlobals mg → FnOk l.prog w K mg base CX0 3 fa fd ["_law_script"] (spLaw K Glaw) := by
  have e := (PySem.W.mg_of X G a8).symm.trans hfa
  cases e
  have F0 := fun_mk (st := s_crossed) l0 c0 k0
  have F1 := fun_mk (st := s_couples_beside) l1 c1 k1
  have F2 := fun_mk (st := s__law_cell) l2 c2 k2
  have F3 := fun_mk (st := s__law_side) l3 c3 k3
  have F4 := fun_mk (st := s__law_at) l4 c4 k4
  have F5 := fun_mk (st := s_pinched) l5 c5 k5
  have F6 := fun_mk (st := s__law_drawn) l6 c6 k6
  have F7 := fun_mk (st := s__law_line) l7 c7 k7
  have F8 := fun_mk (st := s_law) l8 c8 k8
  have T : Txt K mg f0 _ f1 _ f2 _ f3 _ f4 _ f5 _ f6 _ f7 _ fa _ := ⟨(F0), (PySem.W.mg_of X G a0), (F0.binds (ps := ["one", "other"]) fun _ _ _ _ _ _ us hl => match us, hl with | [_, _], _ => rfl), (F1), (PySem.W.mg_of X G a1), (F1.binds (ps := ["cells"]) fun _ _ _ _ _ _ us hl => match us, hl with | [_], _ => rfl), (F2), (PySem.W.mg_of X G a2), (F2.binds (ps := ["_law_script", "_law_k"]) fun _ _ _ _ _ _ us hl => match us, hl with | [_, _], _ => rfl), (F3), (PySem.W.mg_of X G a3), (F3.binds (ps := ["_law_across", "_law_down", "_law_x", "_law_y"]) fun _ _ _ _ _ _ us hl => match us, hl with | [_, _, _, _], _ => rfl), (F4), (PySem.W.mg_of X G a4), (F4.binds (ps := ["_law_cell_here", "_law_step"]) fun _ _ _ _ _ _ us hl => match us, hl with | [_, _], _ => rfl), (F5), (PySem.W.mg_of X G a5), (F5.binds (ps := ["one", "other"]) fun _ _ _ _ _ _ us hl => match us, hl with | [_, _], _ => rfl), (F6), (PySem.W.mg_of X G a6), (F6.binds (ps := ["_law_script", "_law_k", "_law_many"]) fun _ _ _ _ _ _ us hl => match us, hl with | [_, _, _], _ => rfl), (F7), (PySem.W.mg_of X G a7), (F7.binds (ps := ["_law_across", "_law_down"]) fun _ _ _ _ _ _ us hl => match us, hl with | [_, _], _ => rfl), (F8), (PySem.W.mg_of X G a8), (F8.binds (ps := ["_law_script"]) fun _ _ _ _ _ _ us hl => match us, hl with | [_], _ => rfl), (PySem.W.mg_none_of X G z0), (PySem.W.mg_none_of X G z1), (PySem.W.mg_none_of X G z2), (PySem.W.mg_none_of X G z3), (PySem.W.mg_none_of X G z4), (PySem.W.mg_none_of X G z5), (PySem.W.mg_none_of X G z6), (PySem.W.mg_none_of X G z7), (PySem.W.mg_none_of X G z8), (PySem.W.mg_none_of X G z9)⟩
  refine ⟨PySem.W.fnOf "law" "law" (defArgs s_law) (defBody s_law) (defScope s_law) .none kV8 dc8 pm8 an8 cd8 ct8, fun s v => .of_eq rfl, fun base _ _ => ?_⟩
  have G_crossed := ok_crossed (P := l.prog) (w := w) (base := base) T 
  have G_couples_beside := ok_couples_beside (P := l.prog) (w := w) (base := base) T 
  have G__law_cell := ok__law_cell (P := l.prog) (w := w) (base := base) T 
  have G__law_side := ok__law_side (P := l.prog) (w := w) (base := base) T 
  have G__law_at := ok__law_at (P := l.prog) (w := w) (base := base) T 
  have G_pinched := ok_pinched (P := l.prog) (w := w) (base := base) T G_couples_beside G_crossed
  have G__law_drawn := ok__law_drawn (P := l.prog) (w := w) (base := base) T G__law_cell
  have G__law_line := ok__law_line (P := l.prog) (w := w) (base := base) T G__law_side
  have G_law := ok_law (P := l.prog) (w := w) (base := base) T G__law_line G_crossed G__law_drawn G_pinched G__law_at
  exact law_D G_law main
theorem walk {l : PySem.W.OpenLaw} {q : Program} {loose : List Str} {XP : (Str → Option Value) → Heap → Prop} {YP : World → Heap → Prop} {d : DefRec} {K : Params → PySem.W.Frag} (hn : l.most = some 63) (hdf : d.params.defaults = [])
    (hY : ∀ (w : World) (h : Heap), YP w h → (K w.params).In h)
    (F : ∀ (w : World) (mg : Str → Option Value) (fa : Addr) (h : Heap), (K w.params).In h → h.Ns mainGlobals mg → mg d.name = some (.ref fa) →
      ∃ fd : FuncData, (∀ (s : Shared) (u : Value), BindsTo s fd ⟨[u], []⟩ [("_law_script", u)]) ∧ ∀ base : Heap, (K w.params).In base → base.Ns mainGlobals mg → FnOk l.prog w (K w.params) mg base CX0 3 fa fd ["_law_script"] (spLaw (K w.params) Glaw)) :
    PySem.W.WalkO q loose XP YP l.row.toRowW d [] (fun f vs => PySem.call f vs) :=
  L2.walk_of (n := 63) (k := 3) (x := "_law_script") (CX := fun _ => CX0) (sp := fun w => spLaw (K w.params) Glaw) hn (by decide) hdf ⟨rfl, by decide, by decide⟩ hY F (fun _ _ a ns hl _ hS => ⟨a, ns, rfl, hS, hl, fun _ => rfl⟩) fun _ _ _ _ _ z => z
end My
open PySem PySem.W PyProof.Rows
set_option maxRecDepth 100000 in
set_option maxHeartbeats 0 in
theorem PySem.Challenge.cw_lampfloor_k10_lines_holds : PySem.Challenge.rw_lampfloor_k10_lines.Holds := by
  w_on; o_law; k_head; (case hw => w_witness2)
  k_fill
  refine My.walk (l := PySem.Challenge.rw_lampfloor_k10_lines) rfl rfl (fun w h Y => PySem.W.kIn_of Y) ?F
  case F =>
    intro w mg fa h KX G hmg
    refine' My.all_mk My.main KX G hmg ?a0 ?l0 ?c0 ?k0 ?a1 ?l1 ?c1 ?k1 ?a2 ?l2 ?c2 ?k2 ?a3 ?l3 ?c3 ?k3 ?a4 ?l4 ?c4 ?k4 ?a5 ?l5 ?c5 ?k5 ?a6 ?l6 ?c6 ?k6 ?a7 ?l7 ?c7 ?k7 ?a8 ?l8 ?c8 ?k8 ?z0 ?z1 ?z2 ?z3 ?z4 ?z5 ?z6 ?z7 ?z8 ?z9
    (case a0 => k_is)
    (case l0 => k_is)
    (case c0 => k_is)
    (case k0 => k_is)
    (case a1 => k_is)
    (case l1 => k_is)
    (case c1 => k_is)
    (case k1 => k_is)
    (case a2 => k_is)
    (case l2 => k_is)
    (case c2 => k_is)
    (case k2 => k_is)
    (case a3 => k_is)
    (case l3 => k_is)
    (case c3 => k_is)
    (case k3 => k_is)
    (case a4 => k_is)
    (case l4 => k_is)
    (case c4 => k_is)
    (case k4 => k_is)
    (case a5 => k_is)
    (case l5 => k_is)
    (case c5 => k_is)
    (case k5 => k_is)
    (case a6 => k_is)
    (case l6 => k_is)
    (case c6 => k_is)
    (case k6 => k_is)
    (case a7 => k_is)
    (case l7 => k_is)
    (case c7 => k_is)
    (case k7 => k_is)
    (case a8 => k_is)
    (case l8 => k_is)
    (case c8 => k_is)
    (case k8 => k_is)
    (case z0 => k_is)
    (case z1 => k_is)
    (case z2 => k_is)
    (case z3 => k_is)
    (case z4 => k_is)
    (case z5 => k_is)
    (case z6 => k_is)
    (case z7 => k_is)
    (case z8 => k_is)
    (case z9 => k_is)
