import PyProof.Rows.All
import Wide.All
import OpenK.AllK
import Wide.FinOn
import Lean
import PyProof.EqAt
import PyProof.EqKinds
import PyProof.TupleCall
import PyProof.Rows.SortShellK
import PyProof.StationsW
import PyProof.SetKind
import PyProof.TupleKey
import PyProof.DictKinds
import PyProof.IsRules
import PyProof.Slots
import PyProof.Rows.SetFrom
import PyProof.SetRoads
import PyProof.WalksMore
import KE.KDictSum
import PyProof.Draws
import PyProof.Rows.EnumRows
import PyProof.ConsumeWalk
import KE.KDictOf
import PyProof.DictRoadsH
import PyProof.AttrMissSeq
import PyProof.Conv_int_bool
import PyProof.ReprNest
import PyProof.FString
import PyProof.ReprReads
import PyProof.ReprLen
import KE.KIsAll
import PyProof.ExcAttrAll.ValueError
import PyProof.StrCalls2
import PyProof.Rows.StrWeight2
import PyProof.EnumMake
import PyProof.FitsReplace
import PyProof.StrLawsOcc
import PyProof.DictRoads
import PyProof.Rows.SortStr
import PyProof.StrWalks
import PyProof.ExcBaseAll.ValueError
import KE.RegKIsAll
import PyProof.Rows.CountFlat
import PyProof.StrLawsTight
import PySem.Challenge.RW_lampfloor_k91_books
set_option Elab.async false
set_option linter.all false
set_option maxRecDepth 100000
set_option maxHeartbeats 4000000
set_option genInjectivity false
set_option genSizeOf false
set_option genSizeOfSpec false
set_option bootstrap.genMatcherCode false
noncomputable section
namespace L2
open PySem PySem.Spec PyProof.Rows
abbrev Key := Sum Int Str
noncomputable def zF8 : Key -> Value -> Bool
 | .inl k, v => Value.isInt k v
 | .inr x, v => Value.isStrOf x v
noncomputable def keyH (w : World) : Key -> Int
 | .inl k => hashInt k
 | .inr x => hashStr w x
theorem zBK : ∀ {k : Key} {v : Value}, zF8 k v = true -> (∃ i t, k = Sum.inl i /\ v = Value.int i t) ∨ (∃ x t, k = Sum.inr x /\ v = Value.str x t)
 | .inl i, v, h => by
  obtain ⟨t, e⟩ := Value.isInt_shape (k := i) (v := v) h
  exact .inl ⟨i, t, rfl, e⟩
 | .inr x, v, h => by
  obtain ⟨t, e⟩ := Value.isStrOf_shape (x := x) (v := v) h
  exact .inr ⟨x, t, rfl, e⟩
theorem zNG (a b : Int) : decide ((Sum.inl a : Key) = Sum.inl b) = (a == b) := by
 by_cases e : a = b
 ·subst e; simp
 ·have h : ¬ (Sum.inl a : Key) = Sum.inl b := fun q => e (Sum.inl.inj q)
  rw [decide_eq_false h]
  exact (beq_eq_false_iff_ne.mpr e).symm
theorem zLw (a b : Str) : decide ((Sum.inr a : Key) = Sum.inr b) = decide (a = b) := by
 by_cases e : a = b
 ·subst e; simp
 ·have h : ¬ (Sum.inr a : Key) = Sum.inr b := fun q => e (Sum.inr.inj q)
  rw [decide_eq_false h, decide_eq_false e]
theorem zJ4 (a : Int) (b : Str) : decide ((Sum.inl a : Key) = Sum.inr b) = false := decide_eq_false (fun q => nomatch q)
theorem zLE (a : Str) (b : Int) : decide ((Sum.inr a : Key) = Sum.inl b) = false := decide_eq_false (fun q => nomatch q)
noncomputable def zGi (prog : Program) (w : World) : PySem.KeyKind prog w Key where
 is := zF8
 hash := keyH w
 inj := fun v a b ha hb => by
  rcases zBK ha with ⟨i, t, rfl, rfl⟩ | ⟨x, t, rfl, rfl⟩
  ·rcases zBK hb with ⟨j, u, rfl, e⟩ | ⟨y, u, rfl, e⟩
   ·injection e with e1 _; rw [e1]
   ·exact nomatch e
  ·rcases zBK hb with ⟨j, u, rfl, e⟩ | ⟨y, u, rfl, e⟩
   ·exact nomatch e
   ·injection e with e1 _; rw [e1]
 byValue := fun k v h => by
  rcases zBK h with ⟨i, t, rfl, rfl⟩ | ⟨x, t, rfl, rfl⟩ <;> rfl
 pyHash := fun hv h => by
  rcases zBK hv with ⟨i, t, rfl, rfl⟩ | ⟨x, t, rfl, rfl⟩
  ·exact wpAny_pyHash_int h
  ·exact wpAny_pyHash_str h
 eqBool := fun hu hv h => by
  rcases zBK hu with ⟨i, t, rfl, rfl⟩ | ⟨x, t, rfl, rfl⟩
  ·rcases zBK hv with ⟨j, u, rfl, rfl⟩ | ⟨y, u, rfl, rfl⟩
   ·rw [zNG] at h; exact wpAny_eqBool_int h
   ·rw [zJ4] at h; exact SeqAt.EqAt.int_str i t y u _ _ _ _ h
  ·rcases zBK hv with ⟨j, u, rfl, rfl⟩ | ⟨y, u, rfl, rfl⟩
   ·rw [zLE] at h; exact SeqAt.EqAt.str_int x t j u _ _ _ _ h
   ·rw [zLw] at h; exact wpAny_eqBool_str h
 «strs» := fun k x t v h => by
  rcases zBK h with ⟨i, u, rfl, e⟩ | ⟨y, u, rfl, e⟩
  ·exact nomatch e
  ·injection e with e1 _
   subst e1
   cases v <;> rfl
end L2
namespace L2
open PySem PySem.Spec PyProof.Rows
inductive V where
 | non | bl (b : Bool) | int (i : Int) | str (x : Str) | byt (b : Array UInt8) | flt (b : UInt64) | ref (a : Addr) | ty (n : String)
 deriving DecidableEq
noncomputable def RelV : V -> Value -> Prop
 | .non, u => u = Value.none
 | .bl b, u => u = Value.bool b
 | .int i, u => ∃ t, u = Value.int i t
 | .str x, u => ∃ t, u = Value.str x t
 | .byt b, u => ∃ t, u = Value.bytes b t
 | .flt b, u => ∃ t, u = Value.float b t
 | .ref a, u => u = Value.ref a
 | .ty n, u => u = Value.type n
abbrev Vals : List V -> List Value -> Prop := Paired RelV
theorem Vals.length {xs : List V} {us : List Value} (r : Vals xs us) : xs.length = us.length := Paired.length r
theorem Vals.get : ∀ {xs : List V} {us : List Value} {i : Nat} {x : V}, Vals xs us -> xs[i]? = some x -> ∃ u, us[i]? = some u /\ RelV x u
 | _, _, _, _, .nil, e => by simp at e
 | _, _, 0, _, .cons r _, e => by simp at e; subst e; exact ⟨_, rfl, r⟩
 | _, _, i + 1, x, .cons _ t, e => by
  obtain ⟨u, h1, h2⟩ := Vals.get (i := i) (x := x) t (by simpa using e)
  exact ⟨u, by simpa using h1, h2⟩
theorem Vals.append : ∀ {xs ys : List V} {us ws : List Value}, Vals xs us -> Vals ys ws -> Vals (xs ++ ys) (us ++ ws)
 | _, _, _, _, .nil, s => s
 | _, _, _, _, .cons r t, s => .cons r (Vals.append t s)
noncomputable def RelO : Option V -> Option Value -> Prop
 | some v, some u => RelV v u
 | none, none => True
 | _, _ => False
noncomputable def KV {κ : Type} : List (κ × V) -> List (κ × Value) -> Prop := Paired fun (p : κ × V) (q : κ × Value) => p.1 = q.1 /\ RelV p.2 q.2
noncomputable def kV : Key -> V
 | .inl i => .int i
 | .inr x => .str x
inductive HO where
 | lst (xs : List V)
 | tup (xs : List V)
 | dK (kvs : List (Key × V)) | dT (kvs : List (List Key × V))
 | set (S : Int -> Bool) (n : Nat)
 | ins (C dx : Addr) (fs : List (Str × V))
 | own (x : Addr)
 | xd (fs : List (Str × V))
 | met (f x : Addr)
 | rng (lo hi : Int)
 | frz (o : Obj) (u : HO)
 | tbl (ps : Array Value)
 | ext (φ : Heap -> Prop)
abbrev Hp := Addr -> Option HO
noncomputable def upd (H : Hp) (a : Addr) (o : HO) : Hp := fun b => if b = a then some o else H b
theorem zA1 {H : Hp} {a : Addr} {o : HO} : upd H a o a = some o := by unfold upd; rw [if_pos rfl]
theorem zAl {H : Hp} {a b : Addr} {o : HO} (h : b ≠ a) : upd H a o b = H b := by unfold upd; rw [if_neg h]
theorem zA5 {H : Hp} {a b : Addr} {o : HO} (h : H a = some o) (h' : H b = none) : a ≠ b := by
 intro e; subst e; rw [h] at h'; cases h'
section
variable (P : Program) (w : World)
noncomputable def zA0 (H : Hp) (h : Heap) (a : Addr) : HO -> Prop
 | .lst xs => xs.length <= sizeLine /\ ∃ (its : List Value) (n : Nat), Vals xs its /\ h.get? a = some { cls := .type "list", data := .seq its.toArray n }
 | .tup xs => xs.length <= sizeLine /\ ∃ its : List Value, Vals xs its /\ IsTup h a its.toArray
 | .dK kvs => kvs.length <= sizeLine /\ (a == sysModules) = false /\ ∃ vs, KV kvs vs /\ h.DictOf (zGi P w) a vs
 | .dT kvs => kvs.length <= sizeLine /\ (a == sysModules) = false /\ ∃ xs : List (List Key × Addr × Value),
   Paired (fun (p : List Key × V) (q : List Key × Addr × Value) => p.1 = q.1 /\ H q.2.1 = some (.tup (p.1.map kV)) /\ RelV p.2 q.2.2) kvs xs /\
   ∃ o es ep, h.get? a = some o /\ o.ExactDict /\ o.data = .dict es ep /\ es.toList = xs.map (entryOfKey (tupleKind (zGi P w))) /\ (xs.map (·.1)).Nodup
 | .set S n => h.SetOf (intKind P w) a S n
 | .ins C dx fs => H dx = some (.own a) /\ fs.length <= 1000 /\ dx ≠ a /\ h.get? a = some (PySem.W.instObj C dx) /\
   ∃ mA, h.Ns1 dx mA /\ (∀ f, RelO (fs.lookup f) (mA f)) /\ PySem.Within mA (fs.map (·.1))
 | .own _ => ∃ o, h.get? a = some o
 | .xd fs => ∃ mA, h.Ns1 a mA /\ ∀ f, RelO (fs.lookup f) (mA f)
 | .rng lo hi => ∃ t u v, h.get? a = some { cls := .type "range", data := .fields #[.int lo t, .int hi u, .int 1 v] }
 | .frz o u => h.get? a = some o /\ zA0 H h a u
 | .tbl ps => h.get? a = some { cls := .none, data := .fields ps }
 | .met f x => h.get? a = some (PySem.W.methodObj (.ref f) (.ref x))
 | .ext φ => φ h /\ (∃ o, h.get? a = some o) /\ ∀ h1 h2 : Heap, φ h1 -> (∀ o, h1.get? a = some o -> h2.get? a = some o) -> φ h2
noncomputable def HOk (H : Hp) (h : Heap) : Prop := ∀ a o, H a = some o -> zA0 P w H h a o
end
section
variable {P : Program} {w : World} {H H' : Hp} {h h' : Heap} {a : Addr} {o : HO}
theorem zA0.lt (x : zA0 P w H h a o) : a < h.objs.size := by
 cases o with
 | lst xs => obtain ⟨_, _, _, _, e⟩ := x; exact Heap.lt_size e
 | tup xs => obtain ⟨_, _, _, p⟩ := x; exact p.lt
 | dK kvs => obtain ⟨_, _, _, _, o, _, _, e, _⟩ := x; exact Heap.lt_size e
 | dT kvs => obtain ⟨_, _, _, _, o, _, _, e, _⟩ := x; exact Heap.lt_size e
 | set S n => obtain ⟨o, _, _, _, e, _⟩ := x; exact Heap.lt_size e
 | ins C dx fs => obtain ⟨_, _, _, e, _⟩ := x; exact Heap.lt_size e
 | own y => obtain ⟨_, e⟩ := x; exact Heap.lt_size e
 | xd fs => obtain ⟨_, ⟨_, _, _, e, _⟩, _⟩ := x; exact Heap.lt_size e
 | rng lo hi => obtain ⟨_, _, _, e⟩ := x; exact Heap.lt_size e
 | frz ob u => obtain ⟨e, _⟩ := x; exact Heap.lt_size e
 | tbl ps => exact Heap.lt_size (show h.get? a = some _ from x)
 | met f y => exact Heap.lt_size (show h.get? a = some _ from x)
 | ext φ => obtain ⟨_, ⟨_, e⟩, _⟩ := x; exact Heap.lt_size e
theorem Paired.mapP {α β : Type} {F G : α -> β -> Prop} : ∀ {l₁ : List α} {l₂ : List β}, Paired F l₁ l₂ -> (∀ a b, F a b -> G a b) -> Paired G l₁ l₂
 | _, _, .nil, _ => .nil
 | _, _, .cons r t, f => .cons (f _ _ r) (Paired.mapP t f)
theorem zA0.stay (x : zA0 P w H h a o) (k : ∀ b u, (b = a ∨ H b = some (.own a)) -> h.get? b = some u -> h'.get? b = some u)
  (ho : ∀ b, H b = some (.own a) -> H' b = some (.own a)) (ht : ∀ b xs, H b = some (.tup xs) -> H' b = some (.tup xs)) : zA0 P w H' h' a o := by
 induction o with
 | lst xs => obtain ⟨z, its, n, r, e⟩ := x; exact ⟨z, its, n, r, k _ _ (.inl rfl) e⟩
 | tup xs => obtain ⟨z, its, r, ob, e, c⟩ := x; exact ⟨z, its, r, ob, k _ _ (.inl rfl) e, c⟩
 | dK kvs => obtain ⟨z, y, vs, r, ob, es, ep, e, c⟩ := x; exact ⟨z, y, vs, r, ob, es, ep, k _ _ (.inl rfl) e, c⟩
 | dT kvs =>
  obtain ⟨z, y, xs, r, ob, es, ep, e, c⟩ := x
  exact ⟨z, y, xs, Paired.mapP r fun p q z => ⟨z.1, ht _ _ z.2.1, z.2.2⟩, ob, es, ep, k _ _ (.inl rfl) e, c⟩
 | set S n => obtain ⟨ob, es, ep, t, e, c⟩ := x; exact ⟨ob, es, ep, t, k _ _ (.inl rfl) e, c⟩
 | ins C dx fs =>
  obtain ⟨d, z, ne, e, mA, ⟨od, es, ep, e2, c⟩, r⟩ := x
  exact ⟨ho _ d, z, ne, k _ _ (.inl rfl) e, mA, ⟨od, es, ep, k _ _ (.inr d) e2, c⟩, r⟩
 | own y => obtain ⟨ob, e⟩ := x; exact ⟨ob, k _ _ (.inl rfl) e⟩
 | xd fs => obtain ⟨mA, ⟨od, es, ep, e, c⟩, r⟩ := x; exact ⟨mA, ⟨od, es, ep, k _ _ (.inl rfl) e, c⟩, r⟩
 | rng lo hi => obtain ⟨t, u, v, e⟩ := x; exact ⟨t, u, v, k _ _ (.inl rfl) e⟩
 | frz ob u ih => obtain ⟨e, q⟩ := x; exact ⟨k _ _ (.inl rfl) e, ih q⟩
 | tbl ps =>
  have e : h.get? a = some { cls := .none, data := .fields ps } := x
  show h'.get? a = some { cls := .none, data := .fields ps }
  exact k a _ (.inl rfl) e
 | met f y =>
  have e : h.get? a = some (PySem.W.methodObj (.ref f) (.ref y)) := x
  show h'.get? a = some (PySem.W.methodObj (.ref f) (.ref y))
  exact k a _ (.inl rfl) e
 | ext φ => obtain ⟨p, ⟨o, e⟩, st⟩ := x; exact ⟨st _ _ p fun o q => k _ _ (.inl rfl) q, ⟨o, k _ _ (.inl rfl) e⟩, st⟩
theorem HOk.lt (x : HOk P w H h) (e : H a = some o) : a < h.objs.size := (x a o e).lt
theorem HOk.fresh (x : HOk P w H h) (e : h.objs.size <= a) : H a = none := by
 cases q : H a with
 | none => rfl
 | some u => exact absurd (Nat.lt_of_lt_of_le (x.lt q) e) (Nat.lt_irrefl _)
theorem HOk.kept (x : HOk P w H h) (k : ∀ b u, h.get? b = some u -> h'.get? b = some u) : HOk P w H h' := fun a o e =>
 (x a o e).stay (fun b u _ q => k b u q) (fun _ q => q) fun _ _ q => q
theorem HOk.laid (x : HOk P w H h) (k : ∀ b u, h.get? b = some u -> h'.get? b = some u) (hp : h.objs.size <= a) (new : zA0 P w (upd H a o) h' a o) : HOk P w (upd H a o) h' := fun b u e => by
 have hn := x.fresh hp
 by_cases hb : b = a
 ·subst hb; rw [zA1] at e; cases e; exact new
 ·rw [zAl hb] at e
  exact (x b u e).stay (fun c v _ q => k c v q) (fun c q => by rw [zAl (zA5 q hn)]; exact q) fun c xs q => by rw [zAl (zA5 q hn)]; exact q
end
noncomputable def Rd (H : Hp) (a : Addr) (u : HO) : Prop := H a = some u ∨ ∃ o, H a = some (.frz o u)
theorem Rd.ok {P : Program} {w : World} {H : Hp} {h : Heap} {a : Addr} {u : HO} (r : Rd H a u) (x : HOk P w H h) : zA0 P w H h a u := by
 rcases r with r | ⟨o, r⟩
 ·exact x a u r
 ·obtain ⟨_, q⟩ := x a _ r
  exact q
noncomputable def Mut : Option HO -> Prop
 | some (.lst _) => True
 | some (.dK _) => True
 | some (.dT _) => True
 | some (.set _ _) => True
 | some (.ins _ _ _) => True
 | some (.ext _) => True
 | _ => False
section
variable {P : Program} {w : World} {H : Hp} {h h' : Heap} {x e : Addr} {o' : HO}
theorem HOk.write (ok : HOk P w H h) (mu : Mut (H x)) (he : e = x ∨ H e = some (.own x)) (k : ∀ b u, b ≠ e -> h.get? b = some u -> h'.get? b = some u) (heo : ∃ u, h'.get? e = some u)
  (new : zA0 P w (upd H x o') h' x o') : HOk P w (upd H x o') h' := fun b u q => by
 have nown : ∀ c y, H c = some (.own y) -> c ≠ x := fun c y r z => by subst z; rw [r] at mu; exact mu
 have ntup : ∀ c xs, H c = some (.tup xs) -> c ≠ x := fun c xs r z => by subst z; rw [r] at mu; exact mu
 by_cases hb : b = x
 ·subst hb; rw [zA1] at q; cases q; exact new
 ·rw [zAl hb] at q
  by_cases hbe : b = e
  ·have q' : H b = some (.own x) := by
    rcases he with z | z
    ·exact absurd (hbe.trans z) hb
    ·rw [hbe]; exact z
   rw [q] at q'; cases q'
   obtain ⟨v, hv⟩ := heo
   exact ⟨v, by rw [hbe]; exact hv⟩
  ·refine (ok b u q).stay (fun c v hc r => k c v ?_ r) (fun c r => by rw [zAl (nown c b r)]; exact r) fun c xs r => by rw [zAl (ntup c xs r)]; exact r
   rcases hc with rfl | hc
   ·exact hbe
   ·rintro rfl
    rcases he with z | z
    ·exact nown c b hc z
    ·rw [hc] at z; cases z; exact hb rfl
end
structure Un (fs ex : List Addr) (H H' : Hp) (h h' : Heap) : Prop where
 keep : ∀ b o, h.get? b = some o -> H b = none -> b ∉ fs -> b ∉ ex -> h'.get? b = some o
 slot : ∀ b o, h.get? b = some o -> H b = none -> b ∈ fs -> b ∉ ex -> ∃ sl, h'.get? b = some { o with slots := sl }
 free : ∀ b o, h.get? b = some o -> H b = none -> b ∉ ex -> H' b = none
 there : ∀ b o, h.get? b = some o -> b ∉ ex -> ∃ o', h'.get? b = some o'
 tups : ∀ b xs, H b = some (.tup xs) -> H' b = some (.tup xs)
 frzs : ∀ b o u, H b = some (.frz o u) -> H' b = some (.frz o u)
 tbls : ∀ b ps, H b = some (.tbl ps) -> ∃ more, H' b = some (.tbl (ps ++ more))
section
variable {fs fs' ex ex' : List Addr} {H H1 H2 : Hp} {h h1 h2 h' : Heap} {a x e : Addr} {o : HO}
theorem Un.any (u : Un fs ex H H1 h h1) {b : Addr} {ob : Obj} (q : h.get? b = some ob) (n : H b = none) (hx : b ∉ ex) : ∃ sl, h1.get? b = some { ob with slots := sl } := by
 by_cases hb : b ∈ fs
 ·exact u.slot b ob q n hb hx
 ·exact ⟨ob.slots, u.keep b ob q n hb hx⟩
theorem Un.kept (k : ∀ b u, h.get? b = some u -> h'.get? b = some u) : Un fs ex H H h h' :=
 ⟨fun b ob q _ _ _ => k b ob q, fun b ob q _ _ _ => ⟨ob.slots, k b ob q⟩, fun _ _ _ n _ => n, fun b ob q _ => ⟨ob, k b ob q⟩, fun _ _ q => q, fun _ _ _ q => q, fun _ ps q => ⟨#[], by rw [q]; simp⟩⟩
theorem Un.refl : Un fs ex H H h h := Un.kept fun _ _ q => q
theorem Un.laid (k : ∀ b u, h.get? b = some u -> h'.get? b = some u) (hp : h.objs.size <= a) (hn : H a = none) : Un fs ex H (upd H a o) h h' where
 keep := fun b u q _ _ _ => k b u q
 slot := fun b u q _ _ _ => ⟨u.slots, k b u q⟩
 free := fun b u q n _ => by rw [zAl (Nat.ne_of_lt (Nat.lt_of_lt_of_le (Heap.lt_size q) hp))]; exact n
 there := fun b u q _ => ⟨u, k b u q⟩
 tups := fun b xs q => by rw [zAl (zA5 q hn)]; exact q
 frzs := fun b u xs q => by rw [zAl (zA5 q hn)]; exact q
 tbls := fun b ps q => ⟨#[], by rw [zAl (zA5 q hn), q]; simp⟩
theorem Un.write (mu : Mut (H x)) (he : e = x ∨ H e = some (.own x)) (k : ∀ b u, b ≠ e -> h.get? b = some u -> h'.get? b = some u) (heo : ∃ u, h'.get? e = some u) : Un fs ex H (upd H x o) h h' := by
 have hx : ∀ b, H b = none -> b ≠ x := fun b n z => by subst z; rw [n] at mu; exact mu
 have hb : ∀ b, H b = none -> b ≠ e := fun b n z => by
  subst z
  rcases he with r | r
  ·exact hx b n r
  ·rw [n] at r; cases r
 have hm : ∀ b u, H b = some u -> ¬ Mut (some u) -> b ≠ x := fun b u q nm z => by subst z; rw [q] at mu; exact nm mu
 refine ⟨fun b u q n _ _ => k b u (hb b n) q, fun b u q n _ _ => ⟨u.slots, k b u (hb b n) q⟩, fun b u q n _ => by rw [zAl (hx b n)]; exact n, fun b u q _ => ?_,
  fun b xs q => by rw [zAl (hm b _ q fun z => z)]; exact q, fun b u xs q => by rw [zAl (hm b _ q fun z => z)]; exact q, fun b ps q => ⟨#[], by rw [zAl (hm b _ q fun z => z), q]; simp⟩⟩
 by_cases hbe : b = e
 ·subst hbe; exact heo
 ·exact ⟨u, k b u hbe q⟩
end
noncomputable def trk (h : Heap) (H : Hp) : List Addr := (List.range h.objs.size).filter fun a => (H a).isSome
noncomputable def hidT (h : Heap) (H : Hp) : Heap := PySem.W.hideAll h (trk h H)
theorem zJG (h : Heap) (H : Hp) : (hidT h H).objs.size = h.objs.size := PySem.W.hideAll_size _ _
theorem zNR {h : Heap} {H : Hp} {b : Addr} {o : Obj} (e : h.get? b = some o) (n : H b = none) : (hidT h H).get? b = some o :=
 PySem.W.hideAll_get _ e fun hm => by
  have q : (H b).isSome = true := (List.mem_filter.mp hm).2
  rw [n] at q; simp at q
theorem zM1 {h : Heap} {H : Hp} {b : Addr} {o : Obj} (e : (hidT h H).get? b = some o) : h.get? b = some o /\ H b = none := by
 have e' : h.get? b = some o := PySem.W.of_hideAll (trk h H) e
 refine ⟨e', ?_⟩
 cases q : H b with
 | none => rfl
 | some x =>
  have hm : b ∈ trk h H := List.mem_filter.mpr ⟨List.mem_range.mpr (Heap.lt_size e'), by simp [q]⟩
  have z : (hidT h H).get? b = none := PySem.W.hideAll_none (trk h H) hm
  rw [z] at e; cases e
end L2
namespace L2
open PySem PySem.Spec PyProof.Rows
structure Mod (K : PySem.W.Frag) (mg : Str -> Option Value) (base : Heap) : Prop where
 kin : K.In base
 glob : base.Ns mainGlobals mg
 blt : ∃ mb, base.Ns builtinsNs mb /\ ∀ x : Str, x ≠ "__name__" -> mb x = bootBuiltins x
 nolimit : base.NoLimit
structure Cx where
 prog : Program
 w : World
 K : PySem.W.Frag
 mg : Str -> Option Value
 base : Heap
 A : Around
 N : List Str
 s₀ : Shared
 H₀ : Hp
 env : Env
 outer : List Env
 stack : List Env
 ex : List Addr
 fn : Str -> Bool
 calm : Bool
 pn : List (Addr × Obj)
 xe : Value -> Shared -> Prop
noncomputable def frs (l : List Env) : List Addr := l.filterMap (·.frame)
abbrev Cx.fs (X : Cx) : List Addr := frs X.outer
noncomputable def Vis (sc : Scope) (x : Str) : Prop := sc.names.lookup x = some .local ∨ sc.names.lookup x = some .cell ∨ sc.names.lookup x = some .free
noncomputable def Loc (sc : Scope) (x : Str) : Prop := sc.names.lookup x = some .local ∨ sc.names.lookup x = some .cell
noncomputable def Look (env : Env) (h : Heap) (m : Str -> Option Value) (x : Str) (u : Value) : Prop :=
 (env.kindOf x = some .local /\ m x = some u) ∨ ((env.kindOf x = some .cell ∨ env.kindOf x = some .free) /\ ∃ c, env.cells.lookup x = some c /\ h.IsCell c (some u))
structure Cx.Ok (X : Cx) : Prop where
 mod : Mod X.K X.mg X.base
 kind : X.env.scope.kind = .function
 glob : X.env.globals = mainGlobals
 blt : X.env.builtins = builtinsNs
 above : X.s₀.heap.objs.size <= X.env.locals
 inj : ∀ x y c, X.env.cells.lookup x = some c -> X.env.cells.lookup y = some c -> x = y
 has : ∀ x, (X.env.kindOf x = some .cell ∨ X.env.kindOf x = some .free) -> ∃ c, X.env.cells.lookup x = some c
 cab : ∀ x c, X.fn x = true -> X.env.cells.lookup x = some c -> X.s₀.heap.objs.size <= c
 hd : X.calm = true -> X.A.handled = none
 frames : X.A.frames = some X.stack
 stk : X.stack = X.outer ∨ (X.stack = X.env :: X.outer /\ X.env.frame = some X.env.locals)
 exf : ∀ b ∈ X.ex, b ≠ X.env.locals /\ ∀ x c, X.env.cells.lookup x = some c -> c ≠ b
 bs : ∀ b o, X.base.get? b = some o -> X.s₀.heap.get? b = some o /\ X.H₀ b = none
 bsz : X.base.objs.size <= X.s₀.heap.objs.size
 noex : ∀ b o, X.base.get? b = some o -> b ∉ X.ex
 exfs : ∀ b ∈ X.ex, b ∉ X.fs
 funs : X.s₀.heap.FunFrames X.base X.outer
 frf : ∀ b ∈ X.fs, X.H₀ b = none
structure Inv (X : Cx) (pins : List (Addr × Obj)) (σ : List (Option V)) (H : Hp) (s : Shared) : Prop where
 ok : X.Ok
 os : s.os = X.s₀.os
 bare : AllBare s.gens
 base : Un X.fs X.ex X.H₀ H X.s₀.heap s.heap
 loc : ∃ m, s.heap.Ns X.env.locals m /\ ∀ (i : Nat) (x : Str) (v : V), X.N[i]? = some x -> σ[i]? = some (some v) -> Vis X.env.scope x -> ∃ u, RelV v u /\ Look X.env s.heap m x u
 cell : ∀ x c, X.env.cells.lookup x = some c -> ∃ v, s.heap.IsCell c v
 free : H X.env.locals = none
 freeC : ∀ x c, X.env.cells.lookup x = some c -> H c = none
 pin : ∀ p ∈ X.pn ++ pins, s.heap.get? p.1 = some p.2 /\ H p.1 = none /\ p.1 ≠ X.env.locals /\ p.1 ∉ X.fs /\ ∀ v, p.2.data ≠ .cell v
 hok : HOk X.prog X.w H s.heap
 len : σ.length = X.N.length
section
variable {X : Cx} {pins : List (Addr × Obj)} {σ : List (Option V)} {H H' : Hp} {s : Shared} {h' : Heap}
theorem Cx.Ok.nofr (ok : X.Ok) {b : Addr} {o : Obj} (e : X.base.get? b = some o) : b ∉ X.fs := fun hb => by
 have := (ok.funs.mem hb).1
 rw [e] at this; cases this
theorem Inv.bs (I : Inv X pins σ H s) : ∀ b o, X.base.get? b = some o -> s.heap.get? b = some o /\ H b = none := fun b o e =>
 ⟨I.base.keep b o (I.ok.bs b o e).1 (I.ok.bs b o e).2 (I.ok.nofr e) (I.ok.noex b o e), I.base.free b o (I.ok.bs b o e).1 (I.ok.bs b o e).2 (I.ok.noex b o e)⟩
theorem Inv.bk (I : Inv X pins σ H s) : ∀ b o, X.base.get? b = some o -> s.heap.get? b = some o := fun b o e => (I.bs b o e).1
theorem Inv.mod (I : Inv X pins σ H s) : Mod X.K X.mg X.base := I.ok.mod
theorem Inv.kIn (I : Inv X pins σ H s) : X.K.In s.heap := I.ok.mod.kin.keeps I.bk
theorem Inv.lt (I : Inv X pins σ H s) : X.env.locals < s.heap.objs.size := let ⟨_, hn, _⟩ := I.loc; hn.lt
theorem Inv.sz (I : Inv X pins σ H s) : X.s₀.heap.objs.size <= s.heap.objs.size := Nat.le_trans I.ok.above (Nat.le_of_lt I.lt)
theorem Inv.nofs (I : Inv X pins σ H s) {a : Addr} (h : s.heap.objs.size <= a) : a ∉ X.fs := fun hb => by
 obtain ⟨_, o, ho, _⟩ := I.ok.funs.mem hb
 exact absurd (Nat.lt_of_lt_of_le (Heap.lt_size ho) (Nat.le_trans I.sz h)) (Nat.lt_irrefl _)
theorem Inv.cne (I : Inv X pins σ H s) : ∀ x c, X.env.cells.lookup x = some c -> c ≠ X.env.locals := fun x c e z => by
 obtain ⟨v, o, ho, hd⟩ := I.cell x c e
 obtain ⟨m, ⟨o', es, ep, ho', hd', _⟩, _⟩ := I.loc
 rw [z, ho'] at ho; cases ho; rw [hd'] at hd; cases hd
theorem Inv.funs (I : Inv X pins σ H s) : s.heap.FunFrames X.base X.outer := by
 have all : ∀ (l : List Env), (∀ b ∈ frs l, b ∈ X.fs) -> X.s₀.heap.FunFrames X.base l -> s.heap.FunFrames X.base l := by
  intro l
  induction l with
  | nil => intro _ _; trivial
  | cons env r ih =>
   intro hs hl
   obtain ⟨hk, ⟨L, o, hf, hn, ho, hd⟩, hr⟩ := hl
   have hL : L ∈ X.fs := hs L (by unfold frs; rw [List.filterMap_cons, hf]; exact List.mem_cons_self)
   obtain ⟨sl, e⟩ := I.base.slot L o ho (I.ok.frf L hL) hL fun z => I.ok.exfs L z hL
   exact ⟨hk, ⟨L, _, hf, hn, e, hd⟩, ih (fun b hb => hs b (by unfold frs; rw [List.filterMap_cons, hf]; exact List.mem_cons_of_mem _ hb)) hr⟩
 exact all X.outer (fun _ hb => hb) I.ok.funs
theorem Inv.stack (I : Inv X pins σ H s) : s.heap.FunFrames X.base X.stack := by
 rcases I.ok.stk with e | ⟨e, hf⟩
 ·rw [e]; exact I.funs
 ·rw [e]
  obtain ⟨m, hn, _⟩ := I.loc
  refine .cons (by rw [I.ok.kind]; decide) hf hn ?_ I.funs
  exact Heap.get?_none_of_le (Nat.le_trans I.ok.bsz I.ok.above)
theorem Inv.stkSub (I : Inv X pins σ H s) : ∀ b ∈ frs X.stack, b ∈ X.env.locals :: X.fs := fun b hb => by
 rcases I.ok.stk with e | ⟨e, hf⟩
 ·rw [e] at hb; exact List.mem_cons_of_mem _ hb
 ·rw [e] at hb
  unfold frs at hb
  rw [List.filterMap_cons, hf] at hb
  exact hb
theorem Inv.stkFree (I : Inv X pins σ H s) : ∀ b ∈ frs X.stack, H b = none := fun b hb => by
 rcases List.mem_cons.mp (I.stkSub b hb) with e | hb
 ·rw [e]; exact I.free
 ·obtain ⟨_, o, ho, _⟩ := I.ok.funs.mem hb
  exact I.base.free b o ho (I.ok.frf b hb) fun z => I.ok.exfs b z hb
theorem Inv.step {g' : Array GenState} {t' : Nat} {d' : Drawn} {ch : List Addr} (I : Inv X pins σ H s)
  (hch : ∀ b ∈ ch, (b ∈ X.ex ∨ X.s₀.heap.objs.size <= b) /\ b ≠ X.env.locals /\ (∀ x c, X.env.cells.lookup x = some c -> c ≠ b) /\ ∀ p ∈ X.pn ++ pins, p.1 ≠ b)
  (keep : ∀ b o, b ≠ X.env.locals -> b ∉ X.fs -> b ∉ ch -> s.heap.get? b = some o -> H b = none -> h'.get? b = some o)
  (slot : ∀ b o, b ≠ X.env.locals -> b ∈ X.fs -> b ∉ ch -> s.heap.get? b = some o -> H b = none -> ∃ sl, h'.get? b = some { o with slots := sl }) (free : ∀ b o, b ∉ ch -> s.heap.get? b = some o -> H b = none -> H' b = none)
  (there : ∀ b o, b ∉ ch -> s.heap.get? b = some o -> ∃ o', h'.get? b = some o')
  (tups : ∀ b xs, H b = some (.tup xs) -> H' b = some (.tup xs)) (frzs : ∀ b o u, H b = some (.frz o u) -> H' b = some (.frz o u)) (tbls : ∀ b ps, H b = some (.tbl ps) -> ∃ more, H' b = some (.tbl (ps ++ more)))
  (ns : ∀ m, s.heap.Ns X.env.locals m -> h'.Ns X.env.locals m) (hok : HOk X.prog X.w H' h') (hg : AllBare g') :
  Inv X pins σ H' { s with heap := h', gens := g', drawn := d', toks := t' } := by
 have neL : ∀ b o, X.s₀.heap.get? b = some o -> b ≠ X.env.locals := fun b o e => Nat.ne_of_lt (Nat.lt_of_lt_of_le (Heap.lt_size e) I.ok.above)
 have neC : ∀ b o, X.s₀.heap.get? b = some o -> b ∉ X.ex -> b ∉ ch := fun b o e hx hb => by
  rcases (hch b hb).1 with z | z
  ·exact hx z
  ·exact absurd (Nat.lt_of_lt_of_le (Heap.lt_size e) z) (Nat.lt_irrefl _)
 have cellK : ∀ x c, X.env.cells.lookup x = some c -> ∀ v, s.heap.IsCell c v -> h'.IsCell c v := fun x c e v zz => by
  obtain ⟨o, ho, hd⟩ := zz
  have nch : c ∉ ch := fun z => (hch c z).2.2.1 x c e rfl
  by_cases hc : c ∈ X.fs
  ·obtain ⟨sl, q⟩ := slot c o (I.cne x c e) hc nch ho (I.freeC x c e)
   exact ⟨_, q, hd⟩
  ·exact ⟨o, keep c o (I.cne x c e) hc nch ho (I.freeC x c e), hd⟩
 refine ⟨I.ok, I.os, hg, ⟨fun b o e n hb hx => ?_, fun b o e n hb hx => ?_, fun b o e n hx => ?_, fun b o e hx => ?_, fun b xs e => tups b xs (I.base.tups b xs e), fun b o xs e => frzs b o xs (I.base.frzs b o xs e), fun b ps e => ?_⟩, ?_, fun x c e => ?_, ?_, fun x c e => ?_, fun p hp => ?_, hok, I.len⟩
 ·exact keep b o (neL b o e) hb (neC b o e hx) (I.base.keep b o e n hb hx) (I.base.free b o e n hx)
 ·obtain ⟨sl, e1⟩ := I.base.slot b o e n hb hx
  obtain ⟨sl', e2⟩ := slot b _ (neL b o e) hb (neC b o e hx) e1 (I.base.free b o e n hx)
  exact ⟨sl', e2⟩
 ·obtain ⟨o', e1⟩ := I.base.there b o e hx
  exact free b o' (neC b o e hx) e1 (I.base.free b o e n hx)
 ·obtain ⟨o', e1⟩ := I.base.there b o e hx
  exact there b o' (neC b o e hx) e1
 ·obtain ⟨m1, e1⟩ := I.base.tbls b ps e
  obtain ⟨m2, e2⟩ := tbls b _ e1
  exact ⟨m1 ++ m2, by rw [e2, Array.append_assoc]⟩
 ·obtain ⟨m, hn, hl⟩ := I.loc
  refine ⟨m, ns m hn, fun i x v e1 e2 e3 => ?_⟩
  obtain ⟨u, r, l⟩ := hl i x v e1 e2 e3
  refine ⟨u, r, ?_⟩
  rcases l with l | ⟨k, c, e, z⟩
  ·exact .inl l
  ·exact .inr ⟨k, c, e, cellK x c e _ z⟩
 ·obtain ⟨v, z⟩ := I.cell x c e
  exact ⟨v, cellK x c e v z⟩
 ·obtain ⟨m, ⟨o, _, _, ho, _⟩, _⟩ := I.loc
  exact free _ o (fun z => (hch _ z).2.1 rfl) ho I.free
 ·obtain ⟨v, o, ho, hd⟩ := I.cell x c e
  exact free c o (fun z => (hch c z).2.2.1 x c e rfl) ho (I.freeC x c e)
 ·obtain ⟨e, n, ne, nf, d⟩ := I.pin p hp
  have nch : p.1 ∉ ch := fun z => (hch p.1 z).2.2.2 p hp rfl
  exact ⟨keep p.1 p.2 ne nf nch e n, free p.1 p.2 nch e n, ne, nf, d⟩
theorem Inv.un {t' : Nat} (I : Inv X pins σ H s) (u : Un X.fs [] H H' s.heap h') (hok : HOk X.prog X.w H' h') : Inv X pins σ H' { s with heap := h', toks := t' } := by
 obtain ⟨m, ⟨o, es, ep, ho, r⟩, _⟩ := id I.loc
 obtain ⟨sl, hL⟩ := u.any ho I.free (by simp)
 exact I.step (g' := s.gens) (d' := s.drawn) (ch := []) (fun _ z => nomatch z) (fun b o _ hb _ e n => u.keep b o e n hb (by simp)) (fun b o _ hb _ e n => u.slot b o e n hb (by simp)) (fun b o _ e n => u.free b o e n (by simp)) (fun b o _ e => u.there b o e (by simp)) u.tups u.frzs u.tbls (fun m' hm => by
  obtain ⟨o', es', ep', ho', r'⟩ := hm
  rw [ho] at ho'; cases ho'
  exact ⟨_, es', ep', hL, r'⟩) hok I.bare
theorem Inv.call {g' : Array GenState} {t' : Nat} {d' : Drawn} {ch : List Addr} (I : Inv X pins σ H s) (u : Un (frs X.stack) ch H H' s.heap h') (hok : HOk X.prog X.w H' h') (hg : AllBare g')
  (hch : ∀ b ∈ ch, (b ∈ X.ex ∨ X.s₀.heap.objs.size <= b) /\ b ≠ X.env.locals /\ (∀ x c, X.env.cells.lookup x = some c -> c ≠ b) /\ ∀ p ∈ X.pn ++ pins, p.1 ≠ b) :
  Inv X pins σ H' { s with heap := h', gens := g', drawn := d', toks := t' } := by
 obtain ⟨m, ⟨o, es, ep, ho, r⟩, _⟩ := id I.loc
 obtain ⟨sl, hL⟩ := u.any ho I.free fun z => (hch _ z).2.1 rfl
 exact I.step (ch := ch) hch (fun b o hL hb hc e n => u.keep b o e n (fun z => (List.mem_cons.mp (I.stkSub b z)).elim hL hb) hc) (fun b o _ _ hc e n => u.any e n hc) (fun b o hc e n => u.free b o e n hc) (fun b o hc e => u.there b o e hc) u.tups u.frzs u.tbls (fun m' hm => by
  obtain ⟨o', es', ep', ho', r'⟩ := hm
  rw [ho] at ho'; cases ho'
  exact ⟨_, es', ep', hL, r'⟩) hok hg
theorem Inv.turned {t' : Nat} {it : Addr} (I : Inv X pins σ H s) (k : ∀ b o, b ≠ it -> s.heap.get? b = some o -> h'.get? b = some o) (hn : H it = none) (hL : it ≠ X.env.locals)
  (h1 : it ∈ X.ex ∨ X.s₀.heap.objs.size <= it) (h2 : ∀ x c, X.env.cells.lookup x = some c -> c ≠ it) (h3 : ∀ p ∈ X.pn ++ pins, p.1 ≠ it) : Inv X pins σ H { s with heap := h', toks := t' } := by
 have nit : ∀ b u, H b = some u -> b ≠ it := fun b u e z => by rw [z, hn] at e; cases e
 refine I.step (g' := s.gens) (d' := s.drawn) (ch := [it]) (fun b hb => ?_) (fun b o _ _ hc e _ => k b o (fun z => hc (by simp [z])) e) (fun b o _ _ hc e _ => ⟨o.slots, k b o (fun z => hc (by simp [z])) e⟩) (fun _ _ _ _ n => n)
  (fun b o hc e => ⟨o, k b o (fun z => hc (by simp [z])) e⟩) (fun _ _ e => e) (fun _ _ _ e => e) (fun b ps e => ⟨#[], by rw [e]; simp⟩) (fun m hm => ?_) (fun b u e => ?_) I.bare
 ·have e : b = it := by simpa using hb
  subst e
  exact ⟨h1, hL, h2, h3⟩
 ·obtain ⟨o, es, ep, ho, r⟩ := hm
  exact ⟨o, es, ep, k _ o (Ne.symm hL) ho, r⟩
 ·refine (I.hok b u e).stay (fun c v hc q => k c v ?_ q) (fun _ q => q) fun _ _ q => q
  rcases hc with z | z
  ·rw [z]; exact nit b u e
  ·exact nit c _ z
theorem Inv.tok (I : Inv X pins σ H s) (t : Nat) : Inv X pins σ H { s with toks := t } := I.un (h' := s.heap) (t' := t) Un.refl I.hok
theorem Inv.kept {t' : Nat} (I : Inv X pins σ H s) (k : ∀ b u, s.heap.get? b = some u -> h'.get? b = some u) : Inv X pins σ H { s with heap := h', toks := t' } := I.un (Un.kept k) (I.hok.kept k)
theorem Inv.laid {a : Addr} {o : HO} {t' : Nat} (I : Inv X pins σ H s) (k : ∀ b u, s.heap.get? b = some u -> h'.get? b = some u) (hp : s.heap.objs.size <= a) (new : zA0 X.prog X.w (upd H a o) h' a o) :
  Inv X pins σ (upd H a o) { s with heap := h', toks := t' } := I.un (Un.laid k hp (I.hok.fresh hp)) (I.hok.laid k hp new)
theorem Inv.write {x e : Addr} {o : HO} {t' : Nat} (I : Inv X pins σ H s) (mu : Mut (H x)) (he : e = x ∨ H e = some (.own x)) (k : ∀ b u, b ≠ e -> s.heap.get? b = some u -> h'.get? b = some u) (heo : ∃ u, h'.get? e = some u)
  (new : zA0 X.prog X.w (upd H x o) h' x o) : Inv X pins σ (upd H x o) { s with heap := h', toks := t' } := I.un (Un.write mu he k heo) (I.hok.write mu he k heo new)
theorem Inv.pins_of {pins' : List (Addr × Obj)} (I : Inv X pins σ H s) (h : ∀ p ∈ pins', s.heap.get? p.1 = some p.2 /\ H p.1 = none /\ p.1 ≠ X.env.locals /\ p.1 ∉ X.fs /\ ∀ v, p.2.data ≠ .cell v) : Inv X pins' σ H s :=
 ⟨I.ok, I.os, I.bare, I.base, I.loc, I.cell, I.free, I.freeC, fun p hp => (List.mem_append.mp hp).elim (fun z => I.pin p (List.mem_append_left _ z)) (h p), I.hok, I.len⟩
theorem zIr {N : List Str} (hN : N.Nodup) {i j : Nat} {x : Str} (a : N[i]? = some x) (b : N[j]? = some x) : i = j := by
 obtain ⟨h1, e1⟩ := List.getElem?_eq_some_iff.mp a
 obtain ⟨h2, e2⟩ := List.getElem?_eq_some_iff.mp b
 exact (List.getElem_inj hN).mp (e1.trans e2.symm)
theorem zFV {M : Model} {A : Around} {E : Value -> Shared -> Prop} {i : Nat} {x : Str} {v : V} {u : Value} {Q : Unit -> Shared -> Prop} (I : Inv X pins σ H s) (hN : X.N.Nodup) (hi : X.N[i]? = some x) (hx : Loc X.env.scope x) (r : RelV v u)
  (h : ∀ s', Inv X pins (σ.set i (some v)) H s' -> (∃ a, Heap.SameBut a s.heap s'.heap /\ (a = X.env.locals ∨ X.env.cells.lookup x = some a)) -> Q () s') (hf : X.fn x = true ∨ X.env.scope.names.lookup x = some .local := by first | exact .inl rfl | exact .inr rfl | assumption) : wpAny M A (storeName X.env x u) Q E s := by
 obtain ⟨m, hn, hl⟩ := id I.loc
 have hcls : (X.env.scope.kind == .class || (X.env.scope.kind == .module && X.env.locals != X.env.globals)) = false := by rw [I.ok.kind]; rfl
 have hiσ : i < σ.length := by rw [I.len]; exact (List.getElem?_eq_some_iff.mp hi).1
 have cne := I.cne
 have tracked : ∀ {a : Addr} {h' : Heap}, (∃ o, s.heap.get? a = some o /\ H a = none) -> Heap.SameBut a s.heap h' -> HOk X.prog X.w H h' := fun {a h'} ha hs b ob e => by
  obtain ⟨_, _, hfree⟩ := ha
  refine (I.hok b ob e).stay (fun c w' hc q => (hs.2 c ?_).trans q) (fun _ q => q) fun _ _ q => q
  rintro rfl
  rcases hc with rfl | hc
  ·rw [hfree] at e; cases e
  ·rw [hfree] at hc; cases hc
 rcases hx with hk | hk
 ·refine wpAny_storeName_local hk hn (fun h' hn' hs => ?_) hcls
  obtain ⟨oL, _, _, hoL, _⟩ := id hn
  refine h _ ⟨I.ok, I.os, I.bare, ⟨fun b o e n hb hx => ?_, fun b o e n hb hx => ?_, I.base.free, fun b o e hx => ?_, I.base.tups, I.base.frzs, I.base.tbls⟩, ⟨_, hn', fun j y v' e1 e2 e3 => ?_⟩, fun y c e => ?_, I.free, I.freeC, fun p hp => ?_, tracked ⟨oL, hoL, I.free⟩ hs, by simpa using I.len⟩ ⟨_, hs, .inl rfl⟩
  ·exact (hs.2 b (Nat.ne_of_lt (Nat.lt_of_lt_of_le (Heap.lt_size e) I.ok.above))).trans (I.base.keep b o e n hb hx)
  ·obtain ⟨sl, e1⟩ := I.base.slot b o e n hb hx
   exact ⟨sl, (hs.2 b (Nat.ne_of_lt (Nat.lt_of_lt_of_le (Heap.lt_size e) I.ok.above))).trans e1⟩
  ·obtain ⟨o', e1⟩ := I.base.there b o e hx
   exact ⟨o', (hs.2 b (Nat.ne_of_lt (Nat.lt_of_lt_of_le (Heap.lt_size e) I.ok.above))).trans e1⟩
  ·by_cases hj : j = i
   ·subst hj
    rw [hi] at e1; cases e1
    rw [List.getElem?_set_self hiσ] at e2
    cases e2
    exact ⟨u, r, .inl ⟨hk, by simp⟩⟩
   ·rw [List.getElem?_set_ne (Ne.symm hj)] at e2
    obtain ⟨u', r', q⟩ := hl j y v' e1 e2 e3
    refine ⟨u', r', ?_⟩
    rcases q with ⟨k, e⟩ | ⟨k, c, e, z⟩
    ·refine .inl ⟨k, ?_⟩
     have : y ≠ x := fun e => hj (zIr hN e1 (e ▸ hi))
     simp [this, e]
    ·exact .inr ⟨k, c, e, z.sameBut hs (cne y c e)⟩
  ·obtain ⟨w', z⟩ := I.cell y c e
   exact ⟨w', z.sameBut hs (cne y c e)⟩
  ·obtain ⟨e, n, ne, nf, d⟩ := I.pin p hp
   exact ⟨(hs.2 p.1 ne).trans e, n, ne, nf, d⟩
 ·have hfn : X.fn x = true := by
   rcases hf with z | z
   ·exact z
   ·rw [z] at hk; cases hk
  obtain ⟨c, hc⟩ := I.ok.has x (.inl hk)
  obtain ⟨w', z⟩ := I.cell x c hc
  refine wpAny_storeName_cell I.ok.kind hk hc z (fun h' hc' hs => ?_)
  obtain ⟨oc, hoc, hocd⟩ := id z
  refine h { s with heap := h' } ⟨I.ok, I.os, I.bare, ⟨fun b o e n hb hx => ?_, fun b o e n hb hx => ?_, I.base.free, fun b o e hx => ?_, I.base.tups, I.base.frzs, I.base.tbls⟩, ⟨m, hn.sameBut hs (Ne.symm (cne x c hc)), fun j y v' e1 e2 e3 => ?_⟩, fun y c' e => ?_, I.free, I.freeC, fun p hp => ?_, tracked ⟨oc, hoc, I.freeC x c hc⟩ hs, by simpa using I.len⟩ ⟨c, hs, .inr hc⟩
  ·exact (hs.2 b (Nat.ne_of_lt (Nat.lt_of_lt_of_le (Heap.lt_size e) (I.ok.cab x c hfn hc)))).trans (I.base.keep b o e n hb hx)
  ·obtain ⟨sl, e1⟩ := I.base.slot b o e n hb hx
   exact ⟨sl, (hs.2 b (Nat.ne_of_lt (Nat.lt_of_lt_of_le (Heap.lt_size e) (I.ok.cab x c hfn hc)))).trans e1⟩
  ·obtain ⟨o', e1⟩ := I.base.there b o e hx
   exact ⟨o', (hs.2 b (Nat.ne_of_lt (Nat.lt_of_lt_of_le (Heap.lt_size e) (I.ok.cab x c hfn hc)))).trans e1⟩
  ·by_cases hj : j = i
   ·subst hj
    rw [hi] at e1; cases e1
    rw [List.getElem?_set_self hiσ] at e2
    cases e2
    exact ⟨u, r, .inr ⟨.inl hk, c, hc, hc'⟩⟩
   ·rw [List.getElem?_set_ne (Ne.symm hj)] at e2
    obtain ⟨u', r', q⟩ := hl j y v' e1 e2 e3
    refine ⟨u', r', ?_⟩
    rcases q with q | ⟨k, c', e, z'⟩
    ·exact .inl q
    ·refine .inr ⟨k, c', e, z'.sameBut hs ?_⟩
     rintro rfl
     exact hj (zIr hN e1 (I.ok.inj _ _ _ e hc ▸ hi))
  ·by_cases hcc : c' = c
   ·subst hcc; exact ⟨_, hc'⟩
   ·obtain ⟨w2, z2⟩ := I.cell y c' e
    exact ⟨w2, z2.sameBut hs hcc⟩
  ·obtain ⟨e, n, ne, nf, d⟩ := I.pin p hp
   refine ⟨(hs.2 p.1 ?_).trans e, n, ne, nf, d⟩
   intro q
   rw [q, hoc] at e
   have q' : oc = p.2 := Option.some.inj e
   exact d w' (by rw [<- q']; exact hocd)
theorem zFG {M : Model} {A : Around} {E : Value -> Shared -> Prop} {i : Nat} {x : Str} {v : V} {u : Value} {Q : Unit -> Shared -> Prop} (I : Inv X pins σ H s) (hN : X.N.Nodup) (hi : X.N[i]? = some x) (hx : Loc X.env.scope x) (r : RelV v u)
  (h : ∀ s', Inv X pins (σ.set i (some v)) H s' -> Q () s') (hf : X.fn x = true ∨ X.env.scope.names.lookup x = some .local := by first | exact .inl rfl | exact .inr rfl | assumption) : wpAny M A (storeName X.env x u) Q E s :=
 zFV I hN hi hx r (fun s' I' _ => h s' I') hf
theorem Inv.call' {s' : Shared} {ch : List Addr} (I : Inv X pins σ H s) (ho : s'.os = s.os) (u : Un (frs X.stack) ch H H' s.heap s'.heap) (hok : HOk X.prog X.w H' s'.heap) (hg : AllBare s'.gens)
  (hch : ∀ b ∈ ch, (b ∈ X.ex ∨ X.s₀.heap.objs.size <= b) /\ b ≠ X.env.locals /\ (∀ x c, X.env.cells.lookup x = some c -> c ≠ b) /\ ∀ p ∈ X.pn ++ pins, p.1 ≠ b) : Inv X pins σ H' s' := by
 obtain ⟨h', g', d', t', o'⟩ := s'
 have e : o' = s.os := ho
 subst e
 exact I.call (g' := g') (t' := t') (d' := d') u hok hg hch
end
abbrev XK := Value -> Option Addr -> Hp -> Prop
abbrev St := List (Option V)
abbrev VK := V -> Hp -> Prop
abbrev TE := St -> Hp -> VK -> Prop
abbrev TT := St -> Hp -> (Bool -> Hp -> Prop) -> Prop
abbrev TA := St -> Hp -> (List V -> Hp -> Prop) -> Prop
structure Ends where
 nx : St -> Hp -> Prop
 rt : VK
 bk : St -> Hp -> Prop := fun _ _ => False
 ct : St -> Hp -> Prop := fun _ _ => False
abbrev TS := Ends -> St -> Hp -> Prop
noncomputable def EP (X : Cx) (pins : List (Addr × Obj)) (σ : St) (Q : VK) (u : Value) (s' : Shared) : Prop := ∃ v H', Inv X pins σ H' s' /\ RelV v u /\ Q v H'
noncomputable def TP (X : Cx) (pins : List (Addr × Obj)) (σ : St) (Q : Bool -> Hp -> Prop) (b : Bool) (s' : Shared) : Prop := ∃ H', Inv X pins σ H' s' /\ Q b H'
noncomputable def AP (X : Cx) (pins : List (Addr × Obj)) (σ : St) (Q : List V -> Hp -> Prop) (us : List Value) (s' : Shared) : Prop := ∃ vs H', Inv X pins σ H' s' /\ Vals vs us /\ Q vs H'
noncomputable def SP (X : Cx) (pins : List (Addr × Obj)) (D : Ends) (f : Flow) (s' : Shared) : Prop :=
 match f with
 | .next => ∃ σ' H', Inv X pins σ' H' s' /\ D.nx σ' H'
 | .brk => ∃ σ' H', Inv X pins σ' H' s' /\ D.bk σ' H'
 | .cont => ∃ σ' H', Inv X pins σ' H' s' /\ D.ct σ' H'
 | .ret u => ∃ v σ' H', Inv X pins σ' H' s' /\ RelV v u /\ D.rt v H'
noncomputable def PE (X : Cx) (e : Expr) (t : TE) : Prop :=
 ∀ (pins : List (Addr × Obj)) (s : Shared) (σ : St) (H : Hp) (Q : VK), Inv X pins σ H s -> t σ H Q -> wpAny (model X.prog X.w) X.A (eval e X.env) (EP X pins σ Q) X.xe s
noncomputable def PT (X : Cx) (e : Expr) (t : TT) : Prop :=
 ∀ (pins : List (Addr × Obj)) (s : Shared) (σ : St) (H : Hp) (Q : Bool -> Hp -> Prop), Inv X pins σ H s -> t σ H Q -> wpAny (model X.prog X.w) X.A (isTrue e X.env (eval e X.env)) (TP X pins σ Q) X.xe s
noncomputable def PW (X : Cx) (e : Expr) (t : TT) : Prop :=
 ∀ (whole : Sem Value) (pins : List (Addr × Obj)) (s : Shared) (σ : St) (H : Hp) (Q : Bool -> Hp -> Prop), Inv X pins σ H s -> t σ H Q -> wpAny (model X.prog X.w) X.A (isTrue e X.env whole) (TP X pins σ Q) X.xe s
theorem PW.pt {X : Cx} {e : Expr} {t : TT} (h : PW X e t) : PT X e t := h _
noncomputable def PA (X : Cx) (es : List Expr) (t : TA) : Prop :=
 ∀ (pos : Pos) (pins : List (Addr × Obj)) (s : Shared) (σ : St) (H : Hp) (Q : List V -> Hp -> Prop), Inv X pins σ H s -> t σ H Q -> wpAny (model X.prog X.w) X.A (spliced (backTo pos (starEach es X.env))) (AP X pins σ Q) X.xe s
noncomputable def PS (X : Cx) (st : Stmt) (t : TS) : Prop :=
 ∀ (pins : List (Addr × Obj)) (s : Shared) (σ : St) (H : Hp) (D : Ends), Inv X pins σ H s -> t D σ H -> wpAny (model X.prog X.w) X.A (exec st X.env) (SP X pins D) X.xe s
noncomputable def PSs (X : Cx) (st : List Stmt) (t : TS) : Prop :=
 ∀ (pins : List (Addr × Obj)) (s : Shared) (σ : St) (H : Hp) (D : Ends), Inv X pins σ H s -> t D σ H -> wpAny (model X.prog X.w) X.A (execs st X.env) (SP X pins D) X.xe s
theorem thn {α : Type} {t : Sem α} {Q Q' : α -> Shared -> Prop} {M : Model} {A : Around} {E : Value -> Shared -> Prop} {s : Shared} (h : wpAny M A t Q E s) (hQ : ∀ a s, Q a s -> Q' a s) : wpAny M A t Q' E s := wpAny_mono h hQ fun _ _ x => x
end L2
namespace L2
open PySem PySem.Spec PyProof.Rows
section
variable {X : Cx}
noncomputable def tVar (i : Nat) : TE := fun σ H Q => ∃ v, σ[i]? = some (some v) /\ Q v H
noncomputable def tC (v : V) : TE := fun _ H Q => Q v H
theorem zEV {i : Nat} {x : Str} {pos : Pos} (hN : X.N[i]? = some x) (hv : Vis X.env.scope x) (hd : (x == ("__debug__" : Str)) = false := by decide) (hcd : (x == ("__classdict__" : Str)) = false := by decide) : PE X (.Name x pos) (tVar i) := by
 intro pins s σ H Q I h
 obtain ⟨v, e, h⟩ := h
 obtain ⟨m, hn, hl⟩ := I.loc
 obtain ⟨u, r, l⟩ := hl i x v hN e hv
 have fin : EP X pins σ Q u s := ⟨v, H, I, r, h⟩
 rcases l with ⟨hk, hm⟩ | ⟨hk, c, hc, hcell⟩
 ·exact wpAny_Name (wpAny_loadName_local I.ok.kind hk hn hm fin) hd
 ·rcases hk with hk | hk
  ·exact wpAny_Name (wpAny_loadName_cell I.ok.kind hk hc hcell fin) hd
  ·exact wpAny_Name (wpAny_loadName_free I.ok.kind hk hc hcell fin hcd) hd
theorem zLY {i j pos} : PE X (.Constant (.int i) j pos) (tC (.int i)) := fun _ _ _ H _ I h => wpAny_Constant_int ⟨.int i, H, I.tok _, ⟨_, rfl⟩, h⟩
theorem pe_bl {b j pos} : PE X (.Constant (.bool b) j pos) (tC (.bl b)) := fun _ _ _ H _ I h => Constant_bool ⟨.bl b, H, I, rfl, h⟩
theorem zI7 {x j pos} : PE X (.Constant (.str x) j pos) (tC (.str x)) := fun _ _ _ H _ I h => Calls.Constant_str ⟨.str x, H, I.tok _, ⟨_, rfl⟩, h⟩
noncomputable def Gl (X : Cx) (x : Str) : Prop := X.env.kindOf x = some .globalImplicit
theorem zCi {E : Value -> Shared -> Prop} {pins : List (Addr × Obj)} {s : Shared} {σ : St} {H : Hp} {x : Str} {u : Value} {pos : Pos} {Q : Value -> Shared -> Prop} (I : Inv X pins σ H s) (hg : Gl X x) (hm : X.mg x = some u) (h : Q u s)
  (hd : (x == ("__debug__" : Str)) = false := by decide) : wpAny (model X.prog X.w) X.A (eval (.Name x pos) X.env) Q E s :=
 Calls.Name_function_global I.ok.kind hg (Calls.loadGlobal_global (by rw [I.ok.glob]; exact I.mod.glob.keeps I.bk) hm h) hd
theorem zBP {E : Value -> Shared -> Prop} {pins : List (Addr × Obj)} {s : Shared} {σ : St} {H : Hp} {x : Str} {u : Value} {pos : Pos} {Q : Value -> Shared -> Prop} (I : Inv X pins σ H s) (hg : Gl X x) (hm : X.mg x = none) (hv : bootBuiltins x = some u) (h : Q u s)
  (hn : x ≠ "__name__" := by decide) (hd : (x == ("__debug__" : Str)) = false := by decide) : wpAny (model X.prog X.w) X.A (eval (.Name x pos) X.env) Q E s := by
 obtain ⟨mb, h1, h2⟩ := I.mod.blt
 exact Calls.Name_function_global I.ok.kind hg (Calls.loadGlobal_builtin (by rw [I.ok.glob]; exact I.mod.glob.keeps I.bk) hm (by rw [I.ok.blt]; exact h1.keeps I.bk) ((h2 x hn).trans hv) h) hd
theorem zFx {x : Str} {v : V} {u : Value} {pos : Pos} (hg : Gl X x) (hm : X.mg x = some u) (r : RelV v u) (hd : (x == ("__debug__" : Str)) = false := by decide) : PE X (.Name x pos) (tC v) :=
 fun _ _ _ H _ I h => zCi I hg hm ⟨v, H, I, r, h⟩ hd
theorem zGE {x : Str} {v : V} {u : Value} {pos : Pos} (hg : Gl X x) (hm : X.mg x = none) (hv : bootBuiltins x = some u) (r : RelV v u) (hn : x ≠ "__name__" := by decide) (hd : (x == ("__debug__" : Str)) = false := by decide) : PE X (.Name x pos) (tC v) :=
 fun _ _ _ H _ I h => zBP I hg hm hv ⟨v, H, I, r, h⟩ hn hd
variable {a b : Expr} {ta tb : TE} {pos : Pos}
noncomputable def tB (t : TE) : TT := fun σ H Q => t σ H fun x H1 => ∃ c, x = .bl c /\ Q c H1
theorem zLL {e : Expr} {t : TE} (h : PE X e t) (he : ∀ whole, isTrue e X.env whole = (do let v <- whole; standAt e.pos; holding [v] (truthy v)) := by intro _; rfl) : PT X e (tB t) := by
 intro pins s σ H Q I hw
 refine isTrue_plain (thn (h pins s σ H _ I hw) fun v s1 ⟨x, H1, I1, r1, q1⟩ => ?_) (he _)
 obtain ⟨d, rfl, q⟩ := q1
 cases r1
 exact wpAny_truthy_bool ⟨H1, I1, q⟩
variable {tA tB' : TT} {rest : List Expr}
noncomputable def tOr (t u : TT) : TT := fun σ H Q => t σ H fun c H1 => if c = true then Q true H1 else u σ H1 Q
noncomputable def tNot (t : TT) : TT := fun σ H Q => t σ H fun c H1 => Q (!c) H1
theorem zJ7 (ha : PT X a tA) : PW X (.BoolOp .Or [a] pos) tA := by
 intro wh pins s σ H Q I h
 refine isTrue_or (thn (ha pins s σ H Q I h) fun c s1 e => ?_)
 cases c with
 | false => exact isTrue_or_nil e
 | true => exact e
theorem pw_or (ha : PT X a tA) (hb : PW X (.BoolOp .Or (b :: rest) pos) tB') : PW X (.BoolOp .Or (a :: b :: rest) pos) (tOr tA tB') := by
 intro wh pins s σ H Q I h
 refine isTrue_or (thn (ha pins s σ H _ I h) fun c s1 zz => ?_)
 obtain ⟨H1, I1, q1⟩ := zz
 cases c with
 | true => exact ⟨H1, I1, q1⟩
 | false => exact hb wh pins s1 σ H1 Q I1 q1
theorem zKa (ha : PT X a tA) : PT X (.UnaryOp .Not a pos) (tNot tA) := by
 intro pins s σ H Q I h
 exact isTrue_not (ha pins s σ H (fun c H1 => Q (!c) H1) I h)
noncomputable def tAndV (ta tb : TE) : TE := fun σ H Q => ta σ H fun x H1 => ∃ c, x = .bl c /\ if c = true then tb σ H1 Q else Q (.bl false) H1
noncomputable def tNotV (ta : TE) : TE := fun σ H Q => ta σ H fun x H1 => ∃ c, x = .bl c /\ Q (.bl (!c)) H1
theorem zJ1 {op} {t : TE} (h : PE X a t) : PE X (.BoolOp op [a] pos) t := fun pins s σ H Q I hw => BoolOp_one (h pins s σ H Q I hw)
theorem zLy (ha : PE X a ta) (hb : PE X (.BoolOp .And (b :: rest) pos) tb) : PE X (.BoolOp .And (a :: b :: rest) pos) (tAndV ta tb) := by
 intro pins s σ H Q I h
 refine BoolOp_and (thn (ha pins s σ H _ I h) fun v s1 zz => ?_)
 obtain ⟨x, H1, I1, r1, q1⟩ := zz
 obtain ⟨c, rfl, q1⟩ := q1
 cases r1
 refine wpAny_truthy_bool ?_
 cases c with
 | true => exact hb pins s1 σ H1 Q I1 q1
 | false => exact ⟨.bl false, H1, I1, rfl, q1⟩
theorem zNN (ha : PE X a ta) : PE X (.UnaryOp .Not a pos) (tNotV ta) := by
 intro pins s σ H Q I h
 refine UnaryOp_ (thn (ha pins s σ H _ I h) fun v s1 zz => ?_)
 obtain ⟨x, H1, I1, r1, q1⟩ := zz
 obtain ⟨c, rfl, q1⟩ := q1
 cases r1
 exact not_of (wpAny_truthy_bool ⟨.bl (!c), H1, I1, rfl, q1⟩)
noncomputable def tIf (t : TT) (ta tb : TE) : TE := fun σ H Q => t σ H fun c H1 => if c = true then ta σ H1 Q else tb σ H1 Q
theorem zKC {c : Expr} (hc : PT X c tA) (ha : PE X a ta) (hb : PE X b tb) : PE X (.IfExp c a b pos) (tIf tA ta tb) := by
 intro pins s σ H Q I h
 refine wpAny_IfExp (thn (hc pins s σ H _ I h) fun d s1 zz => ?_)
 obtain ⟨H1, I1, q1⟩ := zz
 cases d with
 | true => exact ha pins s1 σ H1 Q I1 q1
 | false => exact hb pins s1 σ H1 Q I1 q1
end
end L2
namespace L2
open PySem PySem.Spec PyProof.Rows
noncomputable def SqL (K : PySem.W.Frag) (H : Hp) (a : Addr) (xs : List V) : Prop :=
 Rd H a (.lst xs) ∨
  ∃ (o : Obj) (its : Array Value) (n : Nat), K.lookup a = some o /\ o.cls = .type "list" /\ o.dict = none /\ o.data = .seq its n /\ its.size <= sizeLine /\ Vals xs its.toList
noncomputable def SqT (K : PySem.W.Frag) (H : Hp) (a : Addr) (xs : List V) : Prop :=
 Rd H a (.tup xs) ∨
  ∃ (o : Obj) (its : Array Value) (n : Nat), K.lookup a = some o /\ o.cls = .type "tuple" /\ o.data = .seq its n /\ its.size <= sizeLine /\ Vals xs its.toList
noncomputable def absV : Value -> Option V
 | .none => some .non
 | .bool b => some (.bl b)
 | .int i _ => some (.int i)
 | .str x _ => some (.str x)
 | .bytes b _ => some (.byt b)
 | .float b _ => some (.flt b)
 | .ref a => some (.ref a)
 | .type n => some (.ty n)
 | _ => none
theorem RelV.abs {x : V} {u : Value} (r : RelV x u) : absV u = some x := by
 cases x with
 | non => cases r; rfl
 | bl _ => cases r; rfl
 | int _ => obtain ⟨t, rfl⟩ := r; rfl
 | str _ => obtain ⟨t, rfl⟩ := r; rfl
 | byt _ => obtain ⟨t, rfl⟩ := r; rfl
 | flt _ => obtain ⟨t, rfl⟩ := r; rfl
 | ref _ => cases r; rfl
 | ty _ => cases r; rfl
theorem RelV.inj {x y : V} {u : Value} (r : RelV x u) (q : RelV y u) : x = y := Option.some.inj (r.abs.symm.trans q.abs)
theorem Vals.inj : ∀ {xs ys : List V} {us : List Value}, Vals xs us -> Vals ys us -> xs = ys
 | _, _, _, .nil, .nil => rfl
 | _, _, _, .cons r t, .cons r' t' => by rw [r.inj r', Vals.inj t t']
section
variable {X : Cx} {pins : List (Addr × Obj)} {σ : St} {H : Hp} {s : Shared} {a : Addr} {xs ys : List V}
theorem SqL.of {K : PySem.W.Frag} (h : H a = some (.lst xs)) : SqL K H a xs := .inl (.inl h)
theorem Inv.list (I : Inv X pins σ H s) (h : SqL X.K H a xs) : ∃ its : List Value, Vals xs its /\ PlainL s.heap a its.toArray /\ xs.length <= sizeLine := by
 rcases h with h | ⟨o, its, n, hk, hc, hd, hs, hz, r⟩
 ·obtain ⟨z, its, n, r, e⟩ := h.ok I.hok
  exact ⟨its, r, ⟨_, n, e, rfl, rfl, rfl⟩, z⟩
 ·refine ⟨its.toList, r, ⟨o, n, I.kIn a o hk, hc, hd, by simpa using hs⟩, ?_⟩
  have e := r.length
  simp only [Array.length_toList] at e
  omega
theorem Inv.tuple (I : Inv X pins σ H s) (h : SqT X.K H a xs) : ∃ its : List Value, Vals xs its /\ IsTup s.heap a its.toArray /\ xs.length <= sizeLine := by
 rcases h with h | ⟨o, its, n, hk, hc, hs, hz, r⟩
 ·obtain ⟨z, its, r, p⟩ := h.ok I.hok
  exact ⟨its, r, p, z⟩
 ·refine ⟨its.toList, r, ⟨o, I.kIn a o hk, hc, n, by simpa using hs⟩, ?_⟩
  have e := r.length
  simp only [Array.length_toList] at e
  omega
theorem Inv.list_inj (I : Inv X pins σ H s) (h : SqL X.K H a xs) (h' : SqL X.K H a ys) : xs = ys := by
 obtain ⟨its, r, ⟨o, n, e, _, _, d⟩, _⟩ := I.list h
 obtain ⟨its', r', ⟨o', n', e', _, _, d'⟩, _⟩ := I.list h'
 rw [e] at e'; cases e'
 rw [d] at d'
 injection d' with d1 _
 have : its = its' := by simpa using congrArg Array.toList d1
 subst this
 exact r.inj r'
theorem Inv.tuple_inj (I : Inv X pins σ H s) (h : SqT X.K H a xs) (h' : SqT X.K H a ys) : xs = ys := by
 obtain ⟨its, r, ⟨o, e, _, n, d⟩, _⟩ := I.tuple h
 obtain ⟨its', r', ⟨o', e', _, n', d'⟩, _⟩ := I.tuple h'
 rw [e] at e'; cases e'
 rw [d] at d'
 injection d' with d1 _
 have : its = its' := by simpa using congrArg Array.toList d1
 subst this
 exact r.inj r'
end
abbrev Cx.wish (X : Cx) (E : Value -> Shared -> Prop) : Cx := { X with xe := E }
abbrev Cx.nox (X : Cx) : Cx := X.wish fun _ _ => False
theorem Cx.Ok.wish {X : Cx} (ok : X.Ok) (E : Value -> Shared -> Prop) : (X.wish E).Ok :=
 ⟨ok.mod, ok.kind, ok.glob, ok.blt, ok.above, ok.inj, ok.has, ok.cab, ok.hd, ok.frames, ok.stk, ok.exf, ok.bs, ok.bsz, ok.noex, ok.exfs, ok.funs, ok.frf⟩
theorem Cx.Ok.unwish {X : Cx} {E : Value -> Shared -> Prop} (ok : (X.wish E).Ok) : X.Ok :=
 ⟨ok.mod, ok.kind, ok.glob, ok.blt, ok.above, ok.inj, ok.has, ok.cab, ok.hd, ok.frames, ok.stk, ok.exf, ok.bs, ok.bsz, ok.noex, ok.exfs, ok.funs, ok.frf⟩
section
variable {X : Cx} {pins : List (Addr × Obj)} {σ : St} {H : Hp} {s : Shared} {E : Value -> Shared -> Prop}
theorem Inv.wish (I : Inv X pins σ H s) (E : Value -> Shared -> Prop) : Inv (X.wish E) pins σ H s := ⟨I.ok.wish E, I.os, I.bare, I.base, I.loc, I.cell, I.free, I.freeC, I.pin, I.hok, I.len⟩
theorem Inv.unwish (I : Inv (X.wish E) pins σ H s) : Inv X pins σ H s := ⟨I.ok.unwish, I.os, I.bare, I.base, I.loc, I.cell, I.free, I.freeC, I.pin, I.hok, I.len⟩
theorem SP.unwish {D : Ends} {f : Flow} {s' : Shared} (h : SP (X.wish E) pins D f s') : SP X pins D f s' := by
 cases f with
 | next => obtain ⟨σ', H', I, q⟩ := h; exact ⟨σ', H', I.unwish, q⟩
 | brk => obtain ⟨σ', H', I, q⟩ := h; exact ⟨σ', H', I.unwish, q⟩
 | cont => obtain ⟨σ', H', I, q⟩ := h; exact ⟨σ', H', I.unwish, q⟩
 | ret u => obtain ⟨v, σ', H', I, r, q⟩ := h; exact ⟨v, σ', H', I.unwish, r, q⟩
theorem PSs.nox {st : List Stmt} {t : TS} (h : PSs X.nox st t) : PSs X st t := fun pins s σ H D I hw =>
 wpAny_mono (h pins s σ H D (I.wish _) hw) (fun _ _ q => q.unwish) fun _ _ z => False.elim z
end
section
variable {X : Cx} {st : Stmt} {rest : List Stmt} {t u : TS} {e : Expr} {te : TE} {pos : Pos}
noncomputable def tNext : TS := fun D σ H => D.nx σ H
noncomputable def tSeq (t u : TS) : TS := fun D σ H => t { D with nx := u D } σ H
theorem zJw : PSs X [] tNext := fun _ _ σ H _ I h => wpAny_execs_nil ⟨σ, H, I, h⟩
theorem zKW (h1 : PS X st t) (h2 : PSs X rest u) : PSs X (st :: rest) (tSeq t u) := by
 intro pins s σ H D I h
 refine wpAny_execs_cons (thn (h1 pins s σ H { D with nx := u D } I h) fun f s1 q => ?_)
 cases f with
 | next =>
  obtain ⟨σ', H', I', q⟩ := q
  exact h2 pins s1 σ' H' D I' q
 | ret v => exact q
 | brk => exact q
 | cont => exact q
theorem zHj (h1 : PS X st t) : PSs X [st] t := by
 intro pins s σ H D I h
 refine wpAny_execs_cons (thn (h1 pins s σ H D I h) fun f s1 q => ?_)
 cases f with
 | next => exact wpAny_execs_nil q
 | ret v => exact q
 | brk => exact q
 | cont => exact q
theorem Inv.quiet {pins : List (Addr × Obj)} {σ : St} {H : Hp} {s : Shared} (I : Inv X pins σ H s) : interactive X.env = false := by simp [interactive, I.ok.kind]
noncomputable def tDrop (te : TE) : TS := fun D σ H => te σ H fun _ H1 => D.nx σ H1
theorem zHu (he : PE X e te) (hs : swapsWith e none pos.line X.env = pure false := by rfl) : PS X (.Expr e pos) (tDrop te) := by
 intro pins s σ H D I h
 exact wpAny_Expr_any (thn (he pins s σ H _ I h) fun v s1 ⟨x, H1, I1, r1, q1⟩ => ⟨σ, H1, I1, q1⟩) I.quiet hs
noncomputable def tRet (te : TE) : TS := fun D σ H => te σ H D.rt
theorem zEI (he : PE X e te) : PS X (.Return (some e) pos) (tRet te) := by
 intro pins s σ H D I h
 exact wpAny_Return_some (thn (he pins s σ H _ I h) fun v s1 ⟨x, H1, I1, r1, q1⟩ => ⟨x, σ, H1, I1, r1, q1⟩)
noncomputable def tIfS (c : TT) (t u : TS) : TS := fun D σ H => c σ H fun b H1 => if b = true then t D σ H1 else u D σ H1
theorem ps_if {c : Expr} {a b : List Stmt} {tc : TT} (hc : PT X c tc) (ha : PSs X a t) (hb : PSs X b u) : PS X (.If c a b pos) (tIfS tc t u) := by
 intro pins s σ H D I h
 refine wpAny_If (thn (hc pins s σ H _ I h) fun d s1 zz => ?_)
 obtain ⟨H1, I1, q1⟩ := zz
 cases d with
 | true => exact ha pins s1 σ H1 D I1 q1
 | false => exact hb pins s1 σ H1 D I1 q1
end
abbrev TG := V -> St -> Hp -> (St -> Hp -> Prop) -> Prop
abbrev TGs := List V -> St -> Hp -> (St -> Hp -> Prop) -> Prop
noncomputable def PG (X : Cx) (target : Expr) (t : TG) : Prop :=
 ∀ (pins : List (Addr × Obj)) (s : Shared) (σ : St) (H : Hp) (v : V) (u : Value) (Q : St -> Hp -> Prop), Inv X pins σ H s -> RelV v u -> t v σ H Q ->
  wpAny (model X.prog X.w) X.A (assign target X.env u) (fun _ s' => ∃ σ' H', Inv X pins σ' H' s' /\ Q σ' H') X.xe s
noncomputable def PGs (X : Cx) (ts : List Expr) (t : TGs) : Prop :=
 ∀ (pins : List (Addr × Obj)) (s : Shared) (σ : St) (H : Hp) (vs : List V) (us : List Value) (Q : St -> Hp -> Prop), Inv X pins σ H s -> Vals vs us -> t vs σ H Q ->
  wpAny (model X.prog X.w) X.A (assignInOrder ((assignEach ts X.env).map (·.2)) us) (fun _ s' => ∃ σ' H', Inv X pins σ' H' s' /\ Q σ' H') X.xe s
section
variable {X : Cx} {pos : Pos}
noncomputable def zDJ (i : Nat) : TG := fun v σ H Q => Q (σ.set i (some v)) H
theorem zMD {i : Nat} {x : Str} (hN : X.N.Nodup) (hi : X.N[i]? = some x) (hx : Loc X.env.scope x) (hf : X.fn x = true ∨ X.env.scope.names.lookup x = some .local := by first | exact .inl rfl | exact .inr rfl | assumption) : PG X (.Name x pos) (zDJ i) := by
 intro pins s σ H v u Q I r h
 exact wpAny_assign_Name (zFG I hN hi hx r (fun s' I' => ⟨_, H, I', h⟩) hf)
noncomputable def gNil : TGs := fun vs σ H Q => vs = [] /\ Q σ H
noncomputable def gCons (t : TG) (u : TGs) : TGs := fun vs σ H Q => ∃ v r, vs = v :: r /\ t v σ H fun σ' H' => u r σ' H' Q
theorem zLz : PGs X [] gNil := by
 intro pins s σ H vs us Q I r h
 obtain ⟨e, h⟩ := h
 subst e
 cases r
 exact assignInOrder_nil ⟨σ, H, I, h⟩
theorem zKy {e : Expr} {es : List Expr} {t : TG} {u : TGs} (h1 : PG X e t) (h2 : PGs X es u)
  (hs : (assignEach (e :: es) X.env).map (·.2) = assign e X.env :: (assignEach es X.env).map (·.2) := by rfl) : PGs X (e :: es) (gCons t u) := by
 intro pins s σ H vs us Q I r h
 obtain ⟨v, vr, e1, h⟩ := h
 subst e1
 cases r with
 | cons r rr =>
  rw [hs]
  refine assignInOrder_cons (thn (h1 pins s σ H _ _ _ I r h) fun _ s1 zz => ?_)
  obtain ⟨σ1, H1, I1, q1⟩ := zz
  exact h2 pins s1 σ1 H1 _ _ Q I1 rr q1
noncomputable def gTup (K : PySem.W.Frag) (n : Nat) (t : TGs) : TG := fun v σ H Q => ∃ a xs, v = .ref a /\ SqT K H a xs /\ xs.length = n /\ t xs σ H Q
theorem zMU {es : List Expr} {k : Nat} {t : TGs} {n : Nat} (hc : X.calm = true) (h : PGs X es t)
  (hn : (assignEach es X.env).length = n := by rfl) (hst : (assignEach es X.env).findIdx? (·.1) = none := by rfl) : PG X (.Tuple es k pos) (gTup X.K n t) := by
 intro pins s σ H v u Q I r hw
 obtain ⟨a, xs, e1, hq, hl, hw⟩ := hw
 subst e1
 cases r
 obtain ⟨its, rv, ht, hz⟩ := I.tuple hq
 refine assign_Tuple_tuple (I.ok.hd hc) ht (by simp [hn, <- hl, rv.length]) hst fun h' hx => ?_
 have I1 : Inv X pins σ H { s with heap := h' } := I.kept (t' := s.toks) fun b o e => hx b o (Nat.ne_of_lt (Heap.lt_size e)) e
 exact h pins _ σ H xs _ Q I1 (by simpa using rv) hw
noncomputable def tAsg (te : TE) (g : TG) : TS := fun D σ H => te σ H fun x H1 => g x σ H1 D.nx
theorem zDP {i : Nat} {x : Str} {e : Expr} {te : TE} {pos' : Pos} (hN : X.N.Nodup) (hi : X.N[i]? = some x) (hx : Loc X.env.scope x) (he : PE X e te) (hs : swapsWith e (some (.Name x pos')) pos.line X.env = pure false := by rfl) (hf : X.fn x = true ∨ X.env.scope.names.lookup x = some .local := by first | exact .inl rfl | exact .inr rfl | assumption) :
  PS X (.Assign [.Name x pos'] e pos) (tAsg te (zDJ i)) := by
 intro pins s σ H D I h
 refine wpAny_Assign_Name (thn (he pins s σ H _ I h) fun v s1 ⟨y, H1, I1, r1, q1⟩ => ?_) hs
 exact zFG I1 hN hi hx r1 (fun s2 I2 => ⟨_, H1, I2, q1⟩) hf
end
section
variable {X : Cx} {pos : Pos}
end
structure It where
 go : Nat -> Hp -> Prop
 yld : Nat -> Hp -> V -> Hp -> Prop
 stop : Nat -> Hp -> Prop
noncomputable def FpOk (X : Cx) (pins : List (Addr × Obj)) (H : Hp) (b : Addr) : Prop :=
 H b = none /\ b ≠ X.env.locals /\ b ∉ X.fs /\ (b ∈ X.ex ∨ X.s₀.heap.objs.size <= b) /\ (∀ x c, X.env.cells.lookup x = some c -> c ≠ b) /\ ∀ p ∈ X.pn ++ pins, p.1 ≠ b
theorem Inv.fpOk {X : Cx} {pins : List (Addr × Obj)} {σ : St} {H H' : Hp} {s : Shared} {b : Addr} (I : Inv X pins σ H s) (hb : s.heap.objs.size <= b) (hn : H' b = none) : FpOk X pins H' b := by
 refine ⟨hn, Nat.ne_of_gt (Nat.lt_of_lt_of_le I.lt hb), I.nofs hb, .inr (Nat.le_trans I.sz hb), fun x c e z => ?_, fun p hp z => ?_⟩
 ·obtain ⟨v, q⟩ := I.cell x c e
  exact absurd (Nat.lt_of_lt_of_le q.lt (by rw [z]; exact hb)) (Nat.lt_irrefl _)
 ·exact absurd (Nat.lt_of_lt_of_le (Heap.lt_size (I.pin p hp).1) (by rw [z]; exact hb)) (Nat.lt_irrefl _)
structure Turn (P : Program) (w : World) (K : PySem.W.Frag) (tg : Expr) (J : It) (fp : List Addr) (it : Addr) (tn : Nat -> Heap -> Prop) : Prop where
 mem : it ∈ fp
 obj : ∀ i h, tn i h -> ∀ b ∈ fp, ∃ o, h.get? b = some o /\ ∀ v, o.data ≠ .cell v
 keep : ∀ i h h', tn i h -> (∀ b ∈ fp, ∀ o, h.get? b = some o -> h'.get? b = some o) -> tn i h'
 item : ∀ (X : Cx), X.prog = P -> X.w = w -> X.K = K -> X.calm = true -> ∀ (i : Nat) (pins : List (Addr × Obj)) (s : Shared) (σ : St) (H : Hp) (E : Value -> Shared -> Prop), Inv X pins σ H s -> (∀ b ∈ fp, FpOk X pins H b) -> tn i s.heap -> J.go i H ->
  wpAny (model P w) X.A (pyNext (.ref it)) (fun r s1 => ∃ u, r = some u /\
   wpAny (model P w) X.A (letOwnedTupleGo tg (.ref it) u) (fun _ s2 => ∃ x H', Inv X pins σ H' s2 /\ RelV x u /\ J.yld i H x H' /\ tn (i + 1) s2.heap /\ ∀ b ∈ fp, H' b = none) E s1) E s
 done : ∀ (X : Cx), X.prog = P -> X.w = w -> X.K = K -> X.calm = true -> ∀ (i : Nat) (pins : List (Addr × Obj)) (s : Shared) (σ : St) (H : Hp) (E : Value -> Shared -> Prop), Inv X pins σ H s -> (∀ b ∈ fp, FpOk X pins H b) -> tn i s.heap -> J.stop i H ->
  wpAny (model P w) X.A (pyNext (.ref it)) (fun r s1 => r = none /\ Inv X pins σ H s1) E s
 self : ∀ (A : Around) (i : Nat) (s : Shared) (Q : Value -> Shared -> Prop) (E : Value -> Shared -> Prop), tn i s.heap -> Q (.ref it) s -> wpAny (model P w) A (pyIter (.ref it)) Q E s
abbrev TI := St -> Hp -> (It -> Hp -> Prop) -> Prop
noncomputable def PIE (X : Cx) (pins : List (Addr × Obj)) (σ : St) (tg : Expr) (R : It -> Hp -> Prop) (itv : Value) (s2 : Shared) : Prop :=
 ∃ (it : Addr) (fp : List Addr) (tn : Nat -> Heap -> Prop) (J : It) (H' : Hp), itv = .ref it /\ Inv X pins σ H' s2 /\ Turn X.prog X.w X.K tg J fp it tn /\ tn 0 s2.heap /\ (∀ b ∈ fp, FpOk X pins H' b) /\ R J H'
noncomputable def PI (X : Cx) (tg iter : Expr) (wi : TI) : Prop :=
 ∀ (pins : List (Addr × Obj)) (s : Shared) (σ : St) (H : Hp) (R : It -> Hp -> Prop), Inv X pins σ H s -> wi σ H R ->
  wpAny (model X.prog X.w) X.A (eval iter X.env) (fun v s1 => wpAny (model X.prog X.w) X.A (pyIter v) (PIE X pins σ tg R) X.xe s1) X.xe s
theorem zFi {M : Model} {A : Around} {E : Value -> Shared -> Prop} {s : Shared} {tg : Expr} {it : Addr} {u : Value} {o : Obj} {n : String} {vs : Array Value} {Q : Unit -> Shared -> Prop} (ho : s.heap.get? it = some o) (hc : o.cls = .type n) (hd : o.data = .fields vs)
  (hn : ["enumerate", "zip", "dict_itemiterator", "dict_reverseitemiterator", "odict_iterator", "itertools.zip_longest", "itertools.pairwise"].contains n = false) (hQ : Q () s) : wpAny M A (letOwnedTupleGo tg (.ref it) u) Q E s := by
 unfold letOwnedTupleGo
 cases tg <;> first
  | exact wpAny_pure hQ
  | (cases u <;> first
    | exact wpAny_pure hQ
    | (refine wpAny_bind (wpAny_load ho ?_)
       rw [hc, hd]
       show wpAny M A (if (["enumerate", "zip", "dict_itemiterator", "dict_reverseitemiterator", "odict_iterator", "itertools.zip_longest", "itertools.pairwise"].contains n && vs[0]? == some (rawInt _)) = true then _ else _) Q E s
       rw [if_neg (by intro h; rw [hn, Bool.false_and] at h; cases h)]
       exact wpAny_pure hQ))
noncomputable def Itl (K : PySem.W.Frag) (a : Addr) : It :=
 ⟨fun i H => ∃ xs x, SqL K H a xs /\ xs[i]? = some x, fun i H x H' => H' = H /\ ∀ xs, SqL K H a xs -> xs[i]? = some x, fun i H => ∃ xs, SqL K H a xs /\ xs.length <= i⟩
noncomputable def Itt (K : PySem.W.Frag) (a : Addr) : It :=
 ⟨fun i H => ∃ xs x, SqT K H a xs /\ xs[i]? = some x, fun i H x H' => H' = H /\ ∀ xs, SqT K H a xs -> xs[i]? = some x, fun i H => ∃ xs, SqT K H a xs /\ xs.length <= i⟩
noncomputable def Itr (lo : Int) (n : Nat) : It := ⟨fun i _ => i < n, fun i H x H' => H' = H /\ x = .int (lo + i), fun i _ => n <= i⟩
theorem zOy {P : Program} {w : World} {K : PySem.W.Frag} {tg : Expr} (a it : Addr) : Turn P w K tg (Itl K a) [it] it (fun i h => h.IsListIter it a i) where
 mem := by simp
 obj := fun i h st b hb => by
  have e : b = it := by simpa using hb
  subst e
  obtain ⟨o, e, c, d⟩ := st
  exact ⟨o, e, fun v z => by rw [d] at z; cases z⟩
 keep := fun i h h' st k => st.at fun o e => k it (by simp) o e
 item := by
  intro X hP hw hK hc i pins s σ H E I hf st hg
  subst hP hw hK
  obtain ⟨xs, x, hq, hx⟩ := hg
  obtain ⟨its, rv, p, hz⟩ := I.list hq
  obtain ⟨u, hu, ru⟩ := rv.get hx
  obtain ⟨f0, f1, f2, f3, f4, f5⟩ := hf it (by simp)
  refine wpAny_pyNext_list_item st p.isList (x := u) (by simpa using hu) fun h' st' sb => ?_
  have I1 : Inv X pins σ H { s with heap := h' } := I.turned (t' := s.toks) (fun b o hb e => (sb.2 b hb).trans e) f0 f1 f3 f4 f5
  obtain ⟨o, e, c, d⟩ := id st'
  exact ⟨u, rfl, zFi (s := { s with heap := h' }) e c d (by decide) ⟨x, H, I1, ru, ⟨rfl, fun ys hy => by rw [I.list_inj hy hq]; exact hx⟩, st', fun b hb => (hf b hb).1⟩⟩
 done := by
  intro X hP hw hK hc i pins s σ H E I hf st hg
  subst hP hw hK
  obtain ⟨xs, hq, hx⟩ := hg
  obtain ⟨its, rv, p, hz⟩ := I.list hq
  obtain ⟨f0, f1, f2, f3, f4, f5⟩ := hf it (by simp)
  have hl := rv.length
  exact wpAny_pyNext_list_end (I.ok.hd hc) st p.isList (by simp; omega) fun h' eb => ⟨rfl, I.turned (t' := s.toks) (fun b o hb e => eb b o hb e) f0 f1 f3 f4 f5⟩
 self := fun _ _ _ _ _ st h => wpAny_pyIter_listiter st h
theorem zKg {P : Program} {w : World} {K : PySem.W.Frag} {tg : Expr} (a it : Addr) : Turn P w K tg (Itt K a) [it] it (fun i h => h.IsTupleIter it a i) where
 mem := by simp
 obj := fun i h st b hb => by
  have e : b = it := by simpa using hb
  subst e
  obtain ⟨o, e, c, d⟩ := st
  exact ⟨o, e, fun v z => by rw [d] at z; cases z⟩
 keep := fun i h h' st k => st.at fun o e => k it (by simp) o e
 item := by
  intro X hP hw hK hc i pins s σ H E I hf st hg
  subst hP hw hK
  obtain ⟨xs, x, hq, hx⟩ := hg
  obtain ⟨its, rv, p, hz⟩ := I.tuple hq
  obtain ⟨u, hu, ru⟩ := rv.get hx
  obtain ⟨f0, f1, f2, f3, f4, f5⟩ := hf it (by simp)
  refine wpAny_pyNext_tuple_item st (show s.heap.IsTuple a its.toArray from p) (x := u) (by simpa using hu) fun h' st' sb => ?_
  have I1 : Inv X pins σ H { s with heap := h' } := I.turned (t' := s.toks) (fun b o hb e => (sb.2 b hb).trans e) f0 f1 f3 f4 f5
  obtain ⟨o, e, c, d⟩ := id st'
  exact ⟨u, rfl, zFi (s := { s with heap := h' }) e c d (by decide) ⟨x, H, I1, ru, ⟨rfl, fun ys hy => by rw [I.tuple_inj hy hq]; exact hx⟩, st', fun b hb => (hf b hb).1⟩⟩
 done := by
  intro X hP hw hK hc i pins s σ H E I hf st hg
  subst hP hw hK
  obtain ⟨xs, hq, hx⟩ := hg
  obtain ⟨its, rv, p, hz⟩ := I.tuple hq
  obtain ⟨f0, f1, f2, f3, f4, f5⟩ := hf it (by simp)
  have hl := rv.length
  exact wpAny_pyNext_tuple_end (I.ok.hd hc) st (show s.heap.IsTuple a its.toArray from p) (by simp; omega) fun h' eb => ⟨rfl, I.turned (t' := s.toks) (fun b o hb e => eb b o hb e) f0 f1 f3 f4 f5⟩
 self := fun _ _ _ _ _ st h => wpAny_pyIter_tupleiter st h
theorem zLs {P : Program} {w : World} {K : PySem.W.Frag} {tg : Expr} (it : Addr) (lo : Int) (n : Nat) : Turn P w K tg (Itr lo n) [it] it (fun i h => IsRangeIter h it (lo + (i : Nat) * 1) ((n : Int) - (i : Nat)) 1) where
 mem := by simp
 obj := fun i h st b hb => by
  have e : b = it := by simpa using hb
  subst e
  exact ⟨_, st, fun v z => by
   have z' : Data.fields _ = Data.cell v := z
   cases z'⟩
 keep := fun i h h' st k => k it (by simp) _ st
 item := by
  intro X hP hw hK hc i pins s σ H E I hf st hg
  subst hP hw hK
  obtain ⟨f0, f1, f2, f3, f4, f5⟩ := hf it (by simp)
  have W := Walks.range (prog := X.prog) (w := X.w) (I.ok.hd hc) it lo 1 n
  refine W.item i s _ _ hg st fun v h' tk hv st' kk => ?_
  obtain ⟨t, rfl⟩ := hv
  have I1 : Inv X pins σ H { s with heap := h', toks := tk } := I.turned (fun b o hb e => kk b o (by simpa using hb) e) f0 f1 f3 f4 f5
  refine ⟨_, rfl, zFi (s := { s with heap := h', toks := tk }) (n := "range_iterator") st' rfl rfl (by decide) ⟨.int (lo + i), H, I1, ⟨t, ?_⟩, ⟨rfl, rfl⟩, st', fun b hb => (hf b hb).1⟩⟩
  rw [Int.mul_one]
 done := by
  intro X hP hw hK hc i pins s σ H E I hf st hg
  subst hP hw hK
  obtain ⟨f0, f1, f2, f3, f4, f5⟩ := hf it (by simp)
  exact wpAny_pyNext_range_end (I.ok.hd hc) st (by have : n <= i := hg; omega) fun h' eb => ⟨rfl, I.turned (t' := s.toks) (fun b o hb e => eb b o hb e) f0 f1 f3 f4 f5⟩
 self := fun _ _ _ _ _ st h => wpAny_pyIter_rangeiter st h
end L2
namespace L2
open PySem PySem.Spec PyProof.Rows
section
variable {X : Cx} {tg : Expr}
theorem zKD {pins : List (Addr × Obj)} {σ : St} {H : Hp} {s : Shared} {R : It -> Hp -> Prop} {E : Value -> Shared -> Prop} {lo hi : Int} {t u v : Tok} {tk : Nat} (I : Inv X pins σ H s) (h1 : -(2 ^ 62) <= lo) (h2 : lo < 2 ^ 62) (h3 : -(2 ^ 62) <= hi) (h4 : hi < 2 ^ 62)
  (q : R (Itr lo (hi - lo).toNat) H) : wpAny (model X.prog X.w) X.A (pyIter (.ref s.heap.objs.size)) (PIE X pins σ tg R) E { s with heap := s.heap.push { cls := .type "range", data := .fields #[.int lo t, .int hi u, .int 1 v] }, toks := tk } := by
 refine wpAny_pyIter_range (IsRange.new ..) (small_one h1 h2 h3 h4) ?_
 have I1 : Inv X pins σ H { s with heap := s.heap.push { cls := .type "range", data := .fields #[.int lo t, .int hi u, .int 1 v] }, toks := tk } := I.kept fun b o e => Heap.get?_push_of_some _ e
 refine ⟨(s.heap.push { cls := .type "range", data := .fields #[.int lo t, .int hi u, .int 1 v] }).objs.size, [(s.heap.push { cls := .type "range", data := .fields #[.int lo t, .int hi u, .int 1 v] }).objs.size], _, _, H, rfl,
  I1.kept (t' := tk) fun b o e => Heap.get?_push_of_some _ e, zLs _ lo (hi - lo).toNat, ?_, fun b hb => ?_, q⟩
 ·have e1 : lo + ((0 : Nat) : Int) * 1 = lo := by simp
  have e2 : (((hi - lo).toNat : Nat) : Int) - ((0 : Nat) : Int) = Builtin.Range.rangeSize lo hi 1 := by rw [rangeSize_one]; split <;> omega
  show IsRangeIter _ _ (lo + ((0 : Nat) : Int) * 1) ((((hi - lo).toNat : Nat) : Int) - ((0 : Nat) : Int)) 1
  rw [e1, e2]
  exact Heap.get?_push_size _ rfl
 ·have e : b = (s.heap.push { cls := .type "range", data := .fields #[.int lo t, .int hi u, .int 1 v] }).objs.size := by simpa using hb
  subst e
  exact I1.fpOk (Nat.le_refl _) (I1.hok.fresh (Nat.le_refl _))
noncomputable def zAR (ta : TA) : TI := fun σ H R => ta σ H fun vs H1 => ∃ j : Int, vs = [.int j] /\ -(2 ^ 62) <= j /\ j < 2 ^ 62 /\ R (Itr 0 j.toNat) H1
theorem zJJ {a : Expr} {ta : TA} {p pos : Pos} (hg : Gl X "range") (hm : X.mg "range" = none) (ha : PA X [a] ta) (hs : starEach [a] X.env = [(false, eval a X.env)] := by rfl) : PI X tg (.Call (.Name "range" p) [a] [] pos) (zAR ta) := by
 intro pins s σ H R I h
 refine Call_ (zBP I hg hm boot_range (PyProof.Rows.callWith_type1 (thn (ha pos pins s σ H _ I h) fun us s1 ⟨vs, H1, I1, r1, q1⟩ => ?_) hs rfl))
 obtain ⟨j, e, q1, q2, q⟩ := q1
 subst e
 cases r1 with
 | cons r rr =>
  cases rr
  obtain ⟨t, rfl⟩ := r
  exact call_range_1 (zKD I1 (by omega) (by omega) q1 q2 (by simpa using q))
noncomputable def tFor (wi : TI) (g : TG) (tb : TS) : TS := fun D σ H => wi σ H fun J H1 => ∃ W : Nat -> Nat -> St -> Hp -> Prop, (∃ m, W 0 m σ H1) /\ ∀ i m σ H, W i m σ H ->
 (J.stop i H /\ D.nx σ H) ∨ (J.go i H /\ ∃ N : St -> Hp -> Prop, (∀ σ' H', N σ' H' -> ∃ m', m' < m /\ W (i + 1) m' σ' H') /\ ∀ x H', J.yld i H x H' -> g x σ H' fun σ2 H2 => tb { D with nx := N, ct := N, bk := D.nx } σ2 H2)
noncomputable def zB6 (fp : List Addr) (h : Heap) : List (Addr × Obj) := fp.filterMap fun b => (h.get? b).map fun o => (b, o)
theorem zB8 {fp : List Addr} {h : Heap} {b : Addr} {o : Obj} (hb : b ∈ fp) (e : h.get? b = some o) : (b, o) ∈ zB6 fp h := List.mem_filterMap.mpr ⟨b, hb, by rw [e]; rfl⟩
theorem zK0 {fp : List Addr} {h : Heap} {p : Addr × Obj} (hp : p ∈ zB6 fp h) : p.1 ∈ fp /\ h.get? p.1 = some p.2 := by
 obtain ⟨b, hb, e⟩ := List.mem_filterMap.mp hp
 cases q : h.get? b with
 | none => rw [q] at e; cases e
 | some o =>
  rw [q] at e
  have e' : (b, o) = p := Option.some.inj e
  subst e'
  exact ⟨hb, q⟩
theorem Inv.pinned {pins : List (Addr × Obj)} {σ : St} {H : Hp} {s : Shared} {fp : List Addr} (I : Inv X pins σ H s) (hf : ∀ b ∈ fp, FpOk X pins H b) (ho : ∀ b ∈ fp, ∃ o, s.heap.get? b = some o /\ ∀ v, o.data ≠ .cell v) : Inv X (pins ++ zB6 fp s.heap) σ H s :=
 I.pins_of fun p hp => (List.mem_append.mp hp).elim (fun z => I.pin p (List.mem_append_right _ z)) fun z => by
  obtain ⟨hb, e⟩ := zK0 z
  obtain ⟨f0, f1, f2, _⟩ := hf p.1 hb
  obtain ⟨o, e', d⟩ := ho p.1 hb
  rw [e] at e'; cases e'
  exact ⟨e, f0, f1, f2, d⟩
theorem Inv.unpinned {pins pl : List (Addr × Obj)} {σ : St} {H : Hp} {s : Shared} (I : Inv X (pins ++ pl) σ H s) : Inv X pins σ H s := I.pins_of fun p hp => I.pin p (List.mem_append_right _ (List.mem_append_left _ hp))
theorem zJR {iter : Expr} {body : List Stmt} {wi : TI} {g : TG} {tb : TS} {pos : Pos} (hp : PassesOwn (model X.prog X.w) X.A X.env X.xe) (hc : X.calm = true) (hi : PI X tg iter wi) (hg : PG X tg g) (hb : PSs X body tb)
  (hs : ∀ x, foldedSetIterable iter X.env x = pure x := by intro _; rfl) : PS X (.For tg iter body [] pos) (tFor wi g tb) := by
 intro pins s σ H D I h
 refine wpAny_For (thn (hi pins s σ H _ I h) fun v s1 h1 => thn h1 fun itv s2 h2 => ?_) hs
 obtain ⟨it, fp, tn, J, H2, e, I2, T, st2, f2, W, ⟨m0, w0⟩, turn⟩ := h2
 subst e
 have stat : ∀ {H' : Hp}, (∀ b ∈ fp, H' b = none) -> ∀ b ∈ fp, FpOk X pins H' b := fun hn b hb => ⟨hn b hb, (f2 b hb).2⟩
 refine codeAny_forLoop_any (fun n s' => ∃ i σ' H', Inv X pins σ' H' s' /\ tn i s'.heap /\ (∀ b ∈ fp, H' b = none) /\ W i n σ' H') ?_ m0 ⟨0, σ, H2, I2, st2, fun b hb => (f2 b hb).1, w0⟩
 rintro n s3 ⟨i, σ3, H3, I3, st3, fr3, w3⟩
 rcases turn i n σ3 H3 w3 with ⟨stop, qn⟩ | ⟨go, N, hN, step⟩
 ·refine wpAny_passesOwn hp (thn (T.done X rfl rfl rfl hc i pins s3 σ3 H3 X.xe I3 (stat fr3) st3 stop) fun r s4 zz => ?_)
  obtain ⟨hr, I4⟩ := zz
  subst hr
  exact wpAny_execs_nil ⟨σ3, H3, I4, qn⟩
 ·refine wpAny_passesOwn hp (thn (T.item X rfl rfl rfl hc i pins s3 σ3 H3 X.xe I3 (stat fr3) st3 go) fun r s4 zz => ?_)
  obtain ⟨u, hr, h4⟩ := zz
  subst hr
  refine wpAny_passesOwn hp (thn h4 fun _ s5 zz => ?_)
  obtain ⟨x, H5, I5, r5, y5, st5, fr5⟩ := zz
  have I5' := I5.pinned (stat fr5) (T.obj _ _ st5)
  refine wpAny_passesOwn hp (thn (hg _ s5 σ3 H5 x u _ I5' r5 (step x H5 y5)) fun _ s6 zz => ?_)
  obtain ⟨σ6, H6, I6, q6⟩ := zz
  refine wpAny_passesOwn hp (thn (hb _ s6 σ6 H6 _ I6 q6) fun f s7 q7 => ?_)
  have again : ∀ {σ7 : St} {H7 : Hp}, Inv X (pins ++ zB6 fp s5.heap) σ7 H7 s7 -> N σ7 H7 -> ∃ m, m < n /\ ∃ i σ' H', Inv X pins σ' H' s7 /\ tn i s7.heap /\ (∀ b ∈ fp, H' b = none) /\ W i m σ' H' := fun {σ7 H7} I7 n7 => by
   obtain ⟨m', hm, w7⟩ := hN σ7 H7 n7
   refine ⟨m', hm, i + 1, σ7, H7, I7.unpinned, T.keep _ _ _ st5 fun b hb o e => (I7.pin (b, o) (List.mem_append_right _ (List.mem_append_right _ (zB8 hb e)))).1, fun b hb => ?_, w7⟩
   obtain ⟨o, e, d⟩ := T.obj _ _ st5 b hb
   exact (I7.pin (b, o) (List.mem_append_right _ (List.mem_append_right _ (zB8 hb e)))).2.1
  cases f with
  | next => obtain ⟨σ7, H7, I7, n7⟩ := q7; exact again I7 n7
  | cont => obtain ⟨σ7, H7, I7, n7⟩ := q7; exact again I7 n7
  | brk => obtain ⟨σ7, H7, I7, q7⟩ := q7; exact ⟨σ7, H7, I7.unpinned, q7⟩
  | ret v => obtain ⟨x7, σ7, H7, I7, r7, q7⟩ := q7; exact ⟨x7, σ7, H7, I7.unpinned, r7, q7⟩
end
end L2
namespace L2
open PySem PySem.Spec PyProof.Rows
abbrev R2 := V -> V -> Hp -> VK -> Prop
noncomputable def OpR (X : Cx) (f : Value -> Value -> Sem Value) (r : R2) : Prop :=
 ∀ (pins : List (Addr × Obj)) (s : Shared) (σ : St) (H : Hp) (x y : V) (v u : Value) (Q : VK), Inv X pins σ H s -> RelV x v -> RelV y u -> r x y H Q ->
  wpAny (model X.prog X.w) X.A (f v u) (EP X pins σ Q) X.xe s
noncomputable def UnR (X : Cx) (f : Value -> Sem Value) (r : V -> Hp -> VK -> Prop) : Prop :=
 ∀ (pins : List (Addr × Obj)) (s : Shared) (σ : St) (H : Hp) (x : V) (v : Value) (Q : VK), Inv X pins σ H s -> RelV x v -> r x H Q ->
  wpAny (model X.prog X.w) X.A (f v) (EP X pins σ Q) X.xe s
noncomputable def zAJ (X : Cx) (f : Value) (r : List V -> Hp -> VK -> Prop) : Prop :=
 ∀ (pins : List (Addr × Obj)) (s : Shared) (σ : St) (H : Hp) (xs : List V) (us : List Value) (Q : VK), Inv X pins σ H s -> Vals xs us -> r xs H Q ->
  wpAny (model X.prog X.w) X.A (call f us) (EP X pins σ Q) X.xe s
noncomputable def tOp (r : R2) (ta tb : TE) : TE := fun σ H Q => ta σ H fun x H1 => tb σ H1 fun y H2 => r x y H2 Q
noncomputable def tUn (r : V -> Hp -> VK -> Prop) (ta : TE) : TE := fun σ H Q => ta σ H fun x H1 => r x H1 Q
noncomputable def rI (C : Int -> Int -> Prop) (g : Int -> Int -> V) : R2 := fun x y H Q => ∃ i j, x = .int i /\ y = .int j /\ C i j /\ Q (g i j) H
noncomputable def rI0 (g : Int -> Int -> V) : R2 := fun x y H Q => ∃ i j, x = .int i /\ y = .int j /\ Q (g i j) H
noncomputable def rU (g : Int -> V) : V -> Hp -> VK -> Prop := fun x H Q => ∃ i, x = .int i /\ Q (g i) H
section
variable {X : Cx} {a b c : Expr} {ta tb tc : TE} {pos : Pos}
theorem binT (ha : PE X a ta) (hb : PE X b tb) {pins : List (Addr × Obj)} {s : Shared} {σ : St} {H : Hp} {R : V -> V -> Hp -> Prop} (I : Inv X pins σ H s)
  (h : ta σ H fun x H1 => tb σ H1 fun y H2 => R x y H2) {Q : Value -> Shared -> Prop} {f : Value -> Value -> Sem Value}
  (hf : ∀ v u s2 x y H2, Inv X pins σ H2 s2 -> RelV x v -> RelV y u -> R x y H2 -> wpAny (model X.prog X.w) X.A (f v u) Q X.xe s2) :
  wpAny (model X.prog X.w) X.A (eval a X.env) (fun v s₁ => wpAny (model X.prog X.w) X.A (eval b X.env) (fun u s₂ => wpAny (model X.prog X.w) X.A (f v u) Q X.xe s₂) X.xe s₁) X.xe s := by
 refine thn (ha pins s σ H _ I h) fun v s1 zz => ?_
 obtain ⟨x, H1, I1, r1, q1⟩ := zz
 refine thn (hb pins s1 σ H1 _ I1 q1) fun u s2 zz => ?_
 obtain ⟨y, H2, I2, r2, q2⟩ := zz
 exact hf v u s2 x y H2 I2 r1 r2 q2
theorem pe_op {op : Operator} {r : R2} (ho : OpR X (binaryOp op) r) (ha : PE X a ta) (hb : PE X b tb) : PE X (.BinOp a op b pos) (tOp r ta tb) := by
 intro pins s σ H Q I h
 exact wpAny_BinOp (binT ha hb I h fun v u s2 x y H2 I2 rx ry q => ho pins s2 σ H2 x y v u Q I2 rx ry q)
theorem pe_un {op : UnaryOp} {r : V -> Hp -> VK -> Prop} (ho : UnR X (unaryOp op) r) (ha : PE X a ta) : PE X (.UnaryOp op a pos) (tUn r ta) := by
 intro pins s σ H Q I h
 exact UnaryOp_ (thn (ha pins s σ H _ I h) fun v s1 ⟨x, H1, I1, r1, q1⟩ => ho pins s1 σ H1 x v Q I1 r1 q1)
theorem opI {f : Value -> Value -> Sem Value} {C : Int -> Int -> Prop} {g : Int -> Int -> Int}
  (rule : ∀ (i j : Int) (t u : Tok) (s : Shared) (Q : Value -> Shared -> Prop) (E : Value -> Shared -> Prop), C i j -> Q (.int (g i j) s.toks) { s with toks := s.toks + 1 } -> wpAny (model X.prog X.w) X.A (f (.int i t) (.int j u)) Q E s) :
  OpR X f (rI C fun i j => .int (g i j)) := by
 intro pins s σ H x y v u Q I rx ry h
 obtain ⟨i, j, rfl, rfl, hc, q⟩ := h
 obtain ⟨t, rfl⟩ := rx
 obtain ⟨t', rfl⟩ := ry
 exact rule i j t t' s _ _ hc ⟨.int (g i j), H, I.tok _, ⟨_, rfl⟩, q⟩
theorem opI0 {f : Value -> Value -> Sem Value} {g : Int -> Int -> Int}
  (rule : ∀ (i j : Int) (t u : Tok) (s : Shared) (Q : Value -> Shared -> Prop) (E : Value -> Shared -> Prop), Q (.int (g i j) s.toks) { s with toks := s.toks + 1 } -> wpAny (model X.prog X.w) X.A (f (.int i t) (.int j u)) Q E s) :
  OpR X f (rI0 fun i j => .int (g i j)) := by
 intro pins s σ H x y v u Q I rx ry h
 obtain ⟨i, j, rfl, rfl, q⟩ := h
 obtain ⟨t, rfl⟩ := rx
 obtain ⟨t', rfl⟩ := ry
 exact rule i j t t' s _ _ ⟨.int (g i j), H, I.tok _, ⟨_, rfl⟩, q⟩
theorem opB0 {f : Value -> Value -> Sem Value} {g : Int -> Int -> Bool}
  (rule : ∀ (i j : Int) (t u : Tok) (s : Shared) (Q : Value -> Shared -> Prop) (E : Value -> Shared -> Prop), Q (.bool (g i j)) s -> wpAny (model X.prog X.w) X.A (f (.int i t) (.int j u)) Q E s) :
  OpR X f (rI0 fun i j => .bl (g i j)) := by
 intro pins s σ H x y v u Q I rx ry h
 obtain ⟨i, j, rfl, rfl, q⟩ := h
 obtain ⟨t, rfl⟩ := rx
 obtain ⟨t', rfl⟩ := ry
 exact rule i j t t' s _ _ ⟨.bl (g i j), H, I, rfl, q⟩
noncomputable def CDiv (i j : Int) : Prop := 0 < j /\ j < 1073741824
noncomputable def CMul (i j : Int) : Prop := (-(2 ^ 64) < i /\ i < 2 ^ 64) ∨ (-(2 ^ 64) < j /\ j < 2 ^ 64)
theorem CMul.ok {i j : Int} (h : CMul i j) : IntMulOk i j := by
 rcases h with ⟨h1, h2⟩ | ⟨h1, h2⟩
 ·exact .of_left (intBits_le_64 h1 h2)
 ·exact .of_right (intBits_le_64 h1 h2)
theorem zL9 : OpR X (binaryOp .Add) (rI0 fun i j => .int (i + j)) := opI0 fun _ _ _ _ _ _ _ q => add_int q
theorem zJX : OpR X (binaryOp .Mult) (rI CMul fun i j => .int (i * j)) := opI fun _ _ _ _ _ _ _ hc q => mul_int q hc.ok
theorem zOV : OpR X (binaryOp .FloorDiv) (rI CDiv fun i j => .int (i / j)) := opI fun i j _ _ _ _ _ hc q => by
 have h1 : (0 : Int) < j := hc.1
 have h2 : j < 1073741824 := hc.2
 exact floordiv_int (by omega) (by rw [Int.fdiv_eq_ediv_of_nonneg i (by omega)]; exact q) (.inl (PyProof.noPylong_small (by omega)))
theorem zOQ : OpR X (binaryOp .Mod) (rI (fun _ j => 0 < j) fun i j => .int (i % j)) := opI fun i j _ _ _ _ _ hc q => by
 have h1 : (0 : Int) < j := hc
 exact mod_int' (by omega) (by rw [Int.fmod_eq_emod_of_nonneg i (by omega)]; exact q)
theorem unI {f : Value -> Sem Value} {g : Int -> Int}
  (rule : ∀ (i : Int) (t : Tok) (s : Shared) (Q : Value -> Shared -> Prop) (E : Value -> Shared -> Prop), Q (.int (g i) s.toks) { s with toks := s.toks + 1 } -> wpAny (model X.prog X.w) X.A (f (.int i t)) Q E s) :
  UnR X f (rU fun i => .int (g i)) := by
 intro pins s σ H x v Q I rx h
 obtain ⟨i, rfl, q⟩ := h
 obtain ⟨t, rfl⟩ := rx
 exact rule i t s _ _ ⟨.int (g i), H, I.tok _, ⟨_, rfl⟩, q⟩
theorem zMa : UnR X (unaryOp .USub) (rU fun i => .int (-i)) := unI fun _ _ _ _ _ q => neg_int q
end
section
variable {X : Cx} {a b c : Expr} {ta tb tc : TE} {pos : Pos}
theorem op_lt : OpR X (compareOp .Lt) (rI0 fun i j => .bl (decide (i < j))) := opB0 fun _ _ _ _ _ _ _ q => lt_int q
theorem op_le : OpR X (compareOp .LtE) (rI0 fun i j => .bl (decide (i <= j))) := opB0 fun _ _ _ _ _ _ _ q => le_int q
theorem OpR.or {f : Value -> Value -> Sem Value} {r r' : R2} (h : OpR X f r) (h' : OpR X f r') : OpR X f (fun x y H Q => r x y H Q ∨ r' x y H Q) := by
 intro pins s σ H x y v u Q I rx ry q
 rcases q with q | q
 ·exact h pins s σ H x y v u Q I rx ry q
 ·exact h' pins s σ H x y v u Q I rx ry q
theorem zAV (b : Expr) {op : CmpOp} (h : op ≠ .In := by decide) (h2 : op ≠ .NotIn := by decide) : behindInMarks op b = false := by
 have e1 : (op == CmpOp.In) = false := by cases op <;> first | rfl | exact absurd rfl h
 have e2 : (op == CmpOp.NotIn) = false := by cases op <;> first | rfl | exact absurd rfl h2
 cases b <;> simp [behindInMarks, e1, e2]
theorem zNF {op : CmpOp} {r : R2} (ho : OpR X (compareOp op) r) (ha : PE X a ta) (hb : PE X b tb) (hm : behindInMarks op b = false) : PE X (.Compare a [op] [b] pos) (tOp r ta tb) := by
 intro pins s σ H Q I h
 exact wpAny_Compare1 (binT ha hb I h fun v u s2 x y H2 I2 rx ry q => ho pins s2 σ H2 x y v u Q I2 rx ry q) hm
noncomputable def zH4 (t : TE) : TT := fun σ H Q => t σ H fun x H' => ∃ k, x = .bl k /\ Q k H'
theorem zM4 {op : CmpOp} {r : R2} (ho : OpR X (compareOp op) r) (ha : PE X a ta) (hb : PE X b tb) (hm : behindInMarks op b = false) : PT X (.Compare a [op] [b] pos) (zH4 (tOp r ta tb)) := by
 intro pins s σ H Q I h
 refine wpAny_isTrue_Compare1 (thn (ha pins s σ H _ I h) fun v s1 ⟨x, H1, I1, r1, q1⟩ => thn (hb pins s1 σ H1 _ I1 q1) fun u s2 ⟨y, H2, I2, r2, q2⟩ =>
  thn (ho pins s2 σ H2 x y v u _ I2 r1 r2 q2) fun c s3 ⟨z, H3, I3, r3, k, e, q3⟩ => ?_) hm
 subst e
 cases r3
 exact wpAny_truthy_bool ⟨H3, I3, q3⟩
noncomputable def zHX (r r' : R2) (ta tb tc : TE) : TE := fun σ H Q => ta σ H fun x H1 => tb σ H1 fun y H2 => r x y H2 fun z H3 => ∃ k, z = .bl k /\
 (if k = true then tc σ H3 fun w' H4 => r' y w' H4 Q else Q (.bl false) H3)
theorem zKT {op op' : CmpOp} {r r' : R2} (ho : OpR X (compareOp op) r) (ho' : OpR X (compareOp op') r') (ha : PE X a ta) (hb : PE X b tb) (hc : PE X c tc)
  (hm : lastMarks [op, op'] [b, c] = false := by with_unfolding_all rfl) : PE X (.Compare a [op, op'] [b, c] pos) (zHX r r' ta tb tc) := by
 intro pins s σ H Q I h
 refine Compare_chain (thn (ha pins s σ H _ I h) fun v s1 ⟨x, H1, I1, r1, q1⟩ => chain_link (thn (hb pins s1 σ H1 _ I1 q1) fun u s2 ⟨y, H2, I2, r2, q2⟩ =>
  thn (ho pins s2 σ H2 x y v u _ I2 r1 r2 q2) fun d s3 ⟨z, H3, I3, r3, k, e, q3⟩ => ?_)) hm
 subst e
 cases r3
 refine wpAny_truthy_bool ?_
 cases k with
 | false => exact ite_ff ⟨.bl false, H3, I3, rfl, q3⟩
 | true => exact ite_tt (chain_last (thn (hc pins s3 σ H3 _ I3 q3) fun w' s4 ⟨z', H4, I4, r4, q4⟩ => ho' pins s4 σ H4 y z' u w' Q I4 r2 r4 q4))
theorem zDR : (sizeLine : Nat) < 2 ^ 63 := by rw [sizeLine_eq]; decide
theorem zKt : OpR X (binaryOp .Add) (fun x y H Q => ∃ i j, x = .str i /\ y = .str j /\ i.length + j.length <= sizeLine /\ Q (.str (i ++ j)) H) := by
 intro pins s σ H x y v u Q I rx ry h
 obtain ⟨i, j, rfl, rfl, hz, q⟩ := h
 obtain ⟨t, rfl⟩ := rx
 obtain ⟨t', rfl⟩ := ry
 exact add_str (fun t' tk => ⟨.str (i ++ j), H, I.tok _, ⟨_, rfl⟩, q⟩) hz
theorem zBj {x : V} {us : List Value} (r : Vals [x] us) : ∃ u, us = [u] /\ RelV x u := by
 cases r with
 | cons r1 r2 => cases r2; exact ⟨_, rfl, r1⟩
theorem zH9 {x y : V} {us : List Value} (r : Vals [x, y] us) : ∃ u w', us = [u, w'] /\ RelV x u /\ RelV y w' := by
 cases r with
 | cons r1 r2 =>
  cases r2 with
  | cons r3 r4 => cases r4; exact ⟨_, _, rfl, r1, r3⟩
end
end L2
namespace L2
open PySem PySem.Spec PyProof.Rows
section
variable {prog : Program} {w : World} {A : Around} {E : Value -> Shared -> Prop} {s : Shared} {K : PySem.W.Frag} {x dx C f : Addr} {mA : Str -> Option Value} {name : Str} {v : Value}
end
section
variable {P : Program} {w : World} {H H' : Hp} {h h' : Heap} {a C dx : Addr} {fs fs' : List (Str × V)}
end
section
variable {X : Cx} {pins : List (Addr × Obj)} {σ : St} {H : Hp} {s : Shared} {a C dx : Addr} {fs : List (Str × V)} {f : Str} {v : V} {A : Around} {E : Value -> Shared -> Prop}
end
section
variable {X : Cx} {o e value : Expr} {f : Str} {pos pos' tpos : Pos} {ta tv : TE}
end
section
variable {X : Cx} {pins : List (Addr × Obj)} {σ : St} {H : Hp} {s : Shared} {A : Around} {E : Value -> Shared -> Prop} {Q : Value -> Shared -> Prop} {c : Value} {b : Bool}
end
end L2
namespace L2
open PySem PySem.Spec PyProof.Rows
structure Room (k : Nat) (A : Around) : Prop where
 hd : A.handled = none
 dp : A.depth + 3 * k + 5 < recursionLimit
 un : A.units + 16 * k + 200 < cLine
 gd : A.guards = some []
theorem Room.mono {j k : Nat} {A : Around} (r : Room k A) (h : j <= k) : Room j A := ⟨r.hd, by have := r.dp; omega, by have := r.un; omega, r.gd⟩
theorem Room.deeper {k : Nat} {A : Around} (r : Room (k + 1) A) (env : Env) : Room k (A.deeper env) :=
 ⟨r.hd, by have := r.dp; show A.depth + 1 + 3 * k + 5 < _; omega, by have := r.un; show A.units + 3 + 16 * k + 200 < _; omega, r.gd⟩
theorem Room.depth {k : Nat} {A : Around} (r : Room k A) : A.depth < recursionLimit := by have := r.dp; omega
noncomputable def tNil : TA := fun _ H Q => Q [] H
noncomputable def tCons (ta : TE) (tr : TA) : TA := fun σ H Q => ta σ H fun x H1 => tr σ H1 fun xs H2 => Q (x :: xs) H2
section
variable {X : Cx} {e : Expr} {es : List Expr} {te : TE} {t : TA} {pos : Pos}
theorem zBA : PA X [] tNil := fun _ _ _ _ H Q I h => Calls.spliced_nil ⟨[], H, I, .nil, h⟩
theorem zBa (ha : PE X e te) (hr : PA X es t) (hs : starEach (e :: es) X.env = (false, eval e X.env) :: starEach es X.env := by rfl) : PA X (e :: es) (tCons te t) := by
 intro pos pins s σ H Q I h
 rw [hs]
 show wpAny _ _ (spliced ((false, eval e X.env) :: backTo pos (starEach es X.env))) _ _ s
 refine Calls.spliced_cons (thn (ha pins s σ H _ I h) fun u s1 zz => ?_)
 obtain ⟨x, H1, I1, r1, q1⟩ := zz
 exact thn (hr pos pins s1 σ H1 _ I1 q1) fun us s2 ⟨xs, H2, I2, r2, q2⟩ => ⟨x :: xs, H2, I2, .cons r1 r2, q2⟩
noncomputable def tTup (t : TA) : TE := fun σ H Q => t σ H fun xs H1 => xs.length <= sizeLine /\ ∀ p, H1 p = none -> Q (.ref p) (upd H1 p (.tup xs))
noncomputable def tLst (t : TA) : TE := fun σ H Q => t σ H fun xs H1 => xs.length <= sizeLine /\ ∀ p, H1 p = none -> Q (.ref p) (upd H1 p (.lst xs))
theorem zJq {x1} (h : PA X es t) : PE X (.Tuple es x1 pos) (tTup t) := by
 intro pins s σ H Q I hq
 refine wpAny_Tuple_spliced (thn (h pos pins s σ H _ I hq) fun us s1 ⟨xs, H1, I1, r, z, q⟩ => ⟨by rw [<- r.length]; exact z, ?_⟩)
 have hf : H1 s1.heap.objs.size = none := I1.hok.fresh (Nat.le_refl _)
 refine ⟨.ref s1.heap.objs.size, upd H1 s1.heap.objs.size (.tup xs), I1.laid (t' := s1.toks) (fun b u e => Heap.get?_push_of_some _ e) (Nat.le_refl _) ?_, rfl, q _ hf⟩
 exact ⟨z, us, r, ⟨_, Heap.get?_push_size _ rfl, rfl, _, rfl⟩⟩
theorem zJh (h : PA X es t) : PE X (.List es pos) (tLst t) := by
 intro pins s σ H Q I hq
 refine wpAny_List_spliced (thn (h pos pins s σ H _ I hq) fun us s1 ⟨xs, H1, I1, r, z, q⟩ => ⟨by rw [<- r.length]; exact z, ?_⟩)
 have hf : H1 s1.heap.objs.size = none := I1.hok.fresh (Nat.le_refl _)
 refine ⟨.ref s1.heap.objs.size, upd H1 s1.heap.objs.size (.lst xs), I1.laid (t' := s1.toks) (fun b u e => Heap.get?_push_of_some _ e) (Nat.le_refl _) ?_, rfl, q _ hf⟩
 exact ⟨z, us, 0, r, Heap.get?_push_size _ rfl⟩
end
abbrev Sp := List V -> Hp -> VK -> XK -> Prop
abbrev CXT := List Env -> Hp -> Shared -> XK -> Value -> Shared -> Prop
structure Env0 (P : Program) (w : World) (K : PySem.W.Frag) (mg : Str -> Option Value) (base : Heap) (A : Around) (outer : List Env) (s : Shared) (H : Hp) : Prop where
 frames : A.frames = some outer
 mod : Mod K mg base
 bs : ∀ b o, base.get? b = some o -> s.heap.get? b = some o /\ H b = none
 bsz : base.objs.size <= s.heap.objs.size
 funs : s.heap.FunFrames base outer
 frf : ∀ b ∈ frs outer, H b = none
 hok : HOk P w H s.heap
 bare : AllBare s.gens
noncomputable def CE (outer : List Env) (P : Program) (w : World) (H : Hp) (s : Shared) (Q : VK) (u : Value) (s' : Shared) : Prop :=
 ∃ v H', s'.os = s.os /\ AllBare s'.gens /\ Un (frs outer) [] H H' s.heap s'.heap /\ HOk P w H' s'.heap /\ RelV v u /\ Q v H'
noncomputable def CR (CX : CXT) (outer : List Env) (P : Program) (w : World) (H : Hp) (s : Shared) (Q : VK) (E : XK) (r : Result) (s' : Shared) : Prop :=
 match r with
 | .ok (.ret u) => CE outer P w H s Q u s'
 | .ok _ => False
 | .error e => CX outer H s E e s'
structure FnOk (P : Program) (w : World) (K : PySem.W.Frag) (mg : Str -> Option Value) (base : Heap) (CX : CXT) (k : Nat) (f : Addr) (fd : FuncData) (ps : List Str) (sp : Sp) : Prop where
 len : ∀ vs H Q E, sp vs H Q E -> vs.length = ps.length
 run : ∀ (A : Around) (outer : List Env) (s : Shared) (H : Hp) (args : Args) (us : List Value) (vs : List V) (Q : VK) (E : XK), Room k A -> Env0 P w K mg base A outer s H -> BindsTo s fd args (ps.zip us) -> Vals vs us -> sp vs H Q E ->
  codeAny (model P w) A (.call (.ref f) args) (CR CX outer P w H s Q E) s
theorem FnOk.imp {P : Program} {w : World} {K : PySem.W.Frag} {mg : Str -> Option Value} {base : Heap} {CX : CXT} {k : Nat} {f : Addr} {fd : FuncData} {ps : List Str} {sp sp' : Sp} (F : FnOk P w K mg base CX k f fd ps sp)
  (h : ∀ vs H Q E, sp' vs H Q E -> sp vs H Q E) : FnOk P w K mg base CX k f fd ps sp' :=
 ⟨fun vs H Q E q => F.len vs H Q E (h _ _ _ _ q), fun A outer s H args us vs Q E hr he hb hv hs => F.run A outer s H args us vs Q E hr he hb hv (h _ _ _ _ hs)⟩
section
variable {X : Cx} {pins : List (Addr × Obj)} {σ : St} {H : Hp} {s s' : Shared}
theorem Inv.env0 (I : Inv X pins σ H s) : Env0 X.prog X.w X.K X.mg X.base X.A X.stack s H :=
 ⟨I.ok.frames, I.ok.mod, I.bs, Nat.le_trans I.ok.bsz I.sz, I.stack, I.stkFree, I.hok, I.bare⟩
theorem Inv.after {Q : VK} {u : Value} (I : Inv X pins σ H s) (h : CE X.stack X.prog X.w H s Q u s') : EP X pins σ Q u s' := by
 obtain ⟨v, H', os, bare, un, hok, r, q⟩ := h
 obtain ⟨hh, g, d, t, os'⟩ := s'
 obtain rfl : os' = s.os := os
 exact ⟨v, H', I.call (h' := hh) (g' := g) (d' := d) (t' := t) (ch := []) un hok bare (fun b z => absurd z (by simp)), r, q⟩
end
noncomputable def tCall (sp : Sp) (dvs : List V) (E : XK) (t : TA) : TE := fun σ H Q => t σ H fun vs H1 => sp (vs ++ dvs) H1 Q E
noncomputable def Binds (K : PySem.W.Frag) (fd : FuncData) (ps : List Str) (ds : List Value) : Prop :=
 ∀ (s : Shared) (us : List Value), K.In s.heap -> (us ++ ds).length = ps.length -> BindsTo s fd ⟨us, []⟩ (ps.zip (us ++ ds))
theorem Binds.all {K : PySem.W.Frag} {fd : FuncData} {ps : List Str} (h : ∀ us : List Value, us.length = ps.length -> bindArgs fd ⟨us, []⟩ = pure (ps.zip us)) : Binds K fd ps [] := fun s us _ hl => by
 rw [List.append_nil] at hl ⊢
 exact .of_eq (h us hl)
noncomputable def zFj (CX : CXT) (X : Cx) (E : XK) : Prop := ∀ (pins : List (Addr × Obj)) (σ : St) (H : Hp) (s : Shared) (e : Value) (s' : Shared), Inv X pins σ H s -> CX X.stack H s E e s' -> X.xe e s'
section
variable {X : Cx} {CX : CXT} {k : Nat} {f C : Addr} {fd : FuncData} {ps : List Str} {sp : Sp} {dvs : List V} {ds : List Value} {E : XK} {x m : Str} {p pos apos : Pos} {e o : Expr} {es : List Expr} {ta : TE} {t : TA}
theorem zMR {pins : List (Addr × Obj)} {σ : St} {H : Hp} {s : Shared} {Q : VK} {us : List Value} {vs : List V} (F : FnOk X.prog X.w X.K X.mg X.base CX k f fd ps sp) (hr : Room k X.A) (hb : Binds X.K fd ps ds) (hd : Vals dvs ds) (hx : zFj CX X E)
  (I : Inv X pins σ H s) (r : Vals vs us) (h : sp (vs ++ dvs) H Q E) : wpAny (model X.prog X.w) X.A (call (.ref f) us) (EP X pins σ Q) X.xe s := by
 have r2 : Vals (vs ++ dvs) (us ++ ds) := r.append hd
 have hl : (us ++ ds).length = ps.length := by rw [<- r2.length]; exact F.len _ _ _ _ h
 refine wpAny_call (codeAny_mono (F.run X.A X.stack s H ⟨us, []⟩ (us ++ ds) (vs ++ dvs) Q E hr I.env0 (hb s us I.kIn hl) r2 h) fun r s' hq => ?_)
 cases r with
 | error e => exact hx pins σ H s e s' I hq
 | ok fl =>
  cases fl with
  | ret u => exact I.after hq
  | next => exact False.elim hq
  | brk => exact False.elim hq
  | cont => exact False.elim hq
theorem zOE (F : FnOk X.prog X.w X.K X.mg X.base CX k f fd ps sp) (hr : Room k X.A) (hg : Gl X x) (hm : X.mg x = some (.ref f)) (hk : PySem.W.keepIn X.K (.ref f) = true) (hb : Binds X.K fd ps ds) (hd : Vals dvs ds) (hx : zFj CX X E)
  (ha : PA X (e :: es) t) (hdb : (x == ("__debug__" : Str)) = false := by decide) (he : starEach (e :: es) X.env = (false, eval e X.env) :: starEach es X.env := by rfl) (hpl : (backTo pos (starEach es X.env)).any (·.1) = false := by rfl) :
  PE X (.Call (.Name x p) (e :: es) [] pos) (tCall sp dvs E t) := by
 intro pins s σ H Q I h
 refine wpAny_Call_Name_kw (zCi I hg hm ?_ hdb)
 refine PySem.W.callWith_K (h₀ := X.base) I.ok.mod.kin hk (thn (ha pos pins s σ H _ I h) fun us s1 ⟨vs, H1, I1, r, q⟩ => ⟨I1.kIn, ?_⟩) he hpl
 exact zMR F hr hb hd hx I1 r q
end
section
variable {X : Cx} {CX : CXT} {k : Nat} {f C : Addr} {fd : FuncData} {ps ks : List Str} {sp : Sp} {E : XK} {x m : Str} {p pos apos kpos : Pos} {e o : Expr} {es : List Expr} {kws : List Keyword} {te ta : TE} {t tk : TA} {nm : Option Str}
variable {g : List Value -> List Value -> List Value} {gV : List V -> List V -> List V}
end
structure zAx (N P : List Str) (sc : Scope) : Prop where
 kind : sc.kind = .function
 co : sc.isCoroutine = false
 gen : sc.isGenerator = false
 nd : N.Nodup
 pre : N.take P.length = P
 par : ∀ x ∈ P, sc.names.lookup x = some .local ∨ sc.names.lookup x = some .cell
 nofree : ∀ y ∈ sc.names, y.2 ≠ .free
theorem zH5 {kindOf : Str -> Option NameKind} {x : Str} : ∀ {binds : List (Str × Value)} {m : Str -> Option Value}, (∀ v, (x, v) ∉ binds) -> bindL kindOf binds m x = m x
 | [], _, _ => rfl
 | (n, v) :: r, m, h => by
  unfold bindL
  rw [zH5 fun w hw => h w (List.mem_cons_of_mem _ hw)]
  split
  ·have : x ≠ n := by rintro rfl; exact h v List.mem_cons_self
   simp [this]
  ·rfl
theorem zGB {kindOf : Str -> Option NameKind} {x : Str} : ∀ {binds : List (Str × Value)} {m : Str -> Option Value}, (∀ v, (x, v) ∉ binds) -> bindC kindOf binds m x = m x
 | [], _, _ => rfl
 | (n, v) :: r, m, h => by
  unfold bindC
  rw [zGB fun w hw => h w (List.mem_cons_of_mem _ hw)]
  split
  ·rfl
  ·have : x ≠ n := by rintro rfl; exact h v List.mem_cons_self
   simp [this]
theorem zJg {kindOf : Str -> Option NameKind} {x : Str} {v : Value} : ∀ {P : List Str} {vs : List Value} {i : Nat} {m : Str -> Option Value}, P.Nodup -> P[i]? = some x -> vs[i]? = some v -> kindOf x = some .local ->
  bindL kindOf (P.zip vs) m x = some v
 | [], _, _, _, _, h, _, _ => by simp at h
 | _ :: _, [], _, _, _, _, h, _ => by simp at h
 | p :: P, w :: vs, 0, m, nd, h1, h2, hk => by
  simp at h1 h2; subst h1; subst h2
  show bindL kindOf ((p, w) :: P.zip vs) m p = _
  unfold bindL
  rw [zH5 fun v hv => (List.nodup_cons.mp nd).1 (List.of_mem_zip hv).1, if_pos hk]
  simp
 | p :: P, w :: vs, i + 1, m, nd, h1, h2, hk => by
  show bindL kindOf ((p, w) :: P.zip vs) m x = _
  unfold bindL
  exact zJg (i := i) (List.nodup_cons.mp nd).2 (by simpa using h1) (by simpa using h2) hk
theorem zI5 {kindOf : Str -> Option NameKind} {x : Str} {v : Value} : ∀ {P : List Str} {vs : List Value} {i : Nat} {m : Str -> Option Value}, P.Nodup -> P[i]? = some x -> vs[i]? = some v -> kindOf x ≠ some .local ->
  bindC kindOf (P.zip vs) m x = some v
 | [], _, _, _, _, h, _, _ => by simp at h
 | _ :: _, [], _, _, _, _, h, _ => by simp at h
 | p :: P, w :: vs, 0, m, nd, h1, h2, hk => by
  simp at h1 h2; subst h1; subst h2
  show bindC kindOf ((p, w) :: P.zip vs) m p = _
  unfold bindC
  rw [zGB fun v hv => (List.nodup_cons.mp nd).1 (List.of_mem_zip hv).1, if_neg hk]
  simp
 | p :: P, w :: vs, i + 1, m, nd, h1, h2, hk => by
  show bindC kindOf ((p, w) :: P.zip vs) m x = _
  unfold bindC
  exact zI5 (i := i) (List.nodup_cons.mp nd).2 (by simpa using h1) (by simpa using h2) hk
noncomputable def start (N : List Str) (vs : List V) : St := vs.map some ++ List.replicate (N.length - vs.length) none
noncomputable def cxOf (CX : CXT) (P : Program) (w : World) (K : PySem.W.Frag) (mg : Str -> Option Value) (base : Heap) (N : List Str) (qual : Str) (scope : Scope) (f : Addr) (cd : Value) (A : Around) (outer : List Env) (s : Shared) (H : Hp) (E : XK) : Cx where
 prog := P
 w := w
 K := K
 mg := mg
 base := base
 A := A.deeper (envOfC qual scope s.heap.objs.size f cd)
 N := N
 s₀ := s
 H₀ := H
 env := envOfC qual scope s.heap.objs.size f cd
 outer := outer
 stack := envOfC qual scope s.heap.objs.size f cd :: outer
 ex := []
 calm := true
 fn := fun _ => true
 pn := []
 xe := fun e s' => wpAny (model P w) (A.deeper (envOfC qual scope s.heap.objs.size f cd)) (leaving (envOfC qual scope s.heap.objs.size f cd) e) (fun _ s'' => CX outer H s E e s'') (fun e' s'' => CX outer H s E e' s'') s'
theorem zIw {sc : Scope} {n : Nat} {x : Str} (h : sc.names.lookup x = some .cell) : ∃ c, (cellsFrom n sc.names []).lookup x = some c := by
 have q := PySem.W.cellsFrom_some sc.names n [] (.inl h)
 exact Option.isSome_iff_exists.mp q
theorem zHW {CX : CXT} {P : Program} {w : World} {K : PySem.W.Frag} {mg : Str -> Option Value} {base : Heap} {N ps : List Str} {qual : Str} {scope : Scope} {f : Addr} {cd : Value} {A : Around} {outer : List Env} {s s1 : Shared} {H : Hp} {E : XK} {us : List Value} {vs : List V}
  (S : zAx N ps scope) (hd : A.handled = none) (e0 : Env0 P w K mg base A outer s H) (hl : vs.length = ps.length) (r : Vals vs us)
  (x : InCallC s s.heap.objs.size (bindL (envOfC qual scope s.heap.objs.size f cd).kindOf (ps.zip us) fun _ => none) (cellsFrom (s.heap.objs.size + 1) scope.names []) (bindC (envOfC qual scope s.heap.objs.size f cd).kindOf (ps.zip us) fun _ => none) s1) :
  Inv (cxOf CX P w K mg base N qual scope f cd A outer s H E) [] (start N vs) H s1 := by
 have hpl : ps.length <= N.length := by have := congrArg List.length S.pre; rw [List.length_take] at this; omega
 obtain ⟨h1, tk, rfl, hk⟩ := x.done
 have noA : ∀ b : Addr, b ∉ (cxOf CX P w K mg base N qual scope f cd A outer s H E).ex := fun b z => absurd (show b ∈ ([] : List Addr) from z) (by simp)
 refine ⟨⟨e0.mod, S.kind, rfl, rfl, Nat.le_refl _, fun y z c h1 h2 => ?_, fun y hy => ?_, fun y c _ h => ?_, fun _ => hd, Around.frames_deeper e0.frames, .inr ⟨rfl, rfl⟩, fun b z => absurd z (noA b), e0.bs, e0.bsz, fun b _ _ => noA b, fun b z => absurd z (noA b), e0.funs, e0.frf⟩,
  rfl, e0.bare, Un.kept hk, ⟨_, x.toInCall.ns, fun i y v h1 h2 h3 => ?_⟩, fun y c h => ⟨_, x.cell y c h⟩, e0.hok.fresh (Nat.le_refl _), fun y c h => ?_, fun p hp => absurd (show p ∈ ([] : List (Addr × Obj)) from hp) (by simp), e0.hok.kept hk, ?_⟩
 ·exact name_of_addr x.apart (PySem.mem_of_lookup h1) (PySem.mem_of_lookup h2)
 ·have hy : scope.names.lookup y = some .cell ∨ scope.names.lookup y = some .free := hy
  rcases hy with hy | hy
  ·exact zIw hy
  ·exact absurd rfl (S.nofree _ (PySem.mem_of_lookup hy))
 ·exact Nat.le_of_lt (x.above y c (PySem.mem_of_lookup h))
 ·have hi : i < vs.length := by
   unfold start at h2
   by_cases hi : i < vs.length
   ·exact hi
   ·rw [List.getElem?_append_right (by simpa using hi)] at h2
    rw [List.getElem?_replicate] at h2
    split at h2 <;> cases h2
  have ha : vs[i]? = some v := by
   unfold start at h2
   rw [List.getElem?_append_left (by simpa using hi), List.getElem?_map] at h2
   cases e : vs[i]? with
   | none => rw [e] at h2; cases h2
   | some a => rw [e] at h2; cases h2; rfl
  obtain ⟨u, hu, rv⟩ := r.get ha
  have hp : ps[i]? = some y := by
   rw [<- S.pre, List.getElem?_take_of_lt (by omega)]; exact h1
  have ndP : ps.Nodup := by rw [<- S.pre]; exact S.nd.sublist (List.take_sublist _ _)
  refine ⟨u, rv, ?_⟩
  rcases S.par y (List.mem_of_getElem? hp) with k | k
  ·exact .inl ⟨k, zJg ndP hp hu k⟩
  ·obtain ⟨c, e⟩ := zIw (n := s.heap.objs.size + 1) k
   refine .inr ⟨.inl k, c, e, ?_⟩
   have q := x.cell y c e
   rw [zI5 ndP hp hu (by show scope.names.lookup y ≠ _; rw [k]; decide)] at q
   exact q
 ·exact e0.hok.fresh (Nat.le_of_lt (x.above y c (PySem.mem_of_lookup h)))
 ·unfold start
  show _ = N.length
  rw [List.length_append, List.length_map, List.length_replicate]
  omega
theorem zFA {CX : CXT} {P : Program} {w : World} {K : PySem.W.Frag} {mg : Str -> Option Value} {base : Heap} {k : Nat} {f : Addr} {name qual : Str} {params : Arguments} {body : List Stmt} {scope : Scope} {dV kV doc pm cdv ct oc : Value} {an od : Option Addr}
  {osl : Array (Option Value)} {N ps : List Str} {sp : Sp} (lk : K.lookup f = some ⟨oc, od, .func (PySem.W.fnOf name qual params body scope dV kV doc pm an cdv ct), osl⟩) (hcd : PySem.W.codeIn K cdv qual = true) (S : zAx N ps scope)
  (len : ∀ vs H Q E, sp vs H Q E -> vs.length = ps.length)
  (hbody : ∀ (A : Around) (outer : List Env) (s : Shared) (H : Hp) (vs : List V) (Q : VK) (E : XK), Room k (A.deeper (envOfC qual scope s.heap.objs.size f cdv)) -> sp vs H Q E ->
   ∃ t, PSs (cxOf CX P w K mg base N qual scope f cdv A outer s H E) body t /\ t { nx := fun _ H' => Q .non H', rt := Q } (start N vs) H) :
  FnOk P w K mg base CX (k + 1) f (PySem.W.fnOf name qual params body scope dV kV doc pm an cdv ct) ps sp := by
 refine ⟨len, fun A outer s H args us vs Q E hr e0 hb r hsp => ?_⟩
 have hl := len _ _ _ _ hsp
 have KX : K.In s.heap := e0.mod.kin.keeps fun b o e => (e0.bs b o e).1
 have lim : s.heap.NoLimit := e0.mod.nolimit.keeps fun b o e => (e0.bs b o e).1
 have hkind : ∀ y ∈ ps.zip us, scope.names.lookup y.1 = some .local ∨ (scope.names.lookup y.1 = some .cell /\ ((cellsFrom (s.heap.objs.size + 1) scope.names []).lookup y.1).isSome = true) := fun zz hy => by
  obtain ⟨n, v⟩ := zz
  rcases S.par n (List.of_mem_zip hy).1 with q | q
  ·exact .inl q
  ·exact .inr ⟨q, PySem.W.cellsFrom_some _ _ _ (.inl q)⟩
 refine codeAny_call_function hr.depth (KX _ _ lk) rfl S.co S.gen rfl (PySem.W.codeRec_of KX hcd) (hb _ _ _ _ ?_)
 refine wpAny_newFunctionEnv_cells S.kind hkind fun env he s1 x => ?_
 subst he
 refine ⟨lim.keeps x.toInCall.keep, codeAny_func ?_⟩
 obtain ⟨t, ht, hq⟩ := hbody A outer s H vs Q E (hr.deeper _) hsp
 have I : Inv (cxOf CX P w K mg base N qual scope f cdv A outer s H E) [] (start N vs) H s1 := zHW S hr.hd e0 hl r x
 refine wpAny_mono (ht [] s1 (start N vs) H _ I hq) (fun fl s' hs => ?_) fun e s' hs => hs
 have fin : ∀ {σ' : St} {H' : Hp} {v : V} {u : Value}, Inv (cxOf CX P w K mg base N qual scope f cdv A outer s H E) [] σ' H' s' -> RelV v u -> Q v H' -> CE outer P w H s Q u s' :=
  fun {σ' H' v u} J rv q => ⟨v, H', J.os, J.bare, J.base, J.hok, rv, q⟩
 cases fl with
 | ret u =>
  obtain ⟨v, σ', H', J, rv, q⟩ := hs
  exact fin J rv q
 | next =>
  obtain ⟨σ', H', J, q⟩ := hs
  exact fin (v := V.non) (u := Value.none) J rfl q
 | brk =>
  obtain ⟨_, _, _, q⟩ := hs
  exact False.elim q
 | cont =>
  obtain ⟨_, _, _, q⟩ := hs
  exact False.elim q
end L2
namespace L2
open PySem PySem.Spec PyProof.Rows
section
variable {X : Cx} {x : Str} {p pos : Pos} {e : Expr} {es : List Expr} {t : TA} {id T : String} {r : List V -> Hp -> VK -> Prop}
noncomputable def tCB (r : List V -> Hp -> VK -> Prop) (t : TA) : TE := fun σ H Q => t σ H fun vs H1 => r vs H1 Q
theorem zFa (hc : zAJ X (.builtin id) r) (hg : Gl X x) (hm : X.mg x = none) (hv : bootBuiltins x = some (.builtin id)) (ha : PA X (e :: es) t) (hn : x ≠ "__name__" := by decide) (hdb : (x == ("__debug__" : Str)) = false := by decide)
  (he : starEach (e :: es) X.env = (false, eval e X.env) :: starEach es X.env := by rfl) (hpl : (backTo pos (starEach es X.env)).any (·.1) = false := by rfl) : PE X (.Call (.Name x p) (e :: es) [] pos) (tCB r t) := by
 intro pins s σ H Q I h
 refine wpAny_Call_Name_kw (zBP I hg hm hv ?_ hn hdb)
 exact PyProof.Rows.callWith_builtin1 (thn (ha pos pins s σ H _ I h) fun us s1 ⟨vs, H1, I1, r1, q1⟩ => hc pins s1 σ H1 vs us Q I1 r1 q1) he hpl
theorem zKu (hc : zAJ X (.type T) r) (hg : Gl X x) (hm : X.mg x = none) (hv : bootBuiltins x = some (.type T)) (ha : PA X (e :: es) t) (hn : x ≠ "__name__" := by decide) (hdb : (x == ("__debug__" : Str)) = false := by decide)
  (he : starEach (e :: es) X.env = (false, eval e X.env) :: starEach es X.env := by rfl) (hpl : (backTo pos (starEach es X.env)).any (·.1) = false := by rfl) : PE X (.Call (.Name x p) (e :: es) [] pos) (tCB r t) := by
 intro pins s σ H Q I h
 refine wpAny_Call_Name_kw (zBP I hg hm hv ?_ hn hdb)
 exact PyProof.Rows.callWith_type1 (thn (ha pos pins s σ H _ I h) fun us s1 ⟨vs, H1, I1, r1, q1⟩ => hc pins s1 σ H1 vs us Q I1 r1 q1) he hpl
end
end L2
namespace HT
open PySem PyProof.Rows
noncomputable def lexLt : List Int -> List Int -> Bool
 | [], [] => false
 | [], _ :: _ => true
 | _ :: _, [] => false
 | x :: xs, y :: ys => if x = y then lexLt xs ys else decide (x < y)
theorem lexLt_cons (x y : Int) (xs ys : List Int) : lexLt (x :: xs) (y :: ys) = if x = y then lexLt xs ys else decide (x < y) := rfl
theorem zM2 : lexLt [] [] = false := rfl
theorem zKq (y : Int) (ys : List Int) : lexLt [] (y :: ys) = true := rfl
theorem zN0 (x : Int) (xs : List Int) : lexLt (x :: xs) [] = false := rfl
theorem zMn (A : Around) (s : Shared) (a : Int) (t : Tok) (c : Int) (u : Tok) : ∃ e, SeqAt.EqAt A s (.int a t) (.int c u) e /\ (e = true ↔ a = c) :=
 ⟨(a == c), SeqAt.EqAt.int_int a t c u, by simp⟩
theorem rcLt_int (A : Around) (s : Shared) (a : Int) (t : Tok) (c : Int) (u : Tok) (prog : Program) (w : World) (E : Value -> Shared -> Prop) (Q : Value -> Shared -> Prop) (h : Q (.bool (decide (a < c))) s) :
  wpAny (model prog w) A (richCompare .Lt (.int a t) (.int c u)) Q E s :=
 (PyProof.Rows.lt_int h : wpAny (model prog w) A (compareOp .Lt (.int a t) (.int c u)) Q E s)
section
open PySem.SeqAt
open PySem.AutoSeq1 (wpAny_loadPart')
open PySem.MeetsSeq PySem.MeetsSeq2 PySem.MeetsSeq3
theorem zLl (l b : Addr) (items items2 : Array Value) (n n2 : Nat) (dd dd2 : Option Addr) (sl sl2 : Array (Option Value)) (ns ms : List Int) (hi : IntsAre items.toList ns) (hj : IntsAre items2.toList ms) :
  Meets (Builtin.«tuple.__lt__» ⟨[.ref l, .ref b], []⟩)
   (fun _ R s => s.heap.get? l = some { cls := .type "tuple", dict := dd, data := .seq items n, slots := sl } /\ s.heap.get? b = some { cls := .type "tuple", dict := dd2, data := .seq items2 n2, slots := sl2 } /\
    R (.ok (.ret (.bool (lexLt ns ms)))) s) :=
 .of_wp fun prog w A R s h => by
  obtain ⟨hp, g, d, tk, os⟩ := s; obtain ⟨hl, hb, h⟩ := h
  have f2 := AutoSeq1.sub_tuple_tuple
  have z1 : items.size = ns.length := by rw [<- hi.length]; simp
  have z2 : items2.size = ms.length := by rw [<- hj.length]; simp
  wp_walk using wpAny_loadPart' hl, wpAny_loadPart' hb, wpAny_forIn_list _ (fun rest b s' => b.1 = none /\ s' = ⟨hp, g, d, tk, os⟩ /\ ∃ (vs ws : List Value) (ns' ms' : List Int), rest = vs.zip ws /\
   IntsAre vs ns' /\ IntsAre ws ms' /\ ns'.length + items2.size = ms'.length + items.size /\ R (.ok (.ret (.bool (lexLt ns' ms')))) ⟨hp, g, d, tk, os⟩) _
  case turn =>
   rintro ⟨y, x⟩ rest b s' ⟨hb', rfl, vs, ws, ns', ms', hz, hvi, hwi, hlen, hR⟩
   cases hvi with
   | nil => rw [List.zip_nil_left] at hz; cases hz
   | cons a t hvi' =>
    cases hwi with
    | nil => rw [List.zip_nil_right] at hz; cases hz
    | cons c u hwi' =>
     rw [List.zip_cons_cons] at hz
     injection hz with hyx hrest
     injection hyx with hy hx
     subst hy hx
     rw [lexLt_cons] at hR
     simp only [List.length_cons] at hlen
     obtain ⟨e, he, hiff⟩ := zMn A.in1 ⟨hp, g, d, tk, os⟩ a t c u
     refine wpAny_bind (he prog w _ _ ?_)
     cases e with
     | true =>
      rw [if_pos (hiff.mp rfl)] at hR
      wp_walk
      exact ⟨rfl, rfl, _, _, _, _, hrest, hvi', hwi', by omega, hR⟩
     | false =>
      rw [if_neg (fun q => absurd (hiff.mpr q) Bool.false_ne_true)] at hR
      have hri := rcLt_int A.in1 ⟨hp, g, d, tk, os⟩ a t c u prog w
      wp_walk using hri
      exact ⟨_, rfl, by simpa using hR⟩
  case fin =>
   rintro ⟨b1, b2⟩ s' ⟨hb', rfl, vs, ws, ns', ms', hz, hvi, hwi, hlen, hR⟩
   simp only at hb'
   subst hb'
   have hv : lexLt ns' ms' = decide (items.size < items2.size) := by
    cases hvi with
    | nil =>
     cases hwi with
     | nil =>
      simp only [List.length_nil] at hlen
      rw [zM2]
      exact (decide_eq_false (by omega)).symm
     | cons c u hw =>
      simp only [List.length_nil, List.length_cons] at hlen
      rw [zKq]
      exact (decide_eq_true (by omega)).symm
    | cons a t hv =>
     cases hwi with
     | nil =>
      simp only [List.length_nil, List.length_cons] at hlen
      rw [zN0]
      exact (decide_eq_false (by omega)).symm
     | cons c u hw =>
      rw [List.zip_cons_cons] at hz
      cases hz
   rw [hv] at hR
   wp_walk
   exact ⟨_, rfl, by simpa [Builtin.Tuple.tupleCompareSizes] using hR⟩
  case h =>
   exact ⟨rfl, rfl, items.toList, items2.toList, ns, ms, rfl, hi, hj, by omega, h⟩
end
section
variable {prog : Program} {w : World} {A : Around} {E : Value -> Shared -> Prop} {s : Shared}
theorem lt_tupInts {l b : Addr} {items items2 : Array Value} {ns ms : List Int} {Q : Value -> Shared -> Prop} (hl : IsTup s.heap l items) (hb : IsTup s.heap b items2) (hi : IntsAre items.toList ns) (hj : IntsAre items2.toList ms)
  (hu : A.units < cLine) (h : Q (.bool (lexLt ns ms)) s) : wpAny (model prog w) A (compareOp .Lt (.ref l) (.ref b)) Q E s := by
 obtain ⟨⟨cls, dd, data, sl⟩, ho, hc, n, hd⟩ := id hl
 obtain ⟨⟨cls2, dd2, data2, sl2⟩, ho2, hc2, n2, hd2⟩ := id hb
 simp only at hc hd hc2 hd2
 subst hc hd hc2 hd2
 exact richCompare_meets_room (op := .Lt) ⟨_, ho, rfl⟩ ⟨_, ho2, rfl⟩ PySem.F.slot_tuple_lt PySem.F.entry_tuple_lt (PySem.F.args_tuple_lt_2 _ _) (zLl l b items items2 n n2 dd dd2 sl sl2 ns ms hi hj)
  ⟨ho, ho2, show Value.bool (lexLt ns ms) ≠ Value.notImplemented /\ Q (.bool (lexLt ns ms)) s from ⟨(fun x => nomatch x), h⟩⟩ hu
theorem cat_tup {t b : Addr} {vs ws : List Value} {Q : Value -> Shared -> Prop} (ht : IsTup s.heap t vs.toArray) (hb : IsTup s.heap b ws.toArray) (hv : vs ≠ [])
  (h1 : ws = [] -> Q (.ref t) s) (h2 : ws ≠ [] -> Q (.ref s.heap.objs.size) { s with heap := s.heap.push { cls := .type "tuple", data := .seq (vs ++ ws).toArray } })
  (hsz : vs.length + ws.length <= sizeLine) : wpAny (model prog w) A (binaryOp .Add (.ref t) (.ref b)) Q E s := by
 obtain ⟨⟨cls, dd, data, sl⟩, ho, hc, n, hd⟩ := id ht
 obtain ⟨⟨cls2, dd2, data2, sl2⟩, ho2, hc2, n2, hd2⟩ := id hb
 simp only at hc hd hc2 hd2
 subst hc hd hc2 hd2
 have e : vs.toArray ++ ws.toArray = (vs ++ ws).toArray := by simp
 by_cases hw : ws = []
 ·exact concat_meets ⟨_, ho, rfl⟩ ⟨_, ho2, rfl⟩ noFill_tuple_add seq_tuple_add PySem.F.slot_tuple_add PySem.F.entry_tuple_add (PySem.F.args_tuple_add_2 _ _)
   (tuple_addW1 t b vs.toArray ws.toArray n n2 dd dd2 sl sl2 (by simpa using hv) (by simp [hw])) ⟨ho, ho2, h1 hw⟩
 ·refine concat_meets ⟨_, ho, rfl⟩ ⟨_, ho2, rfl⟩ noFill_tuple_add seq_tuple_add PySem.F.slot_tuple_add PySem.F.entry_tuple_add (PySem.F.args_tuple_add_2 _ _)
   (tuple_addW2 t b vs.toArray ws.toArray n n2 dd dd2 sl sl2 (by simpa using hv) (by simpa using hw) (by rw [List.size_toArray, List.size_toArray]; exact hsz)) ⟨ho, ho2, ?_⟩
  rw [e]
  exact h2 hw
noncomputable def sIx (n d : Nat) : Option Int -> Nat
 | none => d
 | some v => if v < 0 then (v + (n : Int)).toNat else min v.toNat n
end
end HT
namespace L2
open PySem PySem.Spec PyProof.Rows
abbrev TO := St -> Hp -> (Option Int -> Hp -> Prop) -> Prop
noncomputable def PO (X : Cx) (e : Option Expr) (t : TO) : Prop :=
 ∀ (pins : List (Addr × Obj)) (s : Shared) (σ : St) (H : Hp) (Q : Option Int -> Hp -> Prop), Inv X pins σ H s -> t σ H Q ->
  wpAny (model X.prog X.w) X.A (evalPart e X.env) (fun u s' => ∃ o H', Inv X pins σ H' s' /\ IsPart u o /\ Q o H') X.xe s
noncomputable def zOM : TO := fun _ H Q => Q none H
noncomputable def tPart (t : TE) : TO := fun σ H Q => t σ H fun x H1 => ∃ i, x = .int i /\ Q (some i) H1
theorem zI1 {ns : List Int} : ∀ {us : List Value}, Vals (ns.map V.int) us -> IntsAre us ns := by
 induction ns with
 | nil => intro us r; rw [List.map_nil] at r; cases r; exact .nil
 | cons n ns ih =>
  intro us r
  rw [List.map_cons] at r
  cases r with
  | cons r1 r2 =>
   obtain ⟨t, e⟩ := r1
   subst e
   exact .cons n t (ih r2)
section
variable {X : Cx} {e : Expr} {te : TE} {lo hi : Option Expr} {tl th : TO} {pos p2 : Pos}
theorem zJD : PO X none zOM := by
 intro pins s σ H Q I h
 rw [evalPart_none]
 exact wpAny_pure ⟨none, H, I, .none, h⟩
theorem zN3 (h : PE X e te) : PO X (some e) (tPart te) := by
 intro pins s σ H Q I hw
 rw [evalPart_some]
 refine thn (h pins s σ H _ I hw) fun u s1 zz => ?_
 obtain ⟨x, H1, I1, r1, q1⟩ := zz
 obtain ⟨i, rfl, q⟩ := q1
 obtain ⟨t, rfl⟩ := r1
 exact ⟨some i, H1, I1, .int i t, q⟩
noncomputable def SlR (X : Cx) (r : V -> Option Int -> Option Int -> Hp -> VK -> Prop) : Prop :=
 ∀ (pins : List (Addr × Obj)) (s : Shared) (σ : St) (H : Hp) (x : V) (v vl vu : Value) (lo hi : Option Int) (sl : Addr) (Q : VK), Inv X pins σ H s -> RelV x v -> s.heap.IsSliceOf sl vl vu .none -> IsPart vl lo -> IsPart vu hi -> r x lo hi H Q ->
  ∃ T id, typeLookup (.type T) "__getitem__" = pure (some (.builtin id)) /\ s.TypeIs v T /\ wpAny (model X.prog X.w) X.A (getItem v (.ref sl)) (EP X pins σ Q) X.xe s
noncomputable def tSl (r : V -> Option Int -> Option Int -> Hp -> VK -> Prop) (te : TE) (tl th : TO) : TE := fun σ H Q => te σ H fun x H1 => tl σ H1 fun l H2 => th σ H2 fun u H3 => r x l u H3 Q
theorem zOm {r : V -> Option Int -> Option Int -> Hp -> VK -> Prop} (hr : SlR X r) (he : PE X e te) (hl : PO X lo tl) (hu : PO X hi th) : PE X (.Subscript e (.Slice lo hi none p2) pos) (tSl r te tl th) := by
 intro pins s σ H Q I h
 refine Subscript_ (thn (he pins s σ H _ I h) fun v s1 zz => ?_)
 obtain ⟨x, H1, I1, r1, q1⟩ := zz
 refine wpAny_Slice (thn (hl pins s1 σ H1 _ I1 q1) fun vl s2 ⟨l, H2, I2, pl, q2⟩ => thn (hu pins s2 σ H2 _ I2 q2) fun vu s3 zz => ?_)
 obtain ⟨u, H3, I3, pu, q3⟩ := zz
 rw [evalPart_none]
 refine wpAny_pure ?_
 have I4 : Inv X pins σ H3 { s3 with heap := s3.heap.push { cls := .type "slice", data := .fields #[vl, vu, .none] } } := I3.kept (t' := s3.toks) fun b ob q => Heap.get?_push_of_some _ q
 obtain ⟨T, id, hT, ht, hg⟩ := hr pins { s3 with heap := s3.heap.push { cls := .type "slice", data := .fields #[vl, vu, .none] } } σ H3 x v vl vu l u s3.heap.objs.size Q I4 r1 (Heap.IsSliceOf.new ..) pl pu q3
 show wpAny (model X.prog X.w) X.A (subscriptTail e (.Slice lo hi none p2) v (.ref s3.heap.objs.size)) (EP X pins σ Q) X.xe { s3 with heap := s3.heap.push { cls := .type "slice", data := .fields #[vl, vu, .none] } }
 exact tail_any (ops := [.ref s3.heap.objs.size, v]) ht hT hg (by with_unfolding_all rfl)
noncomputable def rLtT (K : PySem.W.Frag) : R2 := fun x y H Q => ∃ a b ns ms, x = .ref a /\ y = .ref b /\ SqT K H a (ns.map V.int) /\ SqT K H b (ms.map V.int) /\ Q (.bl (HT.lexLt ns ms)) H
theorem zMC (hu : X.A.units < cLine) : OpR X (compareOp .Lt) (rLtT X.K) := by
 intro pins s σ H x y v u Q I rx ry h
 obtain ⟨a, b, ns, ms, rfl, rfl, ha, hb, q⟩ := h
 cases rx
 cases ry
 obtain ⟨its, r1, p1, _⟩ := I.tuple ha
 obtain ⟨its2, r2, p2, _⟩ := I.tuple hb
 have i1 : IntsAre its.toArray.toList ns := zI1 r1
 have i2 : IntsAre its2.toArray.toList ms := zI1 r2
 exact HT.lt_tupInts p1 p2 i1 i2 hu ⟨.bl (HT.lexLt ns ms), H, I, rfl, q⟩
noncomputable def rCatT (K : PySem.W.Frag) : R2 := fun x y H Q => ∃ a b xs ys, x = .ref a /\ y = .ref b /\ SqT K H a xs /\ SqT K H b ys /\ xs ≠ [] /\ xs.length + ys.length <= sizeLine /\
 (ys = [] -> Q (.ref a) H) /\ (ys ≠ [] -> ∀ p, H p = none -> Q (.ref p) (upd H p (.tup (xs ++ ys))))
theorem Vals.nil_iff {xs : List V} {us : List Value} (r : Vals xs us) : us = [] ↔ xs = [] := by
 cases r with
 | nil => simp
 | cons _ _ => simp
theorem zKe : OpR X (binaryOp .Add) (rCatT X.K) := by
 intro pins s σ H x y v u Q I rx ry h
 obtain ⟨a, b, xs, ys, rfl, rfl, ha, hb, hx, hz, q1, q2⟩ := h
 cases rx
 cases ry
 obtain ⟨its, r1, p1, _⟩ := I.tuple ha
 obtain ⟨its2, r2, p2, _⟩ := I.tuple hb
 refine HT.cat_tup p1 p2 (fun z => hx (r1.nil_iff.mp z)) (fun z => ⟨.ref a, H, I, rfl, q1 (r2.nil_iff.mp z)⟩) (fun z => ?_) (by rw [<- r1.length, <- r2.length]; exact hz)
 refine ⟨.ref s.heap.objs.size, _, I.laid (t' := s.toks) (o := .tup (xs ++ ys)) (fun b ob q => Heap.get?_push_of_some _ q) (Nat.le_refl _) ?_, rfl, q2 (fun w => z (r2.nil_iff.mpr w)) _ (I.hok.fresh (Nat.le_refl _))⟩
 exact ⟨by rw [List.length_append]; exact hz, _, r1.append r2, IsTup.new _ _⟩
end
end L2
namespace L2
open PySem PySem.Spec PyProof.Rows
noncomputable def ixN (n : Nat) (i : Int) : Option Nat := if 0 <= i then (if i < n then some i.toNat else none) else if -(n : Int) <= i then some (i + n).toNat else none
noncomputable def atI {α : Type} (xs : List α) (i : Int) : Option α := (ixN xs.length i).bind fun j => xs[j]?
theorem zMA {n : Nat} {i : Int} {j : Nat} (h : ixN n i = some j) : seqIndex? i n = some j /\ j < n /\ -(n : Int) <= i /\ i < n := by
 unfold ixN at h
 by_cases h0 : 0 <= i
 ·rw [if_pos h0] at h
  by_cases h1 : i < n
  ·rw [if_pos h1] at h
   have e : i.toNat = j := Option.some.inj h
   exact ⟨by rw [seqIndex_of h0 h1, e], by omega, by omega, h1⟩
  ·rw [if_neg h1] at h; cases h
 ·rw [if_neg h0] at h
  by_cases h1 : -(n : Int) <= i
  ·rw [if_pos h1] at h
   have e : (i + n).toNat = j := Option.some.inj h
   exact ⟨by rw [seqIndex_neg (by omega) h1, e], by omega, h1, by omega⟩
  ·rw [if_neg h1] at h; cases h
theorem zHi {α : Type} {xs : List α} {i : Int} {v : α} (h : atI xs i = some v) : ∃ j, seqIndex? i xs.length = some j /\ xs[j]? = some v /\ j < xs.length /\ -(xs.length : Int) <= i /\ i < xs.length := by
 unfold atI at h
 cases e : ixN xs.length i with
 | none => rw [e] at h; cases h
 | some j =>
  rw [e] at h
  obtain ⟨h1, h2, h3, h4⟩ := zMA e
  exact ⟨j, h1, h, h2, h3, h4⟩
theorem zMN {α : Type} {xs : List α} {j : Nat} {v : α} (h : xs[j]? = some v) : atI xs (j : Int) = some v := by
 have hj : j < xs.length := (List.getElem?_eq_some_iff.mp h).1
 have e : ixN xs.length (j : Int) = some j := by
  unfold ixN
  rw [if_pos (by omega), if_pos (by omega)]; simp
 unfold atI; rw [e]; exact h
noncomputable def zHw (b : Expr) : Prop := ∀ o i, subscripted b false o i = operate [o, i] (getItem o i)
noncomputable def IxR (X : Cx) (r : R2) : Prop :=
 ∀ (value slice : Expr) (pins : List (Addr × Obj)) (s : Shared) (σ : St) (H : Hp) (x y : V) (v u : Value) (Q : VK), Inv X pins σ H s -> RelV x v -> RelV y u -> r x y H Q ->
  subscripted slice false v u = operate [v, u] (getItem v u) -> wpAny (model X.prog X.w) X.A (subscriptTail value slice v u) (EP X pins σ Q) X.xe s
noncomputable def MtR (X : Cx) (id : String) (r : V -> List V -> Hp -> VK -> Prop) : Prop :=
 ∀ (pins : List (Addr × Obj)) (s : Shared) (σ : St) (H : Hp) (x : V) (xs : List V) (v : Value) (us : List Value) (Q : VK), Inv X pins σ H s -> RelV x v -> Vals xs us -> r x xs H Q ->
  wpAny (model X.prog X.w) X.A (call (.builtin id) (v :: us)) (EP X pins σ Q) X.xe s
section
variable {X : Cx} {a b : Expr} {ta tb : TE} {pos : Pos}
theorem IxR.or {r r' : R2} (h : IxR X r) (h' : IxR X r') : IxR X (fun x y H Q => r x y H Q ∨ r' x y H Q) := by
 intro value slice pins s σ H x y v u Q I rx ry q hs
 rcases q with q | q
 ·exact h value slice pins s σ H x y v u Q I rx ry q hs
 ·exact h' value slice pins s σ H x y v u Q I rx ry q hs
theorem pe_ix {r : R2} (hr : IxR X r) (ha : PE X a ta) (hb : PE X b tb) (hs : zHw b) : PE X (.Subscript a b pos) (tOp r ta tb) := by
 intro pins s σ H Q I h
 exact Subscript_ (binT ha hb I h fun v u s2 x y H2 I2 rx ry q => hr a b pins s2 σ H2 x y v u Q I2 rx ry q (hs _ _))
noncomputable def rIxL (K : PySem.W.Frag) : R2 := fun x y H Q => ∃ p xs i v, x = .ref p /\ y = .int i /\ SqL K H p xs /\ atI xs i = some v /\ Q v H
noncomputable def rIxT (K : PySem.W.Frag) : R2 := fun x y H Q => ∃ p xs i v, x = .ref p /\ y = .int i /\ SqT K H p xs /\ atI xs i = some v /\ Q v H
theorem zOp : IxR X (rIxL X.K) := by
 intro value slice pins s σ H x y v u Q I rx ry h hs
 obtain ⟨p, xs, i, z, rfl, rfl, hq, he, q⟩ := h
 cases rx
 obtain ⟨t, rfl⟩ := ry
 obtain ⟨its, r, pl, hz⟩ := I.list hq
 obtain ⟨j, h1, h2, h3, h4, h5⟩ := zHi he
 obtain ⟨w, ew, rw'⟩ := r.get h2
 have hl := r.length
 have hn := zDR
 have fin : EP X pins σ Q w s := ⟨z, H, I, rw', q⟩
 by_cases h0 : 0 <= i
 ·have hj : i.toNat = j := by
   rw [seqIndex_of h0 h5] at h1
   exact Option.some.inj h1
  exact item_listR pl.isList h0 (by omega) (by rw [hj]; simpa using ew) fin hs
 ·have hj : (i + (its.toArray.size : Int)).toNat = j := by
   rw [seqIndex_neg (by omega) h4] at h1
   rw [List.size_toArray, <- hl]
   exact Option.some.inj h1
  exact subscriptTail_builtinR (x := w) pl.isList.typeIs slot_list_getitem.lookup
   (wpAny_getItem_list_neg (Q := fun r s' => r = w /\ EP X pins σ Q r s') pl.isList (by omega) (by rw [List.size_toArray] <;> omega) (by omega) (by rw [hj]; simpa using ew) ⟨rfl, fin⟩) hs
theorem zJC : IxR X (rIxT X.K) := by
 intro value slice pins s σ H x y v u Q I rx ry h hs
 obtain ⟨p, xs, i, z, rfl, rfl, hq, he, q⟩ := h
 cases rx
 obtain ⟨t, rfl⟩ := ry
 obtain ⟨its, r, pl, hz⟩ := I.tuple hq
 obtain ⟨j, h1, h2, h3, h4, h5⟩ := zHi he
 obtain ⟨w, ew, rw'⟩ := r.get h2
 have hl := r.length
 have hn := zDR
 have fin : EP X pins σ Q w s := ⟨z, H, I, rw', q⟩
 exact subscriptTail_builtinR (x := w) pl.typeIs slot_tuple_getitem.lookup
  (getItem_tuple (j := j) (Q := fun r s' => r = w /\ EP X pins σ Q r s') pl (by omega) (by omega) (by rw [List.size_toArray, <- hl]; exact h1) (by simpa using ew) ⟨rfl, fin⟩) hs
theorem zNe : zAJ X (.builtin "len") (fun xs H Q => ∃ p ys, xs = [.ref p] /\ (SqL X.K H p ys ∨ SqT X.K H p ys) /\ Q (.int ys.length) H) := by
 intro pins s σ H xs us Q I r h
 obtain ⟨p, ys, rfl, hq, q⟩ := h
 obtain ⟨u, rfl, rx⟩ := zBj r
 cases rx
 have hn := zDR
 rcases hq with hq | hq
 ·obtain ⟨its, r', pl, hz⟩ := I.list hq
  have hlen := r'.length
  exact Calls.call_len_list pl.isList (by simp only [List.size_toArray] <;> omega) ⟨.int ys.length, H, I.tok _, ⟨s.toks + 1, by rw [List.size_toArray, hlen]⟩, q⟩
 ·obtain ⟨its, r', pl, hz⟩ := I.tuple hq
  have hlen := r'.length
  exact len_tuple pl (by simp only [List.size_toArray] <;> omega) ⟨.int ys.length, H, I.tok _, ⟨s.toks + 1, by rw [List.size_toArray, hlen]⟩, q⟩
theorem zKb : zAJ X (.builtin "len") (fun xs H Q => ∃ z, xs = [.str z] /\ z.length <= sizeLine /\ Q (.int z.length) H) := by
 intro pins s σ H xs us Q I r h
 obtain ⟨z, rfl, hz, q⟩ := h
 obtain ⟨u, rfl, t, rfl⟩ := zBj r
 have hn := zDR
 exact len_str (by omega) ⟨.int z.length, H, I.tok _, ⟨_, rfl⟩, q⟩
theorem zLt : zAJ X (.type "list") (fun xs H Q => ∃ p ys, xs = [.ref p] /\ (SqL X.K H p ys ∨ SqT X.K H p ys) /\ ∀ l, H l = none -> Q (.ref l) (upd H l (.lst ys))) := by
 intro pins s σ H xs us Q I r h
 obtain ⟨p, ys, rfl, hq, q⟩ := h
 obtain ⟨u, rfl, rx⟩ := zBj r
 cases rx
 have fin : ∀ (its : List Value), Vals ys its -> ys.length <= sizeLine -> ∀ (h' : Heap) (c' : Nat), (∀ b o', s.heap.get? b = some o' -> h'.get? b = some o') ->
   h'.get? s.heap.objs.size = some { cls := .type "list", dict := none, data := .seq its.toArray c', slots := #[] } -> EP X pins σ Q (.ref s.heap.objs.size) { s with heap := h' } := fun its r' hz h' c' kp e =>
  ⟨.ref s.heap.objs.size, _, I.laid (t' := s.toks) kp (Nat.le_refl _) (show zA0 X.prog X.w _ h' _ (.lst ys) from ⟨hz, its, c', r', e⟩), rfl, q _ (I.hok.fresh (Nat.le_refl _))⟩
 rcases hq with hq | hq
 ·obtain ⟨its, r', pl, hz⟩ := I.list hq
  have hlen := r'.length
  obtain ⟨o, ho, hc, n, hd⟩ := pl.isList
  exact call_list_seq p (.inl rfl) ho hc hd (fun h' c' kp e => fin its r' hz h' c' kp e) (by simp only [List.size_toArray] <;> omega)
 ·obtain ⟨its, r', pl, hz⟩ := I.tuple hq
  have hlen := r'.length
  obtain ⟨o, ho, hc, n, hd⟩ := pl
  exact call_list_seq p (.inr rfl) ho hc hd (fun h' c' kp e => fin its r' hz h' c' kp e) (by simp only [List.size_toArray] <;> omega)
theorem zOi : zAJ X (.type "tuple") (fun xs H Q => ∃ p ys, xs = [.ref p] /\ ((SqL X.K H p ys /\ ∀ l, H l = none -> Q (.ref l) (upd H l (.tup ys))) ∨ (SqT X.K H p ys /\ Q (.ref p) H))) := by
 intro pins s σ H xs us Q I r h
 obtain ⟨p, ys, rfl, h⟩ := h
 obtain ⟨u, rfl, rx⟩ := zBj r
 cases rx
 rcases h with ⟨hq, q⟩ | ⟨hq, q⟩
 ·obtain ⟨its, r', pl, hz⟩ := I.list hq
  have hlen := r'.length
  refine call_tuple_list pl.isList (fun h' kp => ?_) (by simp only [List.size_toArray] <;> omega)
  have I1 : Inv X pins σ H { s with heap := h' } := I.kept (t' := s.toks) kp
  have I2 : Inv X pins σ (upd H h'.objs.size (.tup ys)) { s with heap := h'.push { cls := .type "tuple", data := .seq its.toArray } } :=
   I1.laid (t' := s.toks) (fun b o e => Heap.get?_push_of_some _ e) (Nat.le_refl _) (show zA0 X.prog X.w _ _ _ (.tup ys) from ⟨hz, its, r', IsTup.new _ _⟩)
  exact ⟨.ref h'.objs.size, _, I2, rfl, q _ (I1.hok.fresh (Nat.le_refl _))⟩
 ·obtain ⟨its, r', pl, hz⟩ := I.tuple hq
  exact call_tuple_same pl ⟨.ref p, H, I, rfl, q⟩
noncomputable def tyV (K : PySem.W.Frag) (T : String) (x : V) (H : Hp) : Prop := match x with
 | .str _ => T = "str"
 | .int _ => T = "int"
 | .ref p => (T = "list" /\ ∃ xs, SqL K H p xs) ∨ (T = "tuple" /\ ∃ o, K.lookup p = some o /\ o.cls = .type "tuple" /\ o.dict = none) ∨
   (T = "dict" /\ ((∃ kvs, H p = some (.dK kvs)) ∨ ∃ kvs, H p = some (.dT kvs))) ∨ (T = "set" /\ ∃ S n, H p = some (.set S n))
 | _ => False
theorem zKx {pins : List (Addr × Obj)} {σ : St} {H : Hp} {s : Shared} {T : String} {x : V} {v : Value} (I : Inv X pins σ H s) (r : RelV x v) (ty : tyV X.K T x H) :
  s.TypeIs v T /\ ∀ a, v = .ref a -> ∃ ob, s.heap.get? a = some ob /\ ob.dict = none := by
 cases x with
 | str z =>
  obtain ⟨t, rfl⟩ := r
  cases (show T = "str" from ty)
  exact ⟨typeIs_str s z t, fun _ e => nomatch e⟩
 | int i =>
  obtain ⟨t, rfl⟩ := r
  cases (show T = "int" from ty)
  exact ⟨typeIs_int s i t, fun _ e => nomatch e⟩
 | ref p =>
  cases r
  rcases ty with ⟨rfl, xs, hq⟩ | ⟨rfl, o, hk, hc, hd⟩ | ⟨rfl, hk⟩ | ⟨rfl, S, n, hk⟩
  ·obtain ⟨its, _, pl, _⟩ := I.list hq
   refine ⟨pl.isList.typeIs, fun a e => ?_⟩
   cases e
   obtain ⟨o, n, e, c, hd, _⟩ := pl
   exact ⟨o, e, hd⟩
  ·refine ⟨⟨o, I.kIn p o hk, hc⟩, fun a e => ?_⟩
   cases e
   exact ⟨o, I.kIn _ o hk, hd⟩
  ·have z : ∃ o, s.heap.get? p = some o /\ o.ExactDict := by
    rcases hk with ⟨kvs, hk⟩ | ⟨kvs, hk⟩
    ·obtain ⟨_, _, _, _, o, _, _, e, ex, _⟩ := I.hok p _ hk
     exact ⟨o, e, ex⟩
    ·obtain ⟨_, _, _, _, o, _, _, e, ex, _⟩ := I.hok p _ hk
     exact ⟨o, e, ex⟩
   obtain ⟨o, e, ex⟩ := z
   refine ⟨⟨o, e, ex.1⟩, fun a e2 => ?_⟩
   cases e2
   exact ⟨o, e, ex.2.1⟩
  ·obtain ⟨o, _, _, _, e, ex, _⟩ := I.hok p _ hk
   refine ⟨⟨o, e, ex.1⟩, fun a e2 => ?_⟩
   cases e2
   exact ⟨o, e, ex.2.1⟩
 | _ => exact False.elim ty
noncomputable def tBM (K : PySem.W.Frag) (T : String) (r : V -> List V -> Hp -> VK -> Prop) (to : TE) (t : TA) : TE := fun σ H Q => to σ H fun x H1 => tyV K T x H1 /\ t σ H1 fun xs H2 => r x xs H2 Q
variable {o e : Expr} {es : List Expr} {to : TE} {t : TA} {name : Str} {apos cpos : Pos} {T id : String} {r : V -> List V -> Hp -> VK -> Prop}
theorem zCz (pa : PlainAttrs T) (slot : Slot T name id) (hty : typeOf (.builtin id) = pure (.type "method_descriptor")) (hm : MtR X id r) (ho : PE X o to) (ha : PA X (e :: es) t)
  (hbase : attributeBase o name X.env (eval o X.env) = eval o X.env := by rfl)
  (hfew : ((backTo cpos (starEach (e :: es) X.env)).all (fun x => !x.1) && (backToKw cpos (keywordEach [] X.env)).all (fun x => x.1.isSome)
   && decide ((e :: es).length + ([] : List Keyword).length + (if ([] : List Keyword).isEmpty then 0 else 1) < 30)) = true := by rfl)
  (hline : (apos.endLine == cpos.line) = true := by rfl) (hs : starEach (e :: es) X.env = (false, eval e X.env) :: starEach es X.env := by rfl) (hplain : (backTo cpos (starEach es X.env)).any (·.1) = false := by rfl) :
  PE X (.Call (.Attribute o name apos) (e :: es) [] cpos) (tBM X.K T r to t) := by
 intro pins s σ H Q I h
 refine wpAny_Call_method_late hbase hfew hline rfl (thn (ho pins s σ H _ I h) fun v s1 zz => ?_)
 obtain ⟨x, H1, I1, r1, ty, q1⟩ := zz
 obtain ⟨h1, h2⟩ := zKx I1 r1 ty
 refine ⟨T, id, pa, slot, hty, h1, h2, ?_⟩
 have hA := ha cpos pins s1 σ H1 _ I1 q1
 rw [hs] at hA ⊢
 refine Calls.callWith_builtin (by show (false || (backTo cpos (starEach es X.env)).any (·.1)) = false; rw [hplain] <;> rfl) (Calls.evalArgs_plain ?_)
 exact thn hA fun us s2 ⟨vs, H2, I2, r2, q2⟩ => hm pins s2 σ H2 x vs v us Q I2 r1 r2 q2
end
end L2
namespace L2
open PySem PySem.Spec PyProof.Rows
noncomputable def MtM (X : Cx) (id : String) (r : V -> List V -> Hp -> VK -> Prop) : Prop :=
 ∀ (pins : List (Addr × Obj)) (s : Shared) (σ : St) (H : Hp) (x : V) (xs : List V) (v : Value) (us : List Value) (Q : VK), Inv X pins σ H s -> RelV x v -> Vals xs us -> r x xs H Q ->
  wpAny (model X.prog X.w) X.A (call (.builtin id) (v :: us)) (EP X pins σ Q) X.xe s
theorem Vals.one : ∀ {x : V} {us : List Value}, Vals [x] us -> ∃ u, us = [u] /\ RelV x u
 | _, _, .cons r .nil => ⟨_, rfl, r⟩
section
variable {X : Cx} {pins : List (Addr × Obj)} {σ : St} {H : Hp} {s : Shared} {l b : Addr} {xs ys zs : List V}
theorem Inv.lset {its its' : List Value} {n : Nat} {f : Array Value -> Array Value} {t' : Nat} (I : Inv X pins σ H s) (hH : H l = some (.lst xs))
  (e : s.heap.get? l = some { cls := .type "list", data := .seq its.toArray n }) (hf : f its.toArray = its'.toArray) (hv : Vals ys its') (hz : ys.length <= sizeLine) :
  Inv X pins σ (upd H l (.lst ys)) { s with heap := s.heap.update l (Obj.mapSeq f), toks := t' } := by
 have q := PySem.IsL.update e f
 rw [hf] at q
 refine I.write (x := l) (e := l) (by rw [hH]; exact trivial) (.inl rfl) (fun b' u hb hu => (Heap.get?_update_other s.heap (Obj.mapSeq f) (Ne.symm hb)).trans hu) ⟨_, q⟩ ?_
 exact ⟨hz, its', _, hv, q⟩
theorem Inv.lnew {its : List Value} {t' : Nat} (I : Inv X pins σ H s) (hv : Vals ys its) (hz : ys.length <= sizeLine) :
  Inv X pins σ (upd H s.heap.objs.size (.lst ys)) { s with heap := s.heap.push { cls := .type "list", data := .seq its.toArray }, toks := t' } :=
 I.laid (fun _ _ q => Heap.get?_push_of_some _ q) (Nat.le_refl _) ⟨hz, its, 0, hv, Heap.get?_push_size _ rfl⟩
theorem Inv.fresh (I : Inv X pins σ H s) : H s.heap.objs.size = none := I.hok.fresh (Nat.le_refl _)
theorem Inv.lstM (I : Inv X pins σ H s) (hH : H l = some (.lst xs)) : xs.length <= sizeLine /\ ∃ (its : List Value) (n : Nat), Vals xs its /\ xs.length = its.length /\ s.heap.get? l = some { cls := .type "list", data := .seq its.toArray n } := by
 obtain ⟨z, its, n, r, e⟩ := I.hok l _ hH
 exact ⟨z, its, n, r, r.length, e⟩
theorem zOK {n : Nat} (h : n <= sizeLine) : Builtin.List.listTooLong n = false := by
 unfold Builtin.List.listTooLong
 exact decide_eq_false (by omega)
end
section
variable {X : Cx}
noncomputable def zNS : V -> List V -> Hp -> VK -> Prop := fun x vs H Q => ∃ l xs y, x = .ref l /\ vs = [y] /\ H l = some (.lst xs) /\ xs.length < sizeLine /\ Q .non (upd H l (.lst (xs ++ [y])))
theorem zFp : MtM X "list.append" zNS := by
 intro pins s σ H x vs v us Q I rx rv h
 obtain ⟨l, xs, y, rfl, rfl, hH, hz, q⟩ := h
 cases rx
 obtain ⟨u, rfl, ru⟩ := rv.one
 obtain ⟨z, its, n, r, hl, e⟩ := I.lstM hH
 refine call_meets F.slot_list_append ⟨_, e, rfl⟩ F.entry_list_append (F.args_list_append_2 _ _) (PySem.list_append l its.toArray n u (by rw [List.size_toArray]; omega)) ⟨e, ?_⟩
 refine ⟨.non, _, I.lset (its' := its ++ [u]) hH e (by simp) (r.append (.cons ru .nil)) ?_, rfl, q⟩
 rw [List.length_append, List.length_singleton]
 omega
end
section
variable {prog : Program} {w : World} {A : Around} {E : Value -> Shared -> Prop} {s : Shared}
end
section
variable {X : Cx}
end
end L2
namespace Att
open PySem PySem.W PySem.Calls PyProof.Rows
theorem zNJ {P : Params} {h : Heap} : ∀ (ns : List Int) (vs : List Value), WellAll P h vs (ns.map WData.int) -> IntsAre vs ns := by
 intro ns
 induction ns with
 | nil =>
  intro vs w
  rw [List.map_nil] at w
  cases w
  exact .nil
 | cons n ns ih =>
  intro vs w
  rw [List.map_cons] at w
  cases w with
  | cons a b =>
   cases a
   exact .cons _ _ (ih _ b)
theorem zOu {l : OpenLaw} {n : Nat} (hn : l.most = some n) {P : Params} {h : Heap} {args : List WData} {vals : List Value}
  (hpre : l.row.toRowW.claim.pre args = true) (hwl : WellAll P h vals args) :
  ∃ a vs ns, vals = [Value.ref a] /\ args = [WData.list (ns.map WData.int)] /\ h.get? a = some { cls := .type "list", data := .seq vs.toArray } /\ IntsAre vs ns /\ ns.length <= n := by
 have hsh : WShape.hasAll [] args [.list .int] = true := (pre_splitW hpre).1
 have hc : l.pre.holds [] { args := args } = true := (pre_splitW hpre).2
 obtain ⟨d, r, rfl, h1, h2⟩ := hasAllW_cons hsh
 obtain rfl := hasAllW_nil h2
 obtain ⟨xs, rfl, h3⟩ := hasW_list h1
 obtain ⟨ns, rfl⟩ := items_int h3
 have hlen : ns.length <= n := by
  unfold OpenLaw.pre at hc
  have h4 : (WTm.not (.lt (.lit (.int (n : Int))) (.len (.arg 0)))).holds [] { args := [.list (ns.map .int)] } = true := by
   have h4 := (holds_andW hc).1
   rw [hn] at h4
   exact h4
  have h5 := condW_of h4 (w_not (w_lt w_lit (w_len_list (w_arg rfl))))
  rw [List.length_map] at h5
  refine Nat.le_of_not_lt fun q => ?_
  have q' : (n : Int) < ((ns.length : Nat) : Int) := by omega
  first
   | (rw [decide_eq_true q'] at h5; exact absurd h5 (by decide))
   | (simp at h5; omega)
 cases hwl with
 | cons w1 w2 =>
  cases w2
  cases w1 with
  | list ho hall => exact ⟨_, _, ns, rfl, rfl, ho, zNJ ns _ hall, hlen⟩
theorem zJr (l : OpenLaw) (args : List WData) : l.row.toRowW.claim.post args (.bool true) args = true :=
 postW_of (r := l.row.toRowW) (X := (true == true))
  (show WShape.has [] (.bool true) .bool = true by first | rfl | decide | simp [WShape.has, WShape.arms, WShape.armsAll])
  (show (WTm.eq .res (.lit (.bool true))).value [] { args := args, res := some (.bool true), after := args } = some (.bool (true == true)) from w_eq_bool (w_res rfl) w_lit) rfl
theorem attach_call {l : OpenLaw} {n : Nat} {q : Program} {loose : List Str} {XP : (Str -> Option Value) -> Heap -> Prop} {YP : World -> Heap -> Prop} {d : DefRec}
  (hn : l.most = some n) (hdf : d.params.defaults = [])
  (call : ∀ (w : World) (s₀ s₁ : Shared) (mg mb : Str -> Option Value) (fa : Addr) (o : Obj) (pm cd doc : Value) (a : Addr) (vs : List Value) (ns : List Int),
   Ground q loose [] XP w s₀ mg mb s₁.heap -> YP w s₁.heap ->
   s₁.heap.get? fa = some o -> o.data = .func (docDef d.name d.params d.body d.scope pm cd doc) -> s₁.heap.CodeRec cd d.name -> mg d.name = some (.ref fa) ->
   s₁.heap.get? a = some { cls := .type "list", data := .seq vs.toArray } -> IntsAre vs ns -> ns.length <= n -> s₁.gens = #[] ->
   codeAny (model l.prog w) callerA (.call (.ref fa) ⟨[.ref a], []⟩) (fun r s' => r = .ok (.ret (.bool true)) /\ OldK s₁.heap s'.heap /\ s'.os = s₁.os /\ AllBare s'.gens) s₁) :
  WalkO q loose XP YP l.row.toRowW d [] (fun f vs => PySem.call f vs) := by
 intro w s₀ s₁ mg mb G Y fa o pm cd doc dV kV ho hd hcd hD hmg hg args vals as hpre hlay hrd hwl hlo
 obtain rfl : dV = .none := Dflts.none hD hdf
 obtain rfl : kV = .none := Dflts.noKw hD
 obtain ⟨a, vs, ns, rfl, rfl, hobj, hints, hlen⟩ := zOu hn hpre hwl
 refine enter_call (codeAny_mono (call w s₀ s₁ mg mb fa o pm cd doc a vs ns G Y ho (fd_plain hd) hcd hmg hobj hints hlen hg) fun r s' hq => ?_)
 obtain ⟨rfl, h2, h3, h4⟩ := hq
 exact ⟨.inl ⟨.bool true, .bool true, [], rfl, fun _ => rfl, .bool true, zJr l _, fun _ => ⟨List.Pairwise.nil, fun _ hm => (nomatch hm)⟩⟩, h2, h3, h4⟩
section
variable {prog : Program} {w : World} {A : Around} {E : Value -> Shared -> Prop} {s : Shared} {K : Frag}
end
end Att
namespace L2
open PySem PySem.Spec PyProof.Rows
theorem zIO : ∀ {vs : List Value} {ns : List Int}, IntsAre vs ns -> Vals (ns.map V.int) vs
 | _, _, .nil => .nil
 | _, _, .cons n t h => .cons ⟨t, rfl⟩ (zIO h)
noncomputable def Only (H : Hp) : Prop := ∀ b, H b = none ∨ ∃ o xs, H b = some (.frz o (.lst xs))
theorem zMe {P : Program} {w : World} {K : PySem.W.Frag} {mg mb : Str -> Option Value} {CX : CXT} {k : Nat} {fa a : Addr} {fd : FuncData} {x : Str} {sp : Sp} {s₁ : Shared} {vs : List Value} {ns : List Int}
  (KX : K.In s₁.heap) (hns : s₁.heap.Ns mainGlobals mg) (hb : s₁.heap.Ns builtinsNs mb) (hbb : ∀ x : Str, x ≠ "__name__" -> mb x = bootBuiltins x) (hlim : s₁.heap.NoLimit) (hg : s₁.gens = #[])
  (ha : s₁.heap.get? a = some { cls := .type "list", data := .seq vs.toArray }) (hi : IntsAre vs ns) (hl : ns.length <= sizeLine) (hr : Room k callerA)
  (F : ∀ base : Heap, K.In base -> base.Ns mainGlobals mg -> FnOk P w K mg base CX k fa fd [x] sp) (hbind : ∀ (s : Shared) (u : Value), BindsTo s fd ⟨[u], []⟩ [(x, u)])
  (hsp : ∀ H : Hp, Only H -> SqL K H a (ns.map V.int) -> sp [.ref a] H (fun v _ => v = .bl true) fun _ _ _ => False)
  (hCX : ∀ H e s', CX [] H s₁ (fun _ _ _ => False) e s' -> False) :
  codeAny (model P w) callerA (.call (.ref fa) ⟨[.ref a], []⟩) (fun r s' => r = .ok (.ret (.bool true)) /\ OldK s₁.heap s'.heap /\ s'.os = s₁.os /\ AllBare s'.gens) s₁ := by
 have rv := zIO hi
 have lenV := hi.length
 have core : ∀ H : Hp, Only H -> SqL K H a (ns.map V.int) -> HOk P w H s₁.heap -> (∀ b, H b ≠ none -> b = a) -> (H a ≠ none -> K.lookup a = none) ->
   codeAny (model P w) callerA (.call (.ref fa) ⟨[.ref a], []⟩) (fun r s' => r = .ok (.ret (.bool true)) /\ OldK s₁.heap s'.heap /\ s'.os = s₁.os /\ AllBare s'.gens) s₁ := by
  intro H hO hS hok hA hK
  have base_of : ∀ {b : Addr} {o : Obj}, s₁.heap.get? b = some o -> H b = none -> (hidT s₁.heap H).get? b = some o := fun e n => zNR e n
  have noA : ∀ {b : Addr} {o : Obj} {es : Array DictEntry} {ep : Nat}, s₁.heap.get? b = some o -> o.data = .dict es ep -> H b = none := fun {b o es ep} e d => by
   cases q : H b with
   | none => rfl
   | some u =>
    have e' : b = a := hA b (by rw [q]; simp)
    subst e'
    rw [ha] at e; cases e
    have d' : Data.seq vs.toArray _ = Data.dict es ep := d
    cases d'
  have nsK : ∀ {b : Addr} {m : Str -> Option Value}, s₁.heap.Ns b m -> (hidT s₁.heap H).Ns b m := fun {b m} ⟨o, es, ep, e, d, r⟩ => ⟨o, es, ep, base_of e (noA e d), d, r⟩
  have hKb : K.In (hidT s₁.heap H) := fun b o e => base_of (KX b o e) (by
   cases q : H b with
   | none => rfl
   | some u =>
    have e' : b = a := hA b (by rw [q]; simp)
    subst e'
    rw [hK (by rw [q]; simp)] at e; cases e)
  have hM : Mod K mg (hidT s₁.heap H) := ⟨hKb, nsK hns, ⟨mb, nsK hb, hbb⟩, let ⟨mc, h1, h2⟩ := hlim; ⟨mc, nsK h1, h2⟩⟩
  have e0 : Env0 P w K mg (hidT s₁.heap H) callerA [] s₁ H := ⟨rfl, hM, fun b o e => zM1 e, Nat.le_of_eq (zJG _ _), trivial, fun b hb => absurd (show b ∈ ([] : List Addr) from hb) (by simp), hok, .of_eq hg⟩
  refine codeAny_mono ((F _ hKb (nsK hns)).run callerA [] s₁ H ⟨[.ref a], []⟩ [.ref a] [.ref a] _ _ hr e0 (hbind s₁ (.ref a)) (.cons rfl .nil) (hsp H hO hS)) fun r s' h => ?_
  cases r with
  | error e => exact (hCX H e s' h).elim
  | ok fl =>
   cases fl with
   | next => exact False.elim h
   | brk => exact False.elim h
   | cont => exact False.elim h
   | ret u =>
    obtain ⟨v, H', os, bare, un, hok', r', q⟩ := h
    have q' : v = .bl true := q
    subst q'
    obtain rfl : u = Value.bool true := r'
    refine ⟨rfl, OldK.of_keep fun b o e => ?_, os, bare⟩
    cases q : H b with
    | none => exact un.keep b o e q (by intro z; exact absurd (show b ∈ ([] : List Addr) from z) (by simp)) (by simp)
    | some u =>
     rcases hO b with z | ⟨ob, xs, z⟩
     ·rw [q] at z; cases z
     ·have z2 := un.frzs b ob _ z
      obtain ⟨e1, _⟩ := hok b _ z
      obtain ⟨e2, _⟩ := hok' b _ z2
      rw [e] at e1; cases e1
      exact e2
 cases hk : K.lookup a with
 | some o =>
  have e := KX a o hk
  rw [ha] at e
  cases e
  refine core (fun _ => none) (fun _ => .inl rfl) (.inr ⟨_, vs.toArray, _, hk, rfl, rfl, rfl, by rw [List.size_toArray, lenV]; exact hl, by simpa using rv⟩) (fun b u z => by have z' : (none : Option HO) = some u := z; cases z') (fun b z => absurd rfl z) fun z => absurd rfl z
 | none =>
  refine core (fun b => if b = a then some (.frz { cls := .type "list", data := .seq vs.toArray } (.lst (ns.map V.int))) else none) (fun b => ?_) (.inl (.inr ⟨{ cls := .type "list", data := .seq vs.toArray }, if_pos rfl⟩)) (fun b u z => ?_) (fun b z => ?_) fun _ => hk
  ·by_cases hb : b = a
   ·exact .inr ⟨_, _, if_pos hb⟩
   ·exact .inl (if_neg hb)
  ·by_cases hb : b = a
   ·have z' := (if_pos hb).symm.trans z
    cases z'
    subst hb
    exact ⟨ha, by rw [List.length_map]; exact hl, vs, _, rv, ha⟩
   ·have z' := (if_neg hb).symm.trans z
    cases z'
  ·by_cases hb : b = a
   ·exact hb
   ·exact absurd (if_neg hb) z
end L2
namespace L2
open PySem PySem.Spec PyProof.Rows
theorem walk_of {l : PySem.W.OpenLaw} {n k : Nat} {q : Program} {loose : List Str} {XP : (Str -> Option Value) -> Heap -> Prop} {YP : World -> Heap -> Prop} {d : DefRec} {K : Params -> PySem.W.Frag} {CX : World -> CXT} {sp : World -> Sp} {x : Str}
  (hn : l.most = some n) (hn2 : n <= sizeLine) (hdf : d.params.defaults = []) (hr : Room k callerA)
  (hY : ∀ (w : World) (h : Heap), YP w h -> (K w.params).In h)
  (F : ∀ (w : World) (mg : Str -> Option Value) (fa : Addr) (h : Heap), (K w.params).In h -> h.Ns mainGlobals mg -> mg d.name = some (.ref fa) ->
   ∃ fd : FuncData, (∀ (s : Shared) (u : Value), BindsTo s fd ⟨[u], []⟩ [(x, u)]) /\
    ∀ base : Heap, (K w.params).In base -> base.Ns mainGlobals mg -> FnOk l.prog w (K w.params) mg base (CX w) k fa fd [x] (sp w))
  (hsp : ∀ (w : World) (H : Hp) (a : Addr) (ns : List Int), ns.length <= n -> Only H -> SqL (K w.params) H a (ns.map V.int) -> sp w [.ref a] H (fun v _ => v = .bl true) fun _ _ _ => False)
  (hCX : ∀ (w : World) (H : Hp) (s : Shared) (e : Value) (s' : Shared), CX w [] H s (fun _ _ _ => False) e s' -> False) :
  PySem.W.WalkO q loose XP YP l.row.toRowW d [] (fun f vs => PySem.call f vs) := by
 refine Att.attach_call hn hdf fun w s₀ s₁ mg mb fa o pm cd doc a vs ns G Y ho hd hcd hmg hobj hints hlen hg => ?_
 have KX := hY w _ Y
 obtain ⟨fd, hb, hF⟩ := F w mg fa _ KX G.T.g hmg
 exact zMe KX G.T.g G.T.b G.T.builtins G.T.nolimit hg hobj hints (Nat.le_trans hlen hn2) hr hF hb (fun H hO hS => hsp w H a ns hlen hO hS) fun H e s' => hCX w H s₁ e s'
end L2
namespace L2
open PySem PySem.Spec PyProof.Rows
noncomputable def zAB (s : Stmt) : Arguments := match s with
 | .FunctionDef _ a _ _ _ _ _ _ _ _ => a
 | _ => { posonlyargs := [], args := [], vararg := none, kwonlyargs := [], kw_defaults := [], kwarg := none, defaults := [] }
noncomputable def zAv (s : Stmt) : List Stmt := match s with
 | .FunctionDef _ _ b _ _ _ _ _ _ _ => b
 | _ => []
noncomputable def zAf (s : Stmt) : Scope := match s with
 | .FunctionDef _ _ _ _ _ _ sc _ _ _ => sc
 | _ => { kind := .function, names := [], isGenerator := false, isCoroutine := false }
abbrev CX0 : CXT := fun _ _ _ _ _ _ => False
abbrev E0 : XK := fun _ _ _ => False
theorem pass0 {X : Cx} : zFj CX0 X E0 := fun _ _ _ _ _ _ _ h => h.elim
structure Fun (K : PySem.W.Frag) (x qual : Str) (st : Stmt) (f : Addr) (fd : FuncData) : Prop where
 ex : ∃ (oc : Value) (od : Option Addr) (kV doc pm : Value) (an : Option Addr) (cdv ct : Value) (osl : Array (Option Value)),
  fd = PySem.W.fnOf x qual (zAB st) (zAv st) (zAf st) .none kV doc pm an cdv ct /\ K.lookup f = some ⟨oc, od, .func fd, osl⟩ /\ PySem.W.codeIn K cdv qual = true
 kp : PySem.W.keepIn K (.ref f) = true
section
variable {P : Program} {w : World} {K : PySem.W.Frag} {mg : Str -> Option Value} {base : Heap}
theorem Fun.ok {x qual : Str} {st : Stmt} {f : Addr} {fd : FuncData} {N ps : List Str} {k : Nat} {sp : Sp} (F : Fun K x qual st f fd) (S : zAx N ps (zAf st)) (len : ∀ vs H Q E, sp vs H Q E -> vs.length = ps.length)
  (hbody : ∀ (cdv : Value) (A : Around) (outer : List Env) (s : Shared) (H : Hp) (vs : List V) (Q : VK) (E : XK), Room k (A.deeper (envOfC qual (zAf st) s.heap.objs.size f cdv)) -> sp vs H Q E ->
   ∃ t, PSs (cxOf CX0 P w K mg base N qual (zAf st) f cdv A outer s H E).nox (zAv st) t /\ t { nx := fun _ H' => Q .non H', rt := Q } (start N vs) H) : FnOk P w K mg base CX0 (k + 1) f fd ps sp := by
 obtain ⟨oc, od, kV, doc, pm, an, cdv, ct, osl, rfl, lk, hcd⟩ := F.ex
 refine zFA lk hcd S len fun A outer s H vs Q E hr hsp => ?_
 obtain ⟨t, h, q⟩ := hbody cdv A outer s H vs Q E hr hsp
 exact ⟨t, h.nox, q⟩
theorem Fun.binds {x qual : Str} {st : Stmt} {f : Addr} {fd : FuncData} {ps : List Str} (F : Fun K x qual st f fd)
  (h : ∀ (kV doc pm : Value) (an : Option Addr) (cdv ct : Value) (us : List Value), us.length = ps.length -> bindArgs (PySem.W.fnOf x qual (zAB st) (zAv st) (zAf st) .none kV doc pm an cdv ct) ⟨us, []⟩ = pure (ps.zip us)) : Binds K fd ps [] := by
 obtain ⟨oc, od, kV, doc, pm, an, cdv, ct, osl, rfl, lk, hcd⟩ := F.ex
 exact .all (h kV doc pm an cdv ct)
theorem zAL {x qual : Str} {st : Stmt} {f : Addr} {oc : Value} {od an : Option Addr} {osl : Array (Option Value)} {kV doc pm cdv ct : Value} (l : K.lookup f = some ⟨oc, od, .func (PySem.W.fnOf x qual (zAB st) (zAv st) (zAf st) .none kV doc pm an cdv ct), osl⟩)
  (c : PySem.W.codeIn K cdv qual = true) (k : PySem.W.keepIn K (.ref f) = true) : Fun K x qual st f (PySem.W.fnOf x qual (zAB st) (zAv st) (zAf st) .none kV doc pm an cdv ct) := ⟨⟨oc, od, kV, doc, pm, an, cdv, ct, osl, rfl, l, c⟩, k⟩
end
theorem zEc {n : Nat} (h : n <= 1000) : n < sizeLine := Nat.lt_of_le_of_lt h (by decide)
section
variable {X : Cx}
end
noncomputable def Same (H H' : Hp) : Prop := ∀ b o, H b = some o -> H' b = some o
theorem Same.refl (H : Hp) : Same H H := fun _ _ h => h
theorem Same.trans {H H1 H2 : Hp} (a : Same H H1) (b : Same H1 H2) : Same H H2 := fun c o h => b c o (a c o h)
theorem Same.free {H H' : Hp} (e : Same H H') {l : Addr} (h : H' l = Option.none) : H l = Option.none := by
 cases q : H l with
 | none => rfl
 | some o =>
  rw [e l o q] at h
  cases h
end L2
namespace SG
open PySem PyProof.Rows
structure Fit (src : Array Keyed) (kd : SortKind) (z : SortSt) : Prop where
 mix : (arrOf z).Perm src
 kd : kindOf z = kd
 fine : failedOf z = none
 none : pendingOf z = #[]
theorem Fit.len {src : Array Keyed} {kd : SortKind} {z : SortSt} (f : Fit src kd z) : (arrOf z).size = src.size := f.mix.size_eq
theorem Fit.re {src : Array Keyed} {kd : SortKind} {z : SortSt} (f : Fit src kd z) {ys : Array Keyed} (m : ys.Perm (arrOf z)) : Fit src kd (setArr z ys) := ⟨m.trans f.mix, f.kd, f.fine, f.none⟩
section
variable {prog : Program} {w : World} {A : Around} {E : Value -> Shared -> Prop} {s : Shared} {src : Array Keyed} {κ : KeyKind} {kd : SortKind}
noncomputable def Asks (prog : Program) (w : World) (A : Around) (s : Shared) (κ : KeyKind) (kd : SortKind) : Prop :=
 ∀ (x y : Value) (a b : κ.α) (E : Value -> Shared -> Prop) (Q : Bool -> Shared -> Prop), κ.keyOf x = some a -> κ.keyOf y = some b -> Q (κ.blt a b) s -> wpAny (model prog w) A (keyLt' kd x y) Q E s
theorem Fit.item {z : SortSt} (f : Fit src kd z) (all : KeysOf κ src) {i : Nat} (h : i < src.size) : ∃ x y a, (arrOf z)[i]? = some (x, y) /\ κ.keyOf x = some a /\ KK κ (arrOf z) i = a := by
 have h' : i < (arrOf z).size := by rw [f.len]; exact h
 have e := getElem?_pos (arrOf z) i h'
 obtain ⟨a, ha⟩ := all (arrOf z)[i] ((Array.perm_iff_toList_perm.mp f.mix).mem_iff.mp (by simp))
 exact ⟨_, _, a, e, ha, by unfold KK; rw [e]; simp [ha]⟩
theorem zDa {z : SortSt} {i j : Nat} {Q : Option Bool -> SortSt -> Prop} (L : Asks prog w A s κ kd) (f : Fit src kd z) (all : KeysOf κ src) (hi : i < src.size) (hj : j < src.size)
  (k : Q (some (κ.blt (KK κ (arrOf z) i) (KK κ (arrOf z) j))) z) : wpS (model prog w) A E s (ltAt' i j) Q z := by
 obtain ⟨x, x', a, e1, ka, qa⟩ := f.item all hi
 obtain ⟨y, y', b, e2, kb, qb⟩ := f.item all hj
 rw [qa, qb] at k
 rw [ltAt'_eq]
 refine wpS_bind (wpS_get ?_)
 show wpS _ _ _ _ (elem' (arrOf z) i >>= fun u => elem' (arrOf z) j >>= fun v => lt' u v) Q z
 rw [elem'_eq, e1, elem'_eq, e2]
 refine wpS_bind (wpS_pure (wpS_bind (wpS_pure ?_)))
 rw [lt'_eq]
 refine wpS_bind (wpS_get (wpS_bind (wpS_lift (wpAny_attempt ?_))))
 rw [f.kd]
 exact L x y a b _ _ ka kb ⟨rfl, wpS_pure k⟩
theorem zGC {z : SortSt} {a top : Nat} {Q : AscSt -> SortSt -> Prop} (L : Asks prog w A s κ kd) (all : KeysOf κ src) (f : Fit src kd z) (h1 : 1 <= a) (h2 : a <= top) (h3 : top <= src.size) (r : SortedToK κ (arrOf z) a)
  (k : ∀ n, a <= n -> n <= top -> SortedToK κ (arrOf z) n -> n = top ∨ κ.klt (KK κ (arrOf z) n) (KK κ (arrOf z) (n - 1)) -> Q (none, n) z) : wpS (model prog w) A E s (ascLoop a top) Q z := by
 unfold ascLoop
 refine wpS_forRange (fun x c z' => z' = z /\ c = (none, x) /\ SortedToK κ (arrOf z) x) (fun x c z' g1 g2 hI => ?_) (fun c z' hI => ?_) ⟨rfl, rfl, r⟩
 ·obtain ⟨hz, hc, hr⟩ := hI
  subst hz hc
  dsimp only
  refine wpS_bind (zDa L f all (Nat.lt_of_lt_of_le g2 h3) (by omega) ?_)
  cases q : κ.blt (KK κ (arrOf z') x) (KK κ (arrOf z') (x - 1)) with
  | true => simp only [if_true]; exact wpS_pure (k x g1 (Nat.le_of_lt g2) hr (Or.inr q))
  | false =>
   simp only [Bool.false_eq_true, if_false]
   refine wpS_pure ⟨rfl, rfl, fun i j le lt => ?_⟩
   rcases Nat.lt_or_ge j x with c1 | c1
   ·exact hr i j le c1
   ·obtain rfl : j = x := by omega
    rcases Nat.eq_or_lt_of_le le with c2 | c2
    ·subst c2; exact KeyOrd.kle_refl _
    ·exact KeyOrd.kle_trans (hr i (j - 1) (by omega) (by omega)) q
 ·obtain ⟨hz, hc, hr⟩ := hI
  subst hz hc
  have e : max a top = top := by omega
  rw [e] at hr ⊢
  exact k top h2 (Nat.le_refl _) hr (Or.inl rfl)
theorem zGL {z : SortSt} {n top : Nat} {Q : Option Nat -> SortSt -> Prop} (L : Asks prog w A s κ kd) (all : KeysOf κ src) (f : Fit src kd z) (h1 : 1 <= n) (h2 : n <= top) (h3 : top <= src.size) (r : NonIncK κ (arrOf z) n)
  (k : ∀ m z', Fit src kd z' -> 1 <= m -> m <= top -> SortedToK κ (arrOf z') m -> Q (some m) z') : wpS (model prog w) A E s (tail3 n top) Q z := by
 have sz : n <= (arrOf z).size := by rw [f.len]; omega
 have f' : Fit src kd (setArr z (mirror (arrOf z) 0 n ((n - 0) / 2))) := f.re (mirror_perm _ _ _ _)
 have r' : SortedToK κ (arrOf (setArr z (mirror (arrOf z) 0 n ((n - 0) / 2)))) n := by
  intro i j le lt
  show κ.kle (KK κ (mirror (arrOf z) 0 n ((n - 0) / 2)) i) (KK κ (mirror (arrOf z) 0 n ((n - 0) / 2)) j)
  rw [KK_mirror sz, KK_mirror sz, if_pos ⟨Nat.zero_le _, by omega⟩, if_pos ⟨Nat.zero_le _, lt⟩]
  exact r _ _ (by omega) (by omega)
 unfold tail3
 refine wpS_bind (wpS_reverse (wpS_bind (zGC L all f' h1 h2 h3 r' fun m g1 g2 g3 _ => ?_)))
 exact wpS_pure (k m _ f' (Nat.le_trans h1 g1) g2 g3)
theorem zL2 {z : SortSt} {n top : Nat} {Q : DescSt -> SortSt -> Prop} (L : Asks prog w A s κ kd) (all : KeysOf κ src) (f : Fit src kd z) (h1 : 1 <= n) (h2 : n <= top) (h3 : top <= src.size) (r : NonIncK κ (arrOf z) n)
  (k : ∀ m q z', Fit src kd z' -> n <= m -> m <= top -> NonIncK κ (arrOf z') m -> q + 1 <= m -> (∀ i, m - (q + 1) <= i -> i < m -> KK κ (arrOf z') i = KK κ (arrOf z') (m - 1)) -> Q (none, m, q) z') : wpS (model prog w) A E s (descLoop n top) Q z := by
 have one : ∀ (ys : Array Keyed) (x : Nat) (i : Nat), x - (0 + 1) <= i -> i < x -> KK κ ys i = KK κ ys (x - 1) := fun ys x i c1 c2 => by
  have : i = x - 1 := by omega
  rw [this]
 unfold descLoop
 refine wpS_forRange (fun x c z' => ∃ q, c = (none, x, q) /\ Fit src kd z' /\ NonIncK κ (arrOf z') x /\ q + 1 <= x /\ ∀ i, x - (q + 1) <= i -> i < x -> KK κ (arrOf z') i = KK κ (arrOf z') (x - 1))
  (fun x c z' g1 g2 hI => ?_) (fun c z' hI => ?_) ⟨0, rfl, f, r, h1, one _ _⟩
 ·obtain ⟨q, hc, f', r', hq, he⟩ := hI
  subst hc
  dsimp only
  have lx : x < src.size := Nat.lt_of_lt_of_le g2 h3
  have sz : x <= (arrOf z').size := by rw [f'.len]; omega
  refine wpS_bind (zDa L f' all lx (by omega) ?_)
  cases c1 : κ.blt (KK κ (arrOf z') x) (KK κ (arrOf z') (x - 1)) with
  | true =>
   simp only [if_true]
   have more : ∀ ys : Array Keyed, (∀ m, KK κ ys m = KK κ (arrOf z') m) -> NonIncK κ ys (x + 1) := fun ys same i j le lt => by
    rw [same i, same j]
    rcases Nat.lt_or_ge j x with d1 | d1
    ·exact r' i j le d1
    ·obtain rfl : j = x := by omega
     rcases Nat.eq_or_lt_of_le le with d2 | d2
     ·subst d2; exact KeyOrd.kle_refl _
     ·exact KeyOrd.kle_trans (KeyOrd.kle_of_klt c1) (r' i (j - 1) (by omega) (by omega))
   by_cases c2 : q > 0
   ·rw [if_pos c2]
    exact wpS_bind (wpS_reverse (wpS_pure ⟨0, rfl, f'.re (mirror_perm _ _ _ _), more _ (KK_mirror_equal sz he), by omega, one _ _⟩))
   ·rw [if_neg c2]
    exact wpS_pure ⟨0, rfl, f', more _ fun _ => rfl, by omega, one _ _⟩
  | false =>
   simp only [Bool.false_eq_true, if_false]
   refine wpS_bind (zDa L f' all (by omega) lx ?_)
   cases c2 : κ.blt (KK κ (arrOf z') (x - 1)) (KK κ (arrOf z') x) with
   | true => simp only [if_true]; exact wpS_pure (k x q z' f' g1 (Nat.le_of_lt g2) r' hq he)
   | false =>
    simp only [Bool.false_eq_true, if_false]
    have same : KK κ (arrOf z') x = KK κ (arrOf z') (x - 1) := KeyOrd.kle_antisymm c2 c1
    refine wpS_pure ⟨q + 1, rfl, f', fun i j le lt => ?_, by omega, fun i d1 d2 => ?_⟩
    ·rcases Nat.lt_or_ge j x with e1 | e1
     ·exact r' i j le e1
     ·obtain rfl : j = x := by omega
      rcases Nat.eq_or_lt_of_le le with e2 | e2
      ·subst e2; exact KeyOrd.kle_refl _
      ·rw [same]; exact r' i (j - 1) (by omega) (by omega)
    ·show KK κ (arrOf z') i = KK κ (arrOf z') x
     rcases Nat.lt_or_ge i x with e1 | e1
     ·rw [same]; exact he i (by omega) e1
     ·have : i = x := by omega
      rw [this]
 ·obtain ⟨q, hc, f', r', hq, he⟩ := hI
  have e : max n top = top := by omega
  rw [e] at hc r' hq he
  subst hc
  exact k top q z' f' h2 (Nat.le_refl _) r' hq he
theorem zIV {z : SortSt} {n top : Nat} {Q : Option Nat -> SortSt -> Prop} (L : Asks prog w A s κ kd) (all : KeysOf κ src) (f : Fit src kd z) (h2 : n + 1 <= top) (h3 : top <= src.size) (r : NonIncK κ (arrOf z) (n + 1))
  (k : ∀ m z', Fit src kd z' -> 1 <= m -> m <= top -> SortedToK κ (arrOf z') m -> Q (some m) z') : wpS (model prog w) A E s (descPart n top) Q z := by
 unfold descPart
 refine wpS_bind (wpS_lift (wpAny_rule ⟨rfl, wpS_bind (zL2 L all f (Nat.le_add_left 1 n) h2 h3 r fun m q z' f' g1 g2 r' hq he => ?_)⟩))
 have sz : m <= (arrOf z').size := by rw [f'.len]; omega
 dsimp only
 by_cases c : q > 0
 ·rw [if_pos c]
  refine wpS_bind (wpS_reverse (zGL L all (f'.re (mirror_perm _ _ _ _)) (by omega) g2 h3 (fun i j le lt => ?_) k))
  show κ.kle (KK κ (mirror (arrOf z') (m - (q + 1)) m ((m - (m - (q + 1))) / 2)) j) (KK κ (mirror (arrOf z') (m - (q + 1)) m ((m - (m - (q + 1))) / 2)) i)
  rw [KK_mirror_equal sz he, KK_mirror_equal sz he]
  exact r' i j le lt
 ·rw [if_neg c]
  exact zGL L all f' (by omega) g2 h3 r' k
theorem zLg {z : SortSt} {top : Nat} {Q : Option Nat -> SortSt -> Prop} (L : Asks prog w A s κ kd) (all : KeysOf κ src) (f : Fit src kd z) (h1 : 1 <= top) (h3 : top <= src.size)
  (k : ∀ m z', Fit src kd z' -> 1 <= m -> m <= top -> SortedToK κ (arrOf z') m -> Q (some m) z') : wpS (model prog w) A E s (countRun' 0 top) Q z := by
 have r1 : SortedToK κ (arrOf z) 1 := fun i j le lt => by
  obtain rfl : i = j := by omega
  exact KeyOrd.kle_refl _
 rw [countRun0_eq]
 refine wpS_bind (zGC L all f (Nat.le_refl 1) h1 h3 r1 fun n g1 g2 g3 g4 => ?_)
 dsimp only
 by_cases c : n = top
 ·rw [if_pos (beq_iff_eq.mpr c)]
  exact wpS_pure (k n z f g1 g2 g3)
 ·rw [if_neg (fun h => c (beq_iff_eq.mp h))]
  have fall := g4.resolve_left c
  by_cases c2 : n > 1
  ·rw [if_pos c2]
   refine wpS_bind (zDa L f all (by omega) (by omega) ?_)
   cases c3 : κ.blt (KK κ (arrOf z) 0) (KK κ (arrOf z) (n - 1)) with
   | true => simp only [if_true]; exact wpS_pure (k n z f g1 g2 g3)
   | false =>
    simp only [Bool.false_eq_true, if_false]
    have sz : n <= (arrOf z).size := by rw [f.len]; omega
    have eq : ∀ m, 0 <= m -> m < n -> KK κ (arrOf z) m = KK κ (arrOf z) (n - 1) := fun m _ lt =>
     KeyOrd.kle_antisymm (g3 m (n - 1) (by omega) (by omega)) (KeyOrd.kle_trans c3 (g3 0 m (Nat.zero_le _) lt))
    refine wpS_bind (wpS_reverse (zIV L all (f.re (mirror_perm _ _ _ _)) (by omega) h3 (fun i j le lt => ?_) k))
    show κ.kle (KK κ (mirror (arrOf z) 0 n ((n - 0) / 2)) j) (KK κ (mirror (arrOf z) 0 n ((n - 0) / 2)) i)
    rw [KK_mirror_equal sz eq, KK_mirror_equal sz eq]
    rcases Nat.lt_or_ge j n with d | d
    ·rw [eq i (Nat.zero_le _) (by omega), eq j (Nat.zero_le _) d]
     exact KeyOrd.kle_refl _
    ·obtain rfl : j = n := by omega
     rcases Nat.eq_or_lt_of_le le with d2 | d2
     ·subst d2; exact KeyOrd.kle_refl _
     ·rw [eq i (Nat.zero_le _) d2]; exact KeyOrd.kle_of_klt fall
  ·rw [if_neg c2]
   obtain rfl : n = 1 := by omega
   refine zIV L all f (by omega) h3 (fun i j le lt => ?_) k
   rcases Nat.eq_or_lt_of_le le with d2 | d2
   ·subst d2; exact KeyOrd.kle_refl _
   ·obtain rfl : i = 0 := by omega
    obtain rfl : j = 1 := by omega
    exact KeyOrd.kle_of_klt fall
theorem zOg {z : SortSt} {n ok : Nat} {Q : Bool -> SortSt -> Prop} (L : Asks prog w A s κ kd) (all : KeysOf κ src) (f : Fit src kd z) (h1 : ok <= n) (h3 : n <= src.size) (r : SortedToK κ (arrOf z) ok)
  (k : ∀ z', Fit src kd z' -> SortedToK κ (arrOf z') n -> Q true z') : wpS (model prog w) A E s (binarySort' 0 n ok) Q z := by
 rw [binarySort'_eq]
 simp only [Nat.zero_add]
 have r0 : SortedToK κ (arrOf z) (min (max ok 1) n) := fun i j le lt => by
  rcases Nat.eq_or_lt_of_le le with c | c
  ·subst c; exact KeyOrd.kle_refl _
  ·exact r i j le (by omega)
 refine wpS_bind (wpS_mono (wpS_forRange (fun m c z' => c = (none, ()) /\ Fit src kd z' /\ SortedToK κ (arrOf z') (min m n)) (Q := fun c z' => c = (none, ()) /\ Fit src kd z' /\ SortedToK κ (arrOf z') n)
  (fun m c z' g1 g2 hI => ?_) (fun c z' hI => ?_) ⟨rfl, f, r0⟩) fun c z' hQ => ?_)
 ·obtain ⟨hc, f', r'⟩ := hI
  subst hc
  have em : min m n = m := by omega
  rw [em] at r'
  have lm : m < src.size := by omega
  refine wpS_bind (wpS_mono (wpS_forRange (fun t c z2 => z2 = z' /\ ∃ lo hi, c = (none, lo, hi) /\ lo <= hi /\ hi <= m /\ hi - lo <= m - t /\ (∀ i, i < lo -> κ.kle (KK κ (arrOf z') i) (KK κ (arrOf z') m)) /\
    ∀ i, hi <= i -> i < m -> κ.klt (KK κ (arrOf z') m) (KK κ (arrOf z') i))
   (Q := fun c z2 => z2 = z' /\ ∃ lo hi, c = (none, lo, hi) /\ lo <= m /\ (∀ i, i < lo -> κ.kle (KK κ (arrOf z') i) (KK κ (arrOf z') m)) /\ ∀ i, lo <= i -> i < m -> κ.klt (KK κ (arrOf z') m) (KK κ (arrOf z') i))
   (fun t c z2 _ lt hJ => ?_) (fun c z2 hJ => ?_) ⟨rfl, 0, m, rfl, Nat.zero_le _, Nat.le_refl _, by omega, fun i c => absurd c (Nat.not_lt_zero _), fun i c1 c2 => absurd c2 (Nat.not_lt.mpr c1)⟩) fun c z2 hJ => ?_)
  ·obtain ⟨hz, lo, hi, hc, c1, c2, c3, c4, c5⟩ := hJ
   subst hz hc
   dsimp only
   by_cases d : lo >= hi
   ·rw [if_pos d]
    obtain rfl : lo = hi := by omega
    exact wpS_pure ⟨rfl, lo, lo, rfl, c2, c4, c5⟩
   ·rw [if_neg d]
    refine wpS_bind (zDa L f' all lm (by omega) ?_)
    cases q : κ.blt (KK κ (arrOf z2) m) (KK κ (arrOf z2) ((lo + hi) / 2)) with
    | true =>
     simp only [if_true]
     exact wpS_pure ⟨rfl, lo, (lo + hi) / 2, rfl, by omega, by omega, by omega, c4, fun i e1 e2 => KeyOrd.klt_of_klt_of_kle q (r' _ _ e1 e2)⟩
    | false =>
     simp only [Bool.false_eq_true, if_false]
     refine wpS_pure ⟨rfl, (lo + hi) / 2 + 1, hi, rfl, by omega, c2, by omega, fun i e1 => ?_, c5⟩
     have q' : κ.kle (KK κ (arrOf z2) ((lo + hi) / 2)) (KK κ (arrOf z2) m) := q
     exact KeyOrd.kle_trans (r' i ((lo + hi) / 2) (by omega) (by omega)) q'
  ·obtain ⟨hz, lo, hi, hc, c1, c2, c3, c4, c5⟩ := hJ
   obtain rfl : lo = hi := by omega
   exact ⟨hz, lo, lo, hc, c2, c4, c5⟩
  ·obtain ⟨hz, lo, hi, hc, c2, c4, c5⟩ := hJ
   subst hz hc
   show wpS _ _ _ _ (moveDown' m lo >>= fun _ => pure (ForInStep.yield (none, ()))) _ _
   rw [moveDown'_eq]
   refine wpS_bind (wpS_modify (wpS_pure ⟨rfl, f'.re (bubble_perm _ _ _), ?_⟩))
   have es : m < (arrOf z2).size := by rw [f'.len]; exact lm
   have e2 : min (m + 1) n = m + 1 := by omega
   rw [e2]
   intro i j le lt
   show κ.kle (KK κ (bubble (arrOf z2) m (m - lo)) i) (KK κ (bubble (arrOf z2) m (m - lo)) j)
   have e3 : m - (m - lo) = lo := by omega
   rw [KK_bubble es (by omega), KK_bubble es (by omega), e3]
   by_cases i1 : i = lo <;> by_cases j1 : j = lo
   ·rw [if_pos i1, if_pos j1]; exact KeyOrd.kle_refl _
   ·rw [if_pos i1, if_neg j1, if_pos ⟨by omega, by omega⟩]
    exact KeyOrd.kle_of_klt (c5 _ (by omega) (by omega))
   ·rw [if_neg i1, if_pos j1, if_neg (by omega)]
    exact c4 _ (by omega)
   ·rw [if_neg i1, if_neg j1]
    by_cases i2 : lo < i /\ i <= m <;> by_cases j2 : lo < j /\ j <= m
    ·rw [if_pos i2, if_pos j2]; exact r' _ _ (by omega) (by omega)
    ·exact absurd ⟨by omega, by omega⟩ j2
    ·rw [if_neg i2, if_pos j2]; exact r' _ _ (by omega) (by omega)
    ·rw [if_neg i2, if_neg j2]; exact r' _ _ le (by omega)
 ·obtain ⟨hc, f', r'⟩ := hI
  have e : min (max (max ok 1) n) n = n := by omega
  rw [e] at r'
  exact ⟨hc, f', r'⟩
 ·obtain ⟨hc, f', r'⟩ := hQ
  subst hc
  exact wpS_pure (k z' f' r')
theorem zOk {z : SortSt} {Q : Unit -> SortSt -> Prop} (L : Asks prog w A s κ kd) (all : KeysOf κ src) (f : Fit src kd z) (h2 : 2 <= src.size) (h64 : src.size < 64)
  (k : ∀ z', (arrOf z').Perm src -> failedOf z' = none -> SortedToK κ (arrOf z') src.size -> Q () z') : wpS (model prog w) A E s sortRuns' Q z := by
 have em : minRun' src.size src.size 0 = src.size := by
  have g : ∀ t, t = src.size -> minRun' t src.size 0 = src.size := fun t e => by
   cases t with
   | zero => omega
   | succ t => rw [minRun'_succ, if_pos h64]; rfl
  exact g _ rfl
 rw [sortRuns'_eq]
 refine wpS_bind (wpS_get ?_)
 dsimp only
 simp only [f.len, em]
 refine wpS_bind (wpS_mono (wpS_forRange (fun t c z' => (t = 0 /\ c = (none, 0) /\ Fit src kd z') ∨ (0 < t /\ c = (none, src.size) /\ (arrOf z').Perm src /\ failedOf z' = none /\ pendingOf z' = #[(0, src.size, 0)] /\ SortedToK κ (arrOf z') src.size))
  (Q := fun c z' => c = (none, src.size) /\ (arrOf z').Perm src /\ failedOf z' = none /\ pendingOf z' = #[(0, src.size, 0)] /\ SortedToK κ (arrOf z') src.size)
  (fun t c z' _ lt hI => ?_) (fun c z' hI => ?_) (Or.inl ⟨rfl, rfl, f⟩)) fun c z' hQ => ?_)
 ·rcases hI with ⟨ht, hc, f'⟩ | ⟨ht, hc, d1, d2, d3, d4⟩
  ·subst ht hc
   dsimp only
   rw [if_neg (by omega)]
   simp only [Nat.sub_zero, Nat.min_self, Nat.zero_add]
   have close : ∀ z3, Fit src kd z3 -> SortedToK κ (arrOf z3) src.size -> (0 < 0 + 1 /\ ((none : Option Unit), src.size) = (none, src.size) /\ (arrOf (setPending z3 ((pendingOf z3).push (0, src.size, 0)))).Perm src /\ failedOf (setPending z3 ((pendingOf z3).push (0, src.size, 0))) = none /\
     pendingOf (setPending z3 ((pendingOf z3).push (0, src.size, 0))) = #[(0, src.size, 0)] /\ SortedToK κ (arrOf (setPending z3 ((pendingOf z3).push (0, src.size, 0)))) src.size) := fun z3 f3 r3 =>
    ⟨Nat.zero_lt_succ _, rfl, f3.mix, f3.fine, by show (pendingOf z3).push (0, src.size, 0) = _; rw [f3.none]; rfl, r3⟩
   refine wpS_bind (zLg L all f' (by omega) (Nat.le_refl _) fun m z2 f2 g1 g2 r2 => ?_)
   dsimp only
   by_cases c : m < src.size
   ·rw [if_pos c]
    refine wpS_bind (wpS_lift (wpAny_rule ⟨rfl, wpS_bind (zOg L all f2 g2 (Nat.le_refl _) r2 fun z3 f3 r3 => ?_)⟩))
    simp only [Bool.not_true, Bool.false_eq_true, if_false]
    refine wpS_bind (wpS_get ?_)
    have eb : (pendingOf z3).back? = none := by rw [f3.none]; rfl
    rw [eb]
    dsimp only
    exact wpS_bind (wpS_modify (wpS_pure (Or.inr (close z3 f3 r3))))
   ·rw [if_neg c]
    obtain rfl : m = src.size := by omega
    refine wpS_bind (wpS_get ?_)
    have eb : (pendingOf z2).back? = none := by rw [f2.none]; rfl
    rw [eb]
    dsimp only
    exact wpS_bind (wpS_modify (wpS_pure (Or.inr (close z2 f2 r2))))
  ·subst hc
   dsimp only
   rw [if_pos (Nat.le_refl _)]
   exact wpS_pure ⟨rfl, d1, d2, d3, d4⟩
 ·rcases hI with ⟨ht, _⟩ | ⟨_, d⟩
  ·omega
  ·exact d
 ·obtain ⟨hc, d1, d2, d3, d4⟩ := hQ
  subst hc
  dsimp only
  refine wpS_bind (wpS_mono (wpS_forRange (fun _ c z2 => z2 = z' /\ c = (none, ())) (Q := fun c z2 => z2 = z' /\ c = (none, ())) (fun t c z2 _ _ hJ => ?_) (fun _ _ hJ => hJ) ⟨rfl, rfl⟩) fun c z2 hJ => ?_)
  ·obtain ⟨hz, hc⟩ := hJ
   subst hz hc
   refine wpS_bind (wpS_get ?_)
   rw [if_pos (by rw [d3]; exact Nat.le_refl 1)]
   exact wpS_pure ⟨rfl, rfl⟩
  ·obtain ⟨hz, hc⟩ := hJ
   subst hz hc
   exact wpS_pure (k _ d1 d2 d4)
theorem zNp {a : Addr} {vs : List Value} {n : Nat} {P : Fin -> Shared -> Prop} (ho : s.heap.get? a = some (seqObj "list" vs.toArray n)) (all : KeysOf κ (pairsOf vs)) (h64 : vs.length < 64)
  (kind : ∀ h', (∀ b o, b ≠ a -> s.heap.get? b = some o -> h'.get? b = some o) -> 2 <= vs.length -> wpAny (model prog w) A (keyKind' vs.toArray) (fun q s' => q = kd /\ s' = { s with heap := h' }) E { s with heap := h' })
  (L : ∀ h', (∀ b o, b ≠ a -> s.heap.get? b = some o -> h'.get? b = some o) -> Asks prog w A { s with heap := h' } κ kd)
  (k : ∀ z' : SortSt, (arrOf z').Perm (pairsOf vs) -> SortedToK κ (arrOf z') (pairsOf vs).size -> P (.done (.ret .none)) { s with heap := sortedHeap s.heap a vs ((arrOf z').map (·.2)) }) :
  wpAny (model prog w) A (Builtin.«list.sort» ⟨[.ref a], []⟩) P E s := by
 have ha : a < s.heap.objs.size := Heap.lt_size ho
 have hl : vs.toArray.size = vs.length := by simp
 rw [list_sort_plain]
 refine wpAny_bind (listItems_at ho rfl (wpAny_bind (listUpdate_at ho rfl ?_)))
 obtain ⟨t, h1⟩ : ∃ t, (s.heap.update a (Obj.mapSeq fun _ => #[])).get? a = some (seqObj "list" #[] t) := ⟨_, get?_update_seq ho fun _ => #[]⟩
 refine wpAny_bind (seqEpoch_at h1 rfl (wpAny_bind (wpAny_newTuple (wpAny_bind (wpAny_newList (wpAny_holding ?_))))))
 show wpAny (model prog w) A _ P E { s with heap := ((s.heap.update a (Obj.mapSeq fun _ => #[])).push (seqObj "tuple" vs.toArray 0)).push (seqObj "list" #[] 0) }
 have keep : ∀ b o, b ≠ a -> s.heap.get? b = some o -> (((s.heap.update a (Obj.mapSeq fun _ => #[])).push (seqObj "tuple" vs.toArray 0)).push (seqObj "list" #[] 0)).get? b = some o := fun b o nb e =>
  Heap.get?_push_of_some _ (Heap.get?_push_of_some _ (by rw [Heap.get?_update_ne _ _ _ _ nb]; exact e))
 have h6 : (((s.heap.update a (Obj.mapSeq fun _ => #[])).push (seqObj "tuple" vs.toArray 0)).push (seqObj "list" #[] 0)).get? a = some (seqObj "list" #[] t) := Heap.get?_push_of_some _ (Heap.get?_push_of_some _ h1)
 dsimp only
 by_cases c : vs.toArray.size < 2
 ·rw [if_pos c, if_pos c]
  refine wpAny_bind (wpAny_pure ?_)
  rw [StateT.run_pure]
  refine wpAny_bind (wpAny_pure (wpAny_bind (seqEpoch_at h6 rfl (wpAny_bind (listUpdate_at h6 rfl ?_ (hsz2 := by
   rw [Array.size_map]; show (pairsOf vs).size <= _; rw [pairsOf_size, sizeLine_eq]; omega))))))
  simp only [bne_self_eq_false, Bool.false_eq_true, if_false]
  refine wpAny_pure (k (SortSt.mk' general' (vs.toArray.zip vs.toArray) #[] 7 none) (Array.Perm.refl _) fun i j le lt => ?_)
  obtain rfl : i = j := by rw [pairsOf_size] at lt; omega
  exact KeyOrd.kle_refl _
 ·rw [if_neg c, if_neg c]
  refine wpAny_bind (wpAny_mono (kind _ keep (by omega)) (fun q s' hq => ?_) fun _ _ e => e)
  obtain ⟨rfl, rfl⟩ := hq
  refine wpAny_bind (wpAny_mono (zOk (src := pairsOf vs) (z := SortSt.mk' q (vs.toArray.zip vs.toArray) #[] 7 none)
   (Q := fun _ z' => (arrOf z').Perm (pairsOf vs) /\ failedOf z' = none /\ SortedToK κ (arrOf z') (pairsOf vs).size)
   (L _ keep) all ⟨Array.Perm.refl _, rfl, rfl, rfl⟩ (by rw [pairsOf_size]; omega) (by rw [pairsOf_size]; exact h64) fun z' d1 d2 d3 => ⟨d1, d2, d3⟩) (fun rz s' hq => ?_) fun _ _ e => e)
  obtain ⟨⟨⟩, z'⟩ := rz
  obtain ⟨rfl, d1, d2, d3⟩ := hq
  dsimp only at d1 d2 d3 ⊢
  refine wpAny_bind (seqEpoch_at h6 rfl (wpAny_bind (listUpdate_at h6 rfl ?_ (hsz2 := by
   refine Nat.le_trans (Nat.le_of_eq ((Array.size_map ..).trans (d1.size_eq.trans (pairsOf_size _)))) ?_
   rw [sizeLine_eq]; omega))))
  rw [d2]
  simp only [bne_self_eq_false, Bool.false_eq_true, if_false]
  exact wpAny_pure (k z' d1 d3)
end
end SG
namespace DL
open PySem PySem.Spec PyProof.Rows L2
abbrev D := PyData
noncomputable def FzL (K : PySem.W.Frag) (F : Addr -> Prop) (H : Hp) (a : Addr) (vs : List V) : Prop := (F a /\ Rd H a (.lst vs)) ∨ SqL K (fun _ => none) a vs
theorem FzL.sq {K : PySem.W.Frag} {F : Addr -> Prop} {H : Hp} {a : Addr} {vs : List V} (h : FzL K F H a vs) : SqL K H a vs := by
 rcases h with ⟨_, h⟩ | (h | ⟨o, h⟩) | h
 ·exact .inl h
 ·cases h
 ·cases h
 ·exact .inr h
abbrev DKey := Sum (List Int) (List (List Int))
noncomputable def encT (ks : List Int) : D := .tuple (ks.map .int)
noncomputable def encK : DKey -> D
 | .inl ks => encT ks
 | .inr kss => .tuple (kss.map encT)
noncomputable def zFU (ks : List Int) : Int := reduceHash (Builtin.Tuple.tupleHashOf (ks.map hashInt))
noncomputable def zIp : DKey -> Int
 | .inl ks => zFU ks
 | .inr kss => reduceHash (Builtin.Tuple.tupleHashOf (kss.map zFU))
noncomputable def zCu (K : PySem.W.Frag) (H : Hp) (k : DKey) (b : Addr) : Prop := match k with
 | .inl ks => SqT K H b (ks.map V.int)
 | .inr kss => kss ≠ [] /\ ∃ bs : List Addr, SqT K H b (bs.map V.ref) /\ Paired (fun (ks : List Int) (b : Addr) => SqT K H b (ks.map V.int)) kss bs
noncomputable def DctO (a : Addr) (es : List (DKey × Addr × V)) (ep : Nat) : HO := .ext fun h => (a == sysModules) = false /\ ∃ o raw, h.get? a = some o /\ o.ExactDict /\ o.data = .dict raw ep /\ Paired (fun (e : DKey × Addr × V) (r : DictEntry) => r.hash = zIp e.1 /\ r.key = .ref e.2.1 /\ RelV e.2.2 r.val) es raw.toList
noncomputable def ExcO (a C : Addr) : HO := .ext fun h => ∃ o, h.get? a = some o /\ o.cls = .ref C
noncomputable def excD (x : Str) : D := .dict [(.none, .str x)]
mutual
inductive Rep (K : PySem.W.Frag) (F : Addr -> Prop) (H : Hp) : D -> V -> Prop
 | non : Rep K F H .none .non
 | bl (b : Bool) : Rep K F H (.bool b) (.bl b)
 | int (i : Int) : Rep K F H (.int i) (.int i)
 | str (x : Str) : Rep K F H (.str x) (.str x)
 | tup {a : Addr} {vs : List V} {ds : List D} : SqT K H a vs -> Reps K F H ds vs -> Rep K F H (.tuple ds) (.ref a)
 | lst {a : Addr} {vs : List V} {ds : List D} : FzL K F H a vs -> Reps K F H ds vs -> Rep K F H (.list ds) (.ref a)
 | dct {a : Addr} {es : List (DKey × Addr × V)} {kvs : List (D × D)} {ep : Nat} : F a -> H a = some (DctO a es ep) -> (es.map (·.1)).Nodup -> es.length <= 1000 -> DReps K F H kvs es -> Rep K F H (.dict kvs) (.ref a)
 | exn {a C : Addr} {x : Str} : F a -> H a = some (ExcO a C) -> PySem.W.nsIn K mainGlobals x = some (some (.ref C)) -> Rep K F H (excD x) (.ref a)
inductive DReps (K : PySem.W.Frag) (F : Addr -> Prop) (H : Hp) : List (D × D) -> List (DKey × Addr × V) -> Prop
 | nil : DReps K F H [] []
 | cons {k : DKey} {b : Addr} {d : D} {v : V} {kvs : List (D × D)} {es : List (DKey × Addr × V)} : zCu K H k b -> Rep K F H d v -> DReps K F H kvs es -> DReps K F H ((encK k, d) :: kvs) ((k, b, v) :: es)
inductive Reps (K : PySem.W.Frag) (F : Addr -> Prop) (H : Hp) : List D -> List V -> Prop
 | nil : Reps K F H [] []
 | cons {d : D} {v : V} {ds : List D} {vs : List V} : Rep K F H d v -> Reps K F H ds vs -> Reps K F H (d :: ds) (v :: vs)
end
structure Stay (K : PySem.W.Frag) (F F' : Addr -> Prop) (H H' : Hp) : Prop where
 up : ∀ a, F a -> F' a
 tp : ∀ a xs, SqT K H a xs -> SqT K H' a xs
 ls : ∀ a xs, F a -> Rd H a (.lst xs) -> Rd H' a (.lst xs)
 xt : ∀ a φ, F a -> H a = some (.ext φ) -> H' a = some (.ext φ)
theorem zCu.stay {K : PySem.W.Frag} {F F' : Addr -> Prop} {H H' : Hp} (S : Stay K F F' H H') {k : DKey} {b : Addr} (h : zCu K H k b) : zCu K H' k b := by
 cases k with
 | inl ks => exact S.tp _ _ h
 | inr kss => obtain ⟨n, bs, h1, h2⟩ := h; exact ⟨n, bs, S.tp _ _ h1, Paired.mapP h2 fun _ _ z => S.tp _ _ z⟩
theorem FzL.stay {K : PySem.W.Frag} {F F' : Addr -> Prop} {H H' : Hp} (S : Stay K F F' H H') {a : Addr} {vs : List V} (h : FzL K F H a vs) : FzL K F' H' a vs := by
 rcases h with ⟨f, h⟩ | h
 ·exact .inl ⟨S.up a f, S.ls a vs f h⟩
 ·exact .inr h
mutual
theorem Rep.stay {K : PySem.W.Frag} {F F' : Addr -> Prop} {H H' : Hp} (S : Stay K F F' H H') : ∀ {d : D} {v : V}, Rep K F H d v -> Rep K F' H' d v
 | _, _, .non => .non
 | _, _, .bl b => .bl b
 | _, _, .int i => .int i
 | _, _, .str x => .str x
 | _, _, .tup h r => .tup (S.tp _ _ h) (Reps.stay S r)
 | _, _, .lst h r => .lst (h.stay S) (Reps.stay S r)
 | _, _, .dct f h n l r => .dct (S.up _ f) (S.xt _ _ f h) n l (DReps.stay S r)
 | _, _, .exn f h n => .exn (S.up _ f) (S.xt _ _ f h) n
theorem DReps.stay {K : PySem.W.Frag} {F F' : Addr -> Prop} {H H' : Hp} (S : Stay K F F' H H') : ∀ {kvs : List (D × D)} {es : List (DKey × Addr × V)}, DReps K F H kvs es -> DReps K F' H' kvs es
 | _, _, .nil => .nil
 | _, _, .cons h r t => .cons (h.stay S) (Rep.stay S r) (DReps.stay S t)
theorem Reps.stay {K : PySem.W.Frag} {F F' : Addr -> Prop} {H H' : Hp} (S : Stay K F F' H H') : ∀ {ds : List D} {vs : List V}, Reps K F H ds vs -> Reps K F' H' ds vs
 | _, _, .nil => .nil
 | _, _, .cons h r => .cons (Rep.stay S h) (Reps.stay S r)
end
theorem Reps.length {K : PySem.W.Frag} {F : Addr -> Prop} {H : Hp} : ∀ {ds : List D} {vs : List V}, Reps K F H ds vs -> ds.length = vs.length
 | _, _, .nil => rfl
 | _, _, .cons _ r => by simp [Reps.length r]
theorem Reps.get {K : PySem.W.Frag} {F : Addr -> Prop} {H : Hp} : ∀ {ds : List D} {vs : List V} {i : Nat} {d : D}, Reps K F H ds vs -> ds[i]? = some d -> ∃ v, vs[i]? = some v /\ Rep K F H d v
 | _, _, _, _, .nil, e => by simp at e
 | _, _, 0, _, .cons h _, e => by simp at e; subst e; exact ⟨_, rfl, h⟩
 | _, _, i + 1, d, .cons _ r, e => by
  obtain ⟨v, h1, h2⟩ := Reps.get (i := i) (d := d) r (by simpa using e)
  exact ⟨v, by simpa using h1, h2⟩
theorem Reps.append {K : PySem.W.Frag} {F : Addr -> Prop} {H : Hp} : ∀ {ds es : List D} {vs us : List V}, Reps K F H ds vs -> Reps K F H es us -> Reps K F H (ds ++ es) (vs ++ us)
 | _, _, _, _, .nil, s => s
 | _, _, _, _, .cons h r, s => .cons h (Reps.append r s)
structure Ext (F F' : Addr -> Prop) (H H' : Hp) : Prop where
 same : Same H H'
 up : ∀ a, F a -> F' a
 new : ∀ a, F' a -> F a ∨ (H a = none /\ H' a ≠ none)
theorem Ext.refl (F : Addr -> Prop) (H : Hp) : Ext F F H H := ⟨Same.refl H, fun _ h => h, fun _ h => .inl h⟩
theorem Ext.trans {F F1 F2 : Addr -> Prop} {H H1 H2 : Hp} (a : Ext F F1 H H1) (b : Ext F1 F2 H1 H2) : Ext F F2 H H2 :=
 ⟨a.same.trans b.same, fun x h => b.up x (a.up x h), fun x h => by
  rcases b.new x h with h1 | ⟨h1, h2⟩
  ·rcases a.new x h1 with h3 | ⟨h3, h4⟩
   ·exact .inl h3
   ·refine .inr ⟨h3, fun z => h4 (b.same.free z)⟩
  ·exact .inr ⟨a.same.free h1, h2⟩⟩
theorem Same.sqT {K : PySem.W.Frag} {H H' : Hp} {a : Addr} {xs : List V} (e : Same H H') (h : SqT K H a xs) : SqT K H' a xs := by
 rcases h with (h | ⟨o, h⟩) | h
 ·exact .inl (.inl (e _ _ h))
 ·exact .inl (.inr ⟨o, e _ _ h⟩)
 ·exact .inr h
theorem Same.rd {H H' : Hp} {a : Addr} {u : HO} (e : Same H H') (h : Rd H a u) : Rd H' a u := by
 rcases h with h | ⟨o, h⟩
 ·exact .inl (e _ _ h)
 ·exact .inr ⟨o, e _ _ h⟩
theorem Ext.stay {K : PySem.W.Frag} {F F' : Addr -> Prop} {H H' : Hp} (e : Ext F F' H H') : Stay K F F' H H' :=
 ⟨e.up, fun _ _ h => Same.sqT e.same h, fun _ _ _ h => Same.rd e.same h, fun _ _ _ h => e.same _ _ h⟩
theorem zGA {H : Hp} {p : Addr} {o : HO} (hp : H p = none) : Same H (upd H p o) := fun b u e => by
 rw [zAl (zA5 e hp)]; exact e
theorem Ext.fresh {F : Addr -> Prop} {H : Hp} {p : Addr} {o : HO} (hp : H p = none) : Ext F F H (upd H p o) := ⟨zGA hp, fun _ h => h, fun _ h => .inl h⟩
theorem Ext.frozen {F : Addr -> Prop} {H : Hp} {p : Addr} {o : HO} (hp : H p = none) : Ext F (fun a => F a ∨ a = p) H (upd H p o) :=
 ⟨zGA hp, fun _ h => .inl h, fun a h => h.elim .inl fun e => .inr (by subst e; exact ⟨hp, by rw [zA1]; simp⟩)⟩
theorem Rep.newTup {K : PySem.W.Frag} {F : Addr -> Prop} {H : Hp} {p : Addr} {vs : List V} {ds : List D} (hp : H p = none) (r : Reps K F H ds vs) : Rep K F (upd H p (.tup vs)) (.tuple ds) (.ref p) :=
 .tup (.inl (.inl zA1)) (r.stay (Ext.fresh hp).stay)
theorem Rep.newLst {K : PySem.W.Frag} {F : Addr -> Prop} {H : Hp} {p : Addr} {vs : List V} {ds : List D} (hp : H p = none) (r : Reps K F H ds vs) : Rep K (fun a => F a ∨ a = p) (upd H p (.lst vs)) (.list ds) (.ref p) :=
 .lst (.inl ⟨.inr rfl, .inl zA1⟩) (r.stay (Ext.frozen hp).stay)
inductive Sl where
 | no
 | dat (d : D)
 | own (ds : List D)
 | ownD (kvs : List (D × D))
noncomputable def SlOk (K : PySem.W.Frag) (F : Addr -> Prop) (H H₀ : Hp) : Option V -> Sl -> Prop
 | _, .no => True
 | o, .dat d => ∃ v, o = some v /\ Rep K F H d v
 | o, .own ds => ∃ a vs, o = some (.ref a) /\ H a = some (.lst vs) /\ ¬ F a /\ H₀ a = none /\ Reps K F H ds vs
 | o, .ownD kvs => ∃ a es ep, o = some (.ref a) /\ H a = some (DctO a es ep) /\ ¬ F a /\ H₀ a = none /\ (es.map (·.1)).Nodup /\ es.length <= 1000 /\ DReps K F H kvs es
structure StOk (K : PySem.W.Frag) (F : Addr -> Prop) (H H₀ : Hp) (σ : L2.St) (ρ : List Sl) : Prop where
 len : σ.length = ρ.length
 sl : ∀ (i : Nat) (s : Sl), ρ[i]? = some s -> ∃ o, σ[i]? = some o /\ SlOk K F H H₀ o s
 sep : ∀ (i j : Nat) (a : Addr) (ds es : List D), i ≠ j -> ρ[i]? = some (.own ds) -> ρ[j]? = some (.own es) -> σ[i]? = some (some (.ref a)) -> σ[j]? ≠ some (some (.ref a))
 fz : ∀ a, F a -> H a ≠ none
theorem SlOk.ext {K : PySem.W.Frag} {F F' : Addr -> Prop} {H H' H₀ : Hp} (e : Ext F F' H H') {o : Option V} {s : Sl} (h : SlOk K F H H₀ o s) : SlOk K F' H' H₀ o s := by
 cases s with
 | no => trivial
 | ownD kvs =>
  obtain ⟨a, es, ep, q, ha, nf, h0, n, l, r⟩ := h
  refine ⟨a, es, ep, q, e.same _ _ ha, fun f => ?_, h0, n, l, r.stay e.stay⟩
  rcases e.new a f with f | ⟨f, _⟩
  ·exact nf f
  ·rw [ha] at f; cases f
 | dat d => obtain ⟨v, q, r⟩ := h; exact ⟨v, q, r.stay e.stay⟩
 | own ds =>
  obtain ⟨a, vs, q, ha, nf, h0, r⟩ := h
  refine ⟨a, vs, q, e.same _ _ ha, fun f => ?_, h0, r.stay e.stay⟩
  rcases e.new a f with f | ⟨f, _⟩
  ·exact nf f
  ·rw [ha] at f; cases f
theorem Ext.fz {F F' : Addr -> Prop} {H H' : Hp} (e : Ext F F' H H') (z : ∀ a, F a -> H a ≠ none) : ∀ a, F' a -> H' a ≠ none := fun a f q => by
 rcases e.new a f with f | ⟨_, f⟩
 ·exact z a f (e.same.free q)
 ·exact f q
theorem StOk.ext {K : PySem.W.Frag} {F F' : Addr -> Prop} {H H' H₀ : Hp} {σ : L2.St} {ρ : List Sl} (S : StOk K F H H₀ σ ρ) (e : Ext F F' H H') : StOk K F' H' H₀ σ ρ :=
 ⟨S.len, fun i s h => let ⟨o, q, r⟩ := S.sl i s h; ⟨o, q, r.ext e⟩, S.sep, e.fz S.fz⟩
theorem StOk.dat {K : PySem.W.Frag} {F : Addr -> Prop} {H H₀ : Hp} {σ : L2.St} {ρ : List Sl} (S : StOk K F H H₀ σ ρ) {i : Nat} {d : D} (h : ρ[i]? = some (.dat d)) : ∃ v, σ[i]? = some (some v) /\ Rep K F H d v := by
 obtain ⟨o, q, v, e, r⟩ := S.sl i _ h
 exact ⟨v, by rw [q, e], r⟩
theorem StOk.ownD {K : PySem.W.Frag} {F : Addr -> Prop} {H H₀ : Hp} {σ : L2.St} {ρ : List Sl} (S : StOk K F H H₀ σ ρ) {i : Nat} {kvs : List (D × D)} (h : ρ[i]? = some (.ownD kvs)) :
  ∃ a es ep, σ[i]? = some (some (.ref a)) /\ H a = some (DctO a es ep) /\ ¬ F a /\ H₀ a = none /\ (es.map (·.1)).Nodup /\ es.length <= 1000 /\ DReps K F H kvs es := by
 obtain ⟨o, q, a, es, ep, e, r⟩ := S.sl i _ h
 exact ⟨a, es, ep, by rw [q, e], r⟩
theorem StOk.own {K : PySem.W.Frag} {F : Addr -> Prop} {H H₀ : Hp} {σ : L2.St} {ρ : List Sl} (S : StOk K F H H₀ σ ρ) {i : Nat} {ds : List D} (h : ρ[i]? = some (.own ds)) :
  ∃ a vs, σ[i]? = some (some (.ref a)) /\ H a = some (.lst vs) /\ ¬ F a /\ H₀ a = none /\ Reps K F H ds vs := by
 obtain ⟨o, q, a, vs, e, r⟩ := S.sl i _ h
 exact ⟨a, vs, by rw [q, e], r⟩
theorem StOk.put {K : PySem.W.Frag} {F : Addr -> Prop} {H H₀ : Hp} {σ : L2.St} {ρ : List Sl} (S : StOk K F H H₀ σ ρ) {i : Nat} {d : D} {v : V} (r : Rep K F H d v) : StOk K F H H₀ (σ.set i (some v)) (ρ.set i (.dat d)) := by
 refine ⟨by simp [S.len], fun j s h => ?_, fun j k a ds es hjk h1 h2 h3 => ?_, S.fz⟩
 ·by_cases hij : i = j
  ·subst hij
   have hl : i < ρ.length := by
    have := List.getElem?_eq_some_iff.mp h
    simpa using this.1
   rw [List.getElem?_set_self hl] at h
   cases h
   exact ⟨some v, by rw [List.getElem?_set_self (by rw [S.len]; exact hl)], v, rfl, r⟩
  ·rw [List.getElem?_set_ne hij] at h
   obtain ⟨o, q, w⟩ := S.sl j s h
   exact ⟨o, by rw [List.getElem?_set_ne hij]; exact q, w⟩
 ·have nj : i ≠ j := by
   intro e; subst e
   have hl : i < ρ.length := by
    have := List.getElem?_eq_some_iff.mp h1
    simpa using this.1
   rw [List.getElem?_set_self hl] at h1; cases h1
  have nk : i ≠ k := by
   intro e; subst e
   have hl : i < ρ.length := by
    have := List.getElem?_eq_some_iff.mp h2
    simpa using this.1
   rw [List.getElem?_set_self hl] at h2; cases h2
  rw [List.getElem?_set_ne nj] at h1 h3
  rw [List.getElem?_set_ne nk] at h2 ⊢
  exact S.sep j k a ds es hjk h1 h2 h3
theorem StOk.putOwn {K : PySem.W.Frag} {F : Addr -> Prop} {H H₀ : Hp} {σ : L2.St} {ρ : List Sl} (S : StOk K F H H₀ σ ρ) {i : Nat} {ds : List D} {vs : List V} {p : Addr} (hp : H p = none) (h0 : H₀ p = none) (r : Reps K F H ds vs) :
  StOk K F (upd H p (.lst vs)) H₀ (σ.set i (some (.ref p))) (ρ.set i (.own ds)) := by
 have e : Ext F F H (upd H p (.lst vs)) := Ext.fresh hp
 have S' := S.ext e
 have hf : ¬ F p := fun f => S.fz p f hp
 refine ⟨by simp [S.len], fun j s h => ?_, fun j k a ds' es hjk h1 h2 h3 h4 => ?_, S'.fz⟩
 ·by_cases hij : i = j
  ·subst hij
   have hl : i < ρ.length := by
    have := List.getElem?_eq_some_iff.mp h
    simpa using this.1
   rw [List.getElem?_set_self hl] at h
   cases h
   exact ⟨some (.ref p), by rw [List.getElem?_set_self (by rw [S.len]; exact hl)], p, vs, rfl, zA1, hf, h0, r.stay e.stay⟩
  ·rw [List.getElem?_set_ne hij] at h
   obtain ⟨o, q, w⟩ := S'.sl j s h
   exact ⟨o, by rw [List.getElem?_set_ne hij]; exact q, w⟩
 ·have old : ∀ (m : Nat) (a : Addr) (es : List D), i ≠ m -> (ρ.set i (.own ds))[m]? = some (.own es) -> (σ.set i (some (.ref p)))[m]? = some (some (.ref a)) -> a ≠ p := fun m a es nm g1 g2 z => by
   rw [List.getElem?_set_ne nm] at g1 g2
   obtain ⟨b, us, q1, q2, _⟩ := S.own g1
   rw [q1] at g2; cases g2
   subst z
   rw [hp] at q2; cases q2
  by_cases hij : i = j
  ·subst hij
   have hik : i ≠ k := hjk
   have hl : i < ρ.length := by
    have := List.getElem?_eq_some_iff.mp h1
    simpa using this.1
   rw [List.getElem?_set_self (by rw [S.len]; exact hl)] at h3
   cases h3
   exact old k p es hik h2 h4 rfl
  ·by_cases hik : i = k
   ·subst hik
    have hl : i < ρ.length := by
     have := List.getElem?_eq_some_iff.mp h2
     simpa using this.1
    rw [List.getElem?_set_self (by rw [S.len]; exact hl)] at h4
    cases h4
    exact old j p ds' hij h1 h3 rfl
   ·rw [List.getElem?_set_ne hij] at h1 h3
    rw [List.getElem?_set_ne hik] at h2 h4
    exact S.sep j k a ds' es hjk h1 h2 h3 h4
theorem StOk.turn {K : PySem.W.Frag} {F : Addr -> Prop} {H H₀ : Hp} {σ : L2.St} {ρ : List Sl} (S : StOk K F H H₀ σ ρ) {i : Nat} {ds es : List D} {vs us : List V} {p : Addr} (hi : ρ[i]? = some (.own ds)) (hs : σ[i]? = some (some (.ref p)))
  (hp : H p = some (.lst vs)) (hf : ¬ F p) (r : Reps K F H es us) : StOk K F (upd H p (.lst us)) H₀ σ (ρ.set i (.own es)) /\ Stay K F F H (upd H p (.lst us)) := by
 have T : Stay K F F H (upd H p (.lst us)) := ⟨fun _ h => h, fun a xs h => by
   rcases h with (h | ⟨o, h⟩) | h
   ·exact .inl (.inl (by rw [zAl (by intro z; subst z; rw [hp] at h; cases h)]; exact h))
   ·exact .inl (.inr ⟨o, by rw [zAl (by intro z; subst z; rw [hp] at h; cases h)]; exact h⟩)
   ·exact .inr h, fun a xs f h => by
   have na : a ≠ p := fun z => hf (z ▸ f)
   rcases h with h | ⟨o, h⟩
   ·exact .inl (by rw [zAl na]; exact h)
   ·exact .inr ⟨o, by rw [zAl na]; exact h⟩, fun a φ f h => by rw [zAl (fun z => hf (by rw [<- z]; exact f))]; exact h⟩
 refine ⟨⟨by simp [S.len], fun j s h => ?_, fun j k a ds' es' hjk h1 h2 h3 => ?_, fun a f z => S.fz a f (by
  have na : a ≠ p := fun y => hf (by rw [<- y]; exact f)
  rwa [zAl na] at z)⟩, T⟩
 ·by_cases hij : i = j
  ·subst hij
   have hl : i < ρ.length := (List.getElem?_eq_some_iff.mp hi).1
   rw [List.getElem?_set_self hl] at h
   cases h
   obtain ⟨a, ws, q1, _, _, q4, _⟩ := S.own hi
   rw [hs] at q1; cases q1
   exact ⟨_, hs, p, us, rfl, zA1, hf, q4, r.stay T⟩
  ·rw [List.getElem?_set_ne hij] at h
   obtain ⟨o, q, w⟩ := S.sl j s h
   refine ⟨o, q, ?_⟩
   cases s with
   | no => trivial
   | ownD kvs =>
    obtain ⟨a, es', ep, q', ha, nf, h0, n, l, r'⟩ := w
    exact ⟨a, es', ep, q', by rw [zAl (by intro z; subst z; rw [hp] at ha; cases ha)]; exact ha, nf, h0, n, l, r'.stay T⟩
   | dat d => obtain ⟨v, q', r'⟩ := w; exact ⟨v, q', r'.stay T⟩
   | own ds' =>
    obtain ⟨a, ws, q', ha, nf, h0, r'⟩ := w
    have na : a ≠ p := by
     intro z; subst z
     exact S.sep i j a ds ds' hij hi h hs (by rw [q, q'])
    exact ⟨a, ws, q', by rw [zAl na]; exact ha, nf, h0, r'.stay T⟩
 ·have get : ∀ (m : Nat) (es' : List D), (ρ.set i (.own es))[m]? = some (.own es') -> ∃ ds'' : List D, ρ[m]? = some (.own ds'') := fun m es' g => by
   by_cases him : i = m
   ·subst him; exact ⟨ds, hi⟩
   ·rw [List.getElem?_set_ne him] at g; exact ⟨es', g⟩
  obtain ⟨d1, g1⟩ := get j ds' h1
  obtain ⟨d2, g2⟩ := get k es' h2
  exact S.sep j k a d1 d2 hjk g1 g2 h3
noncomputable def frz : Sl -> Sl
 | .own ds => .dat (.list ds)
 | .ownD kvs => .dat (.dict kvs)
 | s => s
noncomputable def Own (σ : L2.St) (ρ : List Sl) (a : Addr) : Prop := (∃ (i : Nat) (ds : List D), ρ[i]? = some (.own ds) /\ σ[i]? = some (some (.ref a))) ∨ ∃ (i : Nat) (kvs : List (D × D)), ρ[i]? = some (.ownD kvs) /\ σ[i]? = some (some (.ref a))
theorem StOk.frz {K : PySem.W.Frag} {F : Addr -> Prop} {H H₀ : Hp} {σ : L2.St} {ρ : List Sl} (S : StOk K F H H₀ σ ρ) : StOk K (fun a => F a ∨ Own σ ρ a) H H₀ σ (ρ.map frz) := by
 have T : Stay K F (fun a => F a ∨ Own σ ρ a) H H := ⟨fun _ h => .inl h, fun _ _ h => h, fun _ _ _ h => h, fun _ _ _ h => h⟩
 refine ⟨by simp [S.len], fun j s h => ?_, fun j k a ds es _ h1 => ?_, fun a f => ?_⟩
 ·rw [List.getElem?_map] at h
  cases e : ρ[j]? with
  | none => rw [e] at h; cases h
  | some s' =>
   rw [e] at h
   obtain ⟨o, q, w⟩ := S.sl j s' e
   refine ⟨o, q, ?_⟩
   cases s' with
   | no => cases h; trivial
   | ownD kvs =>
    cases h
    obtain ⟨a, es, ep, q', ha, nf, h0, n, l, r⟩ := w
    exact ⟨.ref a, q', .dct (.inr (.inr ⟨j, kvs, e, by rw [q, q']⟩)) ha n l (r.stay T)⟩
   | dat d => cases h; obtain ⟨v, q', r⟩ := w; exact ⟨v, q', r.stay T⟩
   | own ds =>
    cases h
    obtain ⟨a, vs, q', ha, nf, h0, r⟩ := w
    exact ⟨.ref a, q', .lst (.inl ⟨.inr (.inl ⟨j, ds, e, by rw [q, q']⟩), .inl ha⟩) (r.stay T)⟩
 ·rw [List.getElem?_map] at h1
  cases e : ρ[j]? with
  | none => rw [e] at h1; cases h1
  | some s' => rw [e] at h1; cases s' <;> cases h1
 ·rcases f with f | ⟨i, ds, q1, q2⟩ | ⟨i, kvs, q1, q2⟩
  ·exact S.fz a f
  ·obtain ⟨b, vs, g1, g2, _⟩ := S.own q1
   rw [g1] at q2; cases q2
   rw [g2]; simp
  ·obtain ⟨b, vs, ep, g1, g2, _⟩ := S.ownD q1
   rw [g1] at q2; cases q2
   rw [g2]; simp
end DL
namespace DL
open PySem PySem.Spec PyProof.Rows L2
abbrev Rho := List Sl
section
variable {X : Cx}
theorem zAA {e : Expr} {t t' : TE} (h : PE X e t) (m : ∀ σ H Q, t' σ H Q -> t σ H Q) : PE X e t' := fun pins s σ H Q I q => h pins s σ H Q I (m σ H Q q)
theorem zEH {e : Expr} {t t' : TT} (h : PT X e t) (m : ∀ σ H Q, t' σ H Q -> t σ H Q) : PT X e t' := fun pins s σ H Q I q => h pins s σ H Q I (m σ H Q q)
theorem zND {e : Expr} {t t' : TT} (h : PW X e t) (m : ∀ σ H Q, t' σ H Q -> t σ H Q) : PW X e t' := fun wh pins s σ H Q I q => h wh pins s σ H Q I (m σ H Q q)
theorem zHc {es : List Expr} {t t' : TA} (h : PA X es t) (m : ∀ σ H Q, t' σ H Q -> t σ H Q) : PA X es t' := fun pos pins s σ H Q I q => h pos pins s σ H Q I (m σ H Q q)
theorem ps_mono {e : Stmt} {t t' : TS} (h : PS X e t) (m : ∀ W σ H, t' W σ H -> t W σ H) : PS X e t' := fun pins s σ H W I q => h pins s σ H W I (m W σ H q)
theorem zF4 {e : List Stmt} {t t' : TS} (h : PSs X e t) (m : ∀ W σ H, t' W σ H -> t W σ H) : PSs X e t' := fun pins s σ H W I q => h pins s σ H W I (m W σ H q)
theorem zCF {f : Value -> Value -> Sem Value} {r r' : R2} (h : OpR X f r) (m : ∀ x y H Q, r' x y H Q -> r x y H Q) : OpR X f r' := fun pins s σ H x y v u Q I rx ry q => h pins s σ H x y v u Q I rx ry (m x y H Q q)
theorem zJA {f : Value -> Sem Value} {r r' : V -> Hp -> VK -> Prop} (h : UnR X f r) (m : ∀ x H Q, r' x H Q -> r x H Q) : UnR X f r' := fun pins s σ H x v Q I rx q => h pins s σ H x v Q I rx (m x H Q q)
theorem zCQ {f : Value} {r r' : List V -> Hp -> VK -> Prop} (h : zAJ X f r) (m : ∀ x H Q, r' x H Q -> r x H Q) : zAJ X f r' := fun pins s σ H x v Q I rx q => h pins s σ H x v Q I rx (m x H Q q)
theorem zLK {r r' : R2} (h : IxR X r) (m : ∀ x y H Q, r' x y H Q -> r x y H Q) : IxR X r' := fun a b pins s σ H x y v u Q I rx ry q hs => h a b pins s σ H x y v u Q I rx ry (m x y H Q q) hs
end
noncomputable def tD (K : PySem.W.Frag) (g : Rho -> Option D) : TE := fun σ H Q => ∃ (F : Addr -> Prop) (H₀ : Hp) (ρ : Rho) (d : D), StOk K F H H₀ σ ρ /\ g ρ = some d /\ ∀ F' H' v, Ext F F' H H' -> Rep K F' H' d v -> Q v H'
noncomputable def tDT (K : PySem.W.Frag) (g : Rho -> Option Bool) : TT := fun σ H Q => ∃ (F : Addr -> Prop) (H₀ : Hp) (ρ : Rho) (b : Bool), StOk K F H H₀ σ ρ /\ g ρ = some b /\ ∀ F' H', Ext F F' H H' -> Q b H'
noncomputable def tDA (K : PySem.W.Frag) (g : Rho -> Option (List D)) : TA := fun σ H Q => ∃ (F : Addr -> Prop) (H₀ : Hp) (ρ : Rho) (ds : List D), StOk K F H H₀ σ ρ /\ g ρ = some ds /\ ∀ F' H' vs, Ext F F' H H' -> Reps K F' H' ds vs -> Q vs H'
noncomputable def DE (X : Cx) (e : Expr) (g : Rho -> Option D) : Prop := PE X e (tD X.K g)
noncomputable def DT (X : Cx) (e : Expr) (g : Rho -> Option Bool) : Prop := PT X e (tDT X.K g)
noncomputable def DW (X : Cx) (e : Expr) (g : Rho -> Option Bool) : Prop := PW X e (tDT X.K g)
noncomputable def DA (X : Cx) (es : List Expr) (g : Rho -> Option (List D)) : Prop := PA X es (tDA X.K g)
noncomputable def eC (d : D) : Rho -> Option D := fun _ => some d
noncomputable def eV (i : Nat) : Rho -> Option D := fun ρ => match ρ[i]? with
 | some (.dat d) => some d
 | _ => none
noncomputable def eOp (f : D -> D -> Option D) (ga gb : Rho -> Option D) : Rho -> Option D := fun ρ => (ga ρ).bind fun x => (gb ρ).bind fun y => f x y
noncomputable def eUn (f : D -> Option D) (ga : Rho -> Option D) : Rho -> Option D := fun ρ => (ga ρ).bind f
noncomputable def eNil : Rho -> Option (List D) := fun _ => some []
noncomputable def zAa (ga : Rho -> Option D) (gr : Rho -> Option (List D)) : Rho -> Option (List D) := fun ρ => (ga ρ).bind fun x => (gr ρ).bind fun xs => some (x :: xs)
noncomputable def eTup (ga : Rho -> Option (List D)) : Rho -> Option D := fun ρ => (ga ρ).bind fun xs => if xs.length <= 1000 then some (.tuple xs) else none
noncomputable def eLst (ga : Rho -> Option (List D)) : Rho -> Option D := fun ρ => (ga ρ).bind fun xs => if xs.length <= 1000 then some (.list xs) else none
noncomputable def zAh (G : List D -> Option D) (ga : Rho -> Option (List D)) : Rho -> Option D := fun ρ => (ga ρ).bind G
noncomputable def asB : D -> Option Bool
 | .bool b => some b
 | _ => none
noncomputable def asI : D -> Option Int
 | .int i => some i
 | _ => none
noncomputable def eB (ga : Rho -> Option D) : Rho -> Option Bool := fun ρ => (ga ρ).bind asB
noncomputable def eAnd (t u : Rho -> Option Bool) : Rho -> Option Bool := fun ρ => (t ρ).bind fun b => if b = true then u ρ else some false
noncomputable def eOr (t u : Rho -> Option Bool) : Rho -> Option Bool := fun ρ => (t ρ).bind fun b => if b = true then some true else u ρ
noncomputable def eNot (t : Rho -> Option Bool) : Rho -> Option Bool := fun ρ => (t ρ).bind fun b => some (!b)
noncomputable def eIf (t : Rho -> Option Bool) (ga gb : Rho -> Option D) : Rho -> Option D := fun ρ => (t ρ).bind fun b => if b = true then ga ρ else gb ρ
noncomputable def zB5 (ga gb : Rho -> Option D) : Rho -> Option D := fun ρ => (ga ρ).bind fun x => (asB x).bind fun c => if c = true then gb ρ else some (.bool false)
noncomputable def eOrV (ga gb : Rho -> Option D) : Rho -> Option D := fun ρ => (ga ρ).bind fun x => (asB x).bind fun c => if c = true then some (.bool true) else gb ρ
noncomputable def zE8 (ga : Rho -> Option D) : Rho -> Option D := fun ρ => (ga ρ).bind fun x => (asB x).bind fun c => some (.bool (!c))
noncomputable def zCG (h h' : D -> D -> Option D) (ga gb gc : Rho -> Option D) : Rho -> Option D := fun ρ => (ga ρ).bind fun x => (gb ρ).bind fun y => (h x y).bind fun z => (asB z).bind fun k => if k = true then (gc ρ).bind fun w => h' y w else some (.bool false)
noncomputable def rD2 (K : PySem.W.Frag) (h : D -> D -> Option D) : R2 := fun x y H Q => ∃ (F : Addr -> Prop) (d e r : D), (∀ a, F a -> H a ≠ none) /\ Rep K F H d x /\ Rep K F H e y /\ h d e = some r /\ ∀ F' H' v, Ext F F' H H' -> Rep K F' H' r v -> Q v H'
noncomputable def rD1 (K : PySem.W.Frag) (h : D -> Option D) : V -> Hp -> VK -> Prop := fun x H Q => ∃ (F : Addr -> Prop) (d r : D), (∀ a, F a -> H a ≠ none) /\ Rep K F H d x /\ h d = some r /\ ∀ F' H' v, Ext F F' H H' -> Rep K F' H' r v -> Q v H'
noncomputable def rDA (K : PySem.W.Frag) (h : List D -> Option D) : List V -> Hp -> VK -> Prop := fun xs H Q => ∃ (F : Addr -> Prop) (ds : List D) (r : D), (∀ a, F a -> H a ≠ none) /\ Reps K F H ds xs /\ h ds = some r /\ ∀ F' H' v, Ext F F' H H' -> Rep K F' H' r v -> Q v H'
section
variable {X : Cx} {a b c e : Expr} {es : List Expr} {ga gb gc : Rho -> Option D} {pos p : Pos}
theorem bnd {α β : Type} {o : Option α} {f : α -> Option β} {b : β} (h : o.bind f = some b) : ∃ a, o = some a /\ f a = some b := by
 cases o with
 | none => cases h
 | some a => exact ⟨a, rfl, h⟩
theorem zDs {v : V} {d : D} (h : PE X e (tC v)) (r : ∀ K F H, Rep K F H d v) : DE X e (eC d) :=
 zAA h fun σ H Q zz => by
  obtain ⟨F, H₀, ρ, d', S, q, k⟩ := zz
  cases q
  exact k F H v (Ext.refl F H) (r _ _ _)
theorem zAg {i : Int} {j : Nat} : DE X (.Constant (.int i) j pos) (eC (.int i)) := zDs zLY fun _ _ _ => .int i
theorem zBr {i : Bool} {j : Nat} : DE X (.Constant (.bool i) j pos) (eC (.bool i)) := zDs pe_bl fun _ _ _ => .bl i
theorem zAr {x : Str} {j : Nat} : DE X (.Constant (.str x) j pos) (eC (.str x)) := zDs zI7 fun _ _ _ => .str x
theorem zOC {x : Str} {i : Int} {t : Tok} (hg : Gl X x) (hm : X.mg x = some (.int i t)) (hd : (x == ("__debug__" : Str)) = false := by decide) : DE X (.Name x pos) (eC (.int i)) :=
 zDs (zFx (v := .int i) hg hm ⟨t, rfl⟩ hd) fun _ _ _ => .int i
theorem zAc (i : Nat) {x : Str} (hN : X.N[i]? = some x := by rfl) (hv : Vis X.env.scope x := by first | exact Or.inl rfl | exact Or.inr (Or.inl rfl) | exact Or.inr (Or.inr rfl)) (hd : (x == ("__debug__" : Str)) = false := by decide)
  (hcd : (x == ("__classdict__" : Str)) = false := by decide) : DE X (.Name x pos) (eV i) :=
 zAA (zEV hN hv hd hcd) fun σ H Q zz => by
  obtain ⟨F, H₀, ρ, d, S, q, k⟩ := zz
  unfold eV at q
  split at q
  ·rename_i d' e
   cases q
   obtain ⟨v, hs, r⟩ := S.dat e
   exact ⟨v, hs, k F H v (Ext.refl F H) r⟩
  ·cases q
theorem zD9 {h : D -> D -> Option D} {σ : L2.St} {H : Hp} {Q : VK} (q : tD X.K (eOp h ga gb) σ H Q) : tOp (rD2 X.K h) (tD X.K ga) (tD X.K gb) σ H Q := by
 obtain ⟨F, H₀, ρ, d, S, q, k⟩ := q
 obtain ⟨x, e1, q⟩ := bnd q
 obtain ⟨y, e2, q⟩ := bnd q
 exact ⟨F, H₀, ρ, x, S, e1, fun F1 H1 v E1 R1 => ⟨F1, H₀, ρ, y, S.ext E1, e2, fun F2 H2 u E2 R2 => ⟨F2, x, y, d, ((S.ext E1).ext E2).fz, R1.stay E2.stay, R2, q, fun F3 H3 w E3 R3 => k F3 H3 w (E1.trans (E2.trans E3)) R3⟩⟩⟩
theorem zAj {op : Operator} {h : D -> D -> Option D} (ho : OpR X (binaryOp op) (rD2 X.K h)) (ha : DE X a ga) (hb : DE X b gb) : DE X (.BinOp a op b pos) (eOp h ga gb) :=
 zAA (pe_op ho ha hb) fun _ _ _ q => zD9 q
theorem zIP {op : CmpOp} {h : D -> D -> Option D} (ho : OpR X (compareOp op) (rD2 X.K h)) (ha : DE X a ga) (hb : DE X b gb) (hm : behindInMarks op b = false) : DE X (.Compare a [op] [b] pos) (eOp h ga gb) :=
 zAA (zNF ho ha hb hm) fun _ _ _ q => zD9 q
theorem zAM {h : D -> D -> Option D} (ho : IxR X (rD2 X.K h)) (ha : DE X a ga) (hb : DE X b gb) (hs : zHw b := by exact fun _ _ => rfl) : DE X (.Subscript a b pos) (eOp h ga gb) :=
 zAA (pe_ix ho ha hb hs) fun _ _ _ q => zD9 q
theorem de_un {op : UnaryOp} {h : D -> Option D} (ho : UnR X (unaryOp op) (rD1 X.K h)) (ha : DE X a ga) : DE X (.UnaryOp op a pos) (eUn h ga) :=
 zAA (pe_un ho ha) fun σ H Q zz => by
  obtain ⟨F, H₀, ρ, d, S, q, k⟩ := zz
  obtain ⟨x, e1, q⟩ := bnd q
  exact ⟨F, H₀, ρ, x, S, e1, fun F1 H1 v E1 R1 => ⟨F1, x, d, (S.ext E1).fz, R1, q, fun F3 H3 w E3 R3 => k F3 H3 w (E1.trans E3) R3⟩⟩
theorem zCW {K : PySem.W.Frag} {F : Addr -> Prop} {H : Hp} {d : D} {v : V} {b : Bool} (r : Rep K F H d v) (h : asB d = some b) : v = .bl b := by
 cases r with
 | bl c => cases h; rfl
 | _ => cases h
theorem zKo {K : PySem.W.Frag} {F : Addr -> Prop} {H : Hp} {d : D} {v : V} {i : Int} (r : Rep K F H d v) (h : asI d = some i) : v = .int i := by
 cases r with
 | int c => cases h; rfl
 | _ => cases h
theorem liftT {t : TE} {g : Rho -> Option D} (m : ∀ σ H Q, tD X.K g σ H Q -> t σ H Q) {σ : L2.St} {H : Hp} {Q : Bool -> Hp -> Prop} (q : tDT X.K (eB g) σ H Q) : zH4 t σ H Q := by
 obtain ⟨F, H₀, ρ, b, S, q, k⟩ := q
 obtain ⟨d, e1, q⟩ := bnd q
 exact m σ H _ ⟨F, H₀, ρ, d, S, e1, fun F1 H1 v E1 R1 => ⟨b, zCW R1 q, k F1 H1 E1⟩⟩
theorem zAX {op : CmpOp} {h : D -> D -> Option D} (ho : OpR X (compareOp op) (rD2 X.K h)) (ha : DE X a ga) (hb : DE X b gb) (hm : behindInMarks op b = false) : DT X (.Compare a [op] [b] pos) (eB (eOp h ga gb)) :=
 zEH (zM4 ho ha hb hm) fun _ _ _ q => liftT (fun _ _ _ => zD9) q
theorem lift3 {h h' : D -> D -> Option D} {σ : L2.St} {H : Hp} {Q : VK} (q : tD X.K (zCG h h' ga gb gc) σ H Q) : zHX (rD2 X.K h) (rD2 X.K h') (tD X.K ga) (tD X.K gb) (tD X.K gc) σ H Q := by
 obtain ⟨F, H₀, ρ, d, S, q, k⟩ := q
 obtain ⟨x, e1, q⟩ := bnd q
 obtain ⟨y, e2, q⟩ := bnd q
 obtain ⟨z, e3, q⟩ := bnd q
 obtain ⟨c', e4, q⟩ := bnd q
 refine ⟨F, H₀, ρ, x, S, e1, fun F1 H1 v E1 R1 => ⟨F1, H₀, ρ, y, S.ext E1, e2, fun F2 H2 u E2 R2 => ⟨F2, x, y, z, ((S.ext E1).ext E2).fz, R1.stay E2.stay, R2, e3, fun F3 H3 w E3 R3 => ⟨c', zCW R3 e4, ?_⟩⟩⟩⟩
 cases c' with
 | false =>
  simp only [Bool.false_eq_true, if_false] at q ⊢
  cases q
  exact k F3 H3 _ (E1.trans (E2.trans E3)) (.bl false)
 | true =>
  simp only [if_true] at q ⊢
  obtain ⟨w', e5, q⟩ := bnd q
  have S3 := ((S.ext E1).ext E2).ext E3
  exact ⟨F3, H₀, ρ, w', S3, e5, fun F4 H4 v4 E4 R4 => ⟨F4, y, w', d, (S3.ext E4).fz, (R2.stay E3.stay).stay E4.stay, R4, q, fun F5 H5 v5 E5 R5 => k F5 H5 v5 (E1.trans (E2.trans (E3.trans (E4.trans E5)))) R5⟩⟩
theorem zEA {op op' : CmpOp} {h h' : D -> D -> Option D} (ho : OpR X (compareOp op) (rD2 X.K h)) (ho' : OpR X (compareOp op') (rD2 X.K h')) (ha : DE X a ga) (hb : DE X b gb) (hc : DE X c gc)
  (hm : lastMarks [op, op'] [b, c] = false := by with_unfolding_all rfl) : DE X (.Compare a [op, op'] [b, c] pos) (zCG h h' ga gb gc) :=
 zAA (zKT ho ho' ha hb hc hm) fun _ _ _ q => lift3 q
theorem zB4 (ha : DE X a ga) (he : ∀ whole, isTrue a X.env whole = (do let v <- whole; standAt a.pos; holding [v] (truthy v)) := by intro _; rfl) : DT X a (eB ga) :=
 zEH (zLL ha he) fun σ H Q zz => by
  obtain ⟨F, H₀, ρ, b, S, q, k⟩ := zz
  obtain ⟨d, e1, q⟩ := bnd q
  exact ⟨F, H₀, ρ, d, S, e1, fun F1 H1 v E1 R1 => ⟨b, zCW R1 q, k F1 H1 E1⟩⟩
variable {t u : Rho -> Option Bool} {rest : List Expr}
theorem zCm (ha : DT X a t) : DW X (.BoolOp .Or [a] pos) t := zJ7 ha
theorem zB7 (ha : DT X a t) (hb : DW X (.BoolOp .Or (b :: rest) pos) u) : DW X (.BoolOp .Or (a :: b :: rest) pos) (eOr t u) :=
 zND (pw_or ha hb) fun σ H Q zz => by
  obtain ⟨F, H₀, ρ, r, S, q, k⟩ := zz
  obtain ⟨d, e1, q⟩ := bnd q
  refine ⟨F, H₀, ρ, d, S, e1, fun F1 H1 E1 => ?_⟩
  cases d with
  | false => simp only [Bool.false_eq_true, if_false] at q ⊢; exact ⟨F1, H₀, ρ, r, S.ext E1, q, fun F2 H2 E2 => k F2 H2 (E1.trans E2)⟩
  | true => simp only [if_true] at q ⊢; cases q; exact k F1 H1 E1
theorem dw_t (h : DW X a t) : DT X a t := PW.pt h
theorem zCc (ha : DT X a t) : DT X (.UnaryOp .Not a pos) (eNot t) :=
 zEH (zKa ha) fun σ H Q zz => by
  obtain ⟨F, H₀, ρ, r, S, q, k⟩ := zz
  obtain ⟨d, e1, q⟩ := bnd q
  cases q
  exact ⟨F, H₀, ρ, d, S, e1, fun F1 H1 E1 => k F1 H1 E1⟩
theorem zDe {op : BoolOp} (ha : DE X a ga) : DE X (.BoolOp op [a] pos) ga := zJ1 ha
theorem zCM (ha : DE X a ga) (hb : DE X (.BoolOp .And (b :: rest) pos) gb) : DE X (.BoolOp .And (a :: b :: rest) pos) (zB5 ga gb) :=
 zAA (zLy ha hb) fun σ H Q zz => by
  obtain ⟨F, H₀, ρ, r, S, q, k⟩ := zz
  obtain ⟨d, e1, q⟩ := bnd q
  obtain ⟨c, e2, q⟩ := bnd q
  refine ⟨F, H₀, ρ, d, S, e1, fun F1 H1 v E1 R1 => ⟨c, zCW R1 e2, ?_⟩⟩
  cases c with
  | true => simp only [if_true] at q ⊢; exact ⟨F1, H₀, ρ, r, S.ext E1, q, fun F2 H2 w E2 R2 => k F2 H2 w (E1.trans E2) R2⟩
  | false => simp only [Bool.false_eq_true, if_false] at q ⊢; cases q; exact k F1 H1 _ E1 (.bl false)
theorem zOc (ha : DE X a ga) : DE X (.UnaryOp .Not a pos) (zE8 ga) :=
 zAA (zNN ha) fun σ H Q zz => by
  obtain ⟨F, H₀, ρ, r, S, q, k⟩ := zz
  obtain ⟨d, e1, q⟩ := bnd q
  obtain ⟨c, e2, q⟩ := bnd q
  cases q
  exact ⟨F, H₀, ρ, d, S, e1, fun F1 H1 v E1 R1 => ⟨c, zCW R1 e2, k F1 H1 _ E1 (.bl _)⟩⟩
theorem zGH (hc : DT X c t) (ha : DE X a ga) (hb : DE X b gb) : DE X (.IfExp c a b pos) (eIf t ga gb) :=
 zAA (zKC hc ha hb) fun σ H Q zz => by
  obtain ⟨F, H₀, ρ, r, S, q, k⟩ := zz
  obtain ⟨d, e1, q⟩ := bnd q
  refine ⟨F, H₀, ρ, d, S, e1, fun F1 H1 E1 => ?_⟩
  cases d with
  | true => simp only [if_true] at q ⊢; exact ⟨F1, H₀, ρ, r, S.ext E1, q, fun F2 H2 w E2 R2 => k F2 H2 w (E1.trans E2) R2⟩
  | false => simp only [Bool.false_eq_true, if_false] at q ⊢; exact ⟨F1, H₀, ρ, r, S.ext E1, q, fun F2 H2 w E2 R2 => k F2 H2 w (E1.trans E2) R2⟩
variable {gr : Rho -> Option (List D)}
theorem zAe : DA X [] eNil := zHc zBA fun σ H Q zz => by
 obtain ⟨F, H₀, ρ, d, S, q, k⟩ := zz
 cases q
 exact k F H [] (Ext.refl F H) .nil
theorem zKI (ha : DE X e ga) (hr : DA X es gr) (hs : starEach (e :: es) X.env = (false, eval e X.env) :: starEach es X.env := by rfl) : DA X (e :: es) (zAa ga gr) :=
 zHc (zBa ha hr hs) fun σ H Q zz => by
  obtain ⟨F, H₀, ρ, d, S, q, k⟩ := zz
  obtain ⟨x, e1, q⟩ := bnd q
  obtain ⟨xs, e2, q⟩ := bnd q
  cases q
  exact ⟨F, H₀, ρ, x, S, e1, fun F1 H1 v E1 R1 => ⟨F1, H₀, ρ, xs, S.ext E1, e2, fun F2 H2 vs E2 R2 => k F2 H2 _ (E1.trans E2) (.cons (R1.stay E2.stay) R2)⟩⟩
theorem zA8 {n : Nat} (h : n <= 1000) : n <= sizeLine := Nat.le_of_lt (zEc h)
theorem zAP {x1} (h : DA X es gr) : DE X (.Tuple es x1 pos) (eTup gr) :=
 zAA (zJq h) fun σ H Q zz => by
  obtain ⟨F, H₀, ρ, d, S, q, k⟩ := zz
  obtain ⟨xs, e1, q⟩ := bnd q
  refine ⟨F, H₀, ρ, xs, S, e1, fun F1 H1 vs E1 R1 => ?_⟩
  by_cases hl : xs.length <= 1000
  ·rw [if_pos hl] at q
   cases q
   refine ⟨zA8 (by rw [<- R1.length]; exact hl), fun p hp => k F1 _ _ (E1.trans (Ext.fresh hp)) (Rep.newTup hp R1)⟩
  ·rw [if_neg hl] at q; cases q
theorem zBV (h : DA X es gr) : DE X (.List es pos) (eLst gr) :=
 zAA (zJh h) fun σ H Q zz => by
  obtain ⟨F, H₀, ρ, d, S, q, k⟩ := zz
  obtain ⟨xs, e1, q⟩ := bnd q
  refine ⟨F, H₀, ρ, xs, S, e1, fun F1 H1 vs E1 R1 => ?_⟩
  by_cases hl : xs.length <= 1000
  ·rw [if_pos hl] at q
   cases q
   refine ⟨zA8 (by rw [<- R1.length]; exact hl), fun p hp => k _ _ _ (E1.trans (Ext.frozen hp)) (Rep.newLst hp R1)⟩
  ·rw [if_neg hl] at q; cases q
theorem zHK {h : List D -> Option D} {σ : L2.St} {H : Hp} {Q : VK} (q : tD X.K (zAh h gr) σ H Q) : tCB (rDA X.K h) (tDA X.K gr) σ H Q := by
 obtain ⟨F, H₀, ρ, d, S, q, k⟩ := q
 obtain ⟨xs, e1, q⟩ := bnd q
 exact ⟨F, H₀, ρ, xs, S, e1, fun F1 H1 vs E1 R1 => ⟨F1, xs, d, (S.ext E1).fz, R1, q, fun F2 H2 w E2 R2 => k F2 H2 w (E1.trans E2) R2⟩⟩
theorem zBH {id : String} {x : Str} {h : List D -> Option D} (hc : zAJ X (.builtin id) (rDA X.K h)) (hg : Gl X x) (hm : X.mg x = none) (hv : bootBuiltins x = some (.builtin id)) (ha : DA X (e :: es) gr) (hn : x ≠ "__name__" := by decide) (hdb : (x == ("__debug__" : Str)) = false := by decide)
  (he : starEach (e :: es) X.env = (false, eval e X.env) :: starEach es X.env := by rfl) (hpl : (backTo pos (starEach es X.env)).any (·.1) = false := by rfl) : DE X (.Call (.Name x p) (e :: es) [] pos) (zAh h gr) :=
 zAA (zFa hc hg hm hv ha hn hdb he hpl) fun _ _ _ q => zHK q
theorem zDC {T : String} {x : Str} {h : List D -> Option D} (hc : zAJ X (.type T) (rDA X.K h)) (hg : Gl X x) (hm : X.mg x = none) (hv : bootBuiltins x = some (.type T)) (ha : DA X (e :: es) gr) (hn : x ≠ "__name__" := by decide) (hdb : (x == ("__debug__" : Str)) = false := by decide)
  (he : starEach (e :: es) X.env = (false, eval e X.env) :: starEach es X.env := by rfl) (hpl : (backTo pos (starEach es X.env)).any (·.1) = false := by rfl) : DE X (.Call (.Name x p) (e :: es) [] pos) (zAh h gr) :=
 zAA (zKu hc hg hm hv ha hn hdb he hpl) fun _ _ _ q => zHK q
noncomputable def spD (K : PySem.W.Frag) (n : Nat) (G : List D -> Option D) : Sp := fun vs H Q _ => ∃ (F : Addr -> Prop) (ds : List D) (d : D), ds.length = n /\ (∀ a, F a -> H a ≠ none) /\ Reps K F H ds vs /\ G ds = some d /\ ∀ F' H' v, Ext F F' H H' -> Rep K F' H' d v -> Q v H'
theorem zAw {k n : Nat} {f : Addr} {fd : FuncData} {ps : List Str} {x : Str} {G : List D -> Option D} (F : FnOk X.prog X.w X.K X.mg X.base CX0 k f fd ps (spD X.K n G)) (hr : Room k X.A) (hg : Gl X x) (hm : X.mg x = some (.ref f)) (hk : PySem.W.keepIn X.K (.ref f) = true) (hb : Binds X.K fd ps [])
  (ha : DA X (e :: es) gr) (hln : ∀ ρ ds, gr ρ = some ds -> ds.length = n) (hdb : (x == ("__debug__" : Str)) = false := by decide) (he : starEach (e :: es) X.env = (false, eval e X.env) :: starEach es X.env := by rfl) (hpl : (backTo pos (starEach es X.env)).any (·.1) = false := by rfl) :
  DE X (.Call (.Name x p) (e :: es) [] pos) (zAh G gr) :=
 zAA (zOE (E := E0) F hr hg hm hk hb .nil pass0 ha hdb he hpl) fun σ H Q zz => by
  obtain ⟨F, H₀, ρ, d, S, q, k⟩ := zz
  obtain ⟨xs, e1, q⟩ := bnd q
  exact ⟨F, H₀, ρ, xs, S, e1, fun F1 H1 vs E1 R1 => by
   show spD X.K n G (vs ++ []) H1 Q E0
   rw [List.append_nil]
   exact ⟨F1, xs, d, hln ρ xs e1, (S.ext E1).fz, R1, q, fun F2 H2 w E2 R2 => k F2 H2 w (E1.trans E2) R2⟩⟩
theorem zAs {ρ : Rho} {ds : List D} (h : eNil ρ = some ds) : ds.length = 0 := by cases h; rfl
theorem zAi {n : Nat} (h' : ∀ ρ ds, gr ρ = some ds -> ds.length = n) (ρ : Rho) (ds : List D) (h : zAa ga gr ρ = some ds) : ds.length = n + 1 := by
 obtain ⟨x, e1, q⟩ := bnd h
 obtain ⟨xs, e2, q⟩ := bnd q
 cases q
 simp [h' ρ xs e2]
end
end DL
namespace EX
open PySem PySem.Spec PyProof.Rows L2
noncomputable def Fly (h : Heap) (e : Addr) (cls : Value) (tr : Option Addr) : Prop :=
 ∃ oe vs, h.get? e = some oe /\ oe.cls = cls /\ oe.data = .fields vs /\ match tr with
  | none => vs[1]? = some .none
  | some T => vs[1]? = some (.ref T) /\ T ≠ e /\ ∃ oT ts, h.get? T = some oT /\ oT.data = .fields ts /\ ts[3]? = some .none
structure ThrownC (X : Cx) (pins : List (Addr × Obj)) (H : Hp) (s : Shared) (a : Addr) (cls : Value) (tr : Option Addr) : Prop where
 fly : Fly s.heap a cls tr
 new : ∀ b, (b = a ∨ some b = tr) -> X.s₀.heap.get? b = none /\ H b = none /\ b ≠ X.env.locals /\ (∀ x c, X.env.cells.lookup x = some c -> c ≠ b) /\ ∀ p ∈ X.pn ++ pins, p.1 ≠ b
section
variable {M : Model} {A : Around} {E : Value -> Shared -> Prop} {s : Shared}
structure Kept (fs : List Addr) (no : Addr -> Prop) (h h' : Heap) : Prop where
 keep : ∀ b o, ¬ no b -> b ∉ fs -> h.get? b = some o -> h'.get? b = some o
 slot : ∀ b o, ¬ no b -> h.get? b = some o -> ∃ sl, h'.get? b = some { o with slots := sl }
theorem zDb {base : Heap} {env : Env} {outer : List Env} {L e : Addr} {oe : Obj} {vs : Array Value} {head : Value} {hadNext : Bool} {Q : Unit -> Shared -> Prop}
  (hfr : A.frames = some (env :: outer)) (hl : s.heap.FunFrames base (env :: outer)) (hf : env.frame = some L)
  (he : s.heap.get? e = some oe) (hd : oe.data = .fields vs) (hsz : 1 < vs.size)
  (h : ∀ h' T, s.heap.objs.size <= T -> Fly h' e oe.cls (some T) -> Kept (frs (env :: outer)) (· = e) s.heap h' -> Q () { s with heap := h' }) :
  wpAny M A (do let a <- frameOf env; let pl <- entryPlaceOf L hadNext; let b <- EntryCells.newEntry head a .none (rawInt L) .none pl; setField (.ref e) 1 b) (fun _ s' => wpAny M A (setFlight (.ref e) none) Q E s') E s := by
 have hene : e ∉ (env :: outer).filterMap (·.frame) := fun hm => by
  obtain ⟨_, o, ho, hnf⟩ := hl.mem hm
  rw [he] at ho; injection ho with ho; subst ho; exact hnf vs hd
 refine wpAny_bind (wpAny_frameOf_fun hfr hl hf fun h₁ hs₁ => ?_)
 refine wpAny_bind (wpAny_entryPlaceOf fun pl hpl => ?_)
 unfold EntryCells.newEntry newFields
 refine wpAny_bind (wpAny_newObj_type ?_ (hpl.sizeOk5 _ _ _ _ _))
 have he₁ : h₁.get? e = some oe := (hs₁.2.1 e hene).trans he
 have he₂ := Heap.get?_push_of_some (h := h₁) { cls := .type "traceback", dict := none, data := .fields ([head, .ref L, .none, rawInt L, .none] ++ (if pl.isEmpty then List.replicate 6 Value.none else pl)).toArray } he₁
 refine wpAny_setField he₂ hd hsz ?_
 have hTe : h₁.objs.size ≠ e := Nat.ne_of_gt (Heap.lt_size he₁)
 have hd₃ := Obj.data_mapFields hd (·.setIfInBounds 1 (Value.ref h₁.objs.size))
 have he₃ := Heap.get?_update_self (Obj.mapFields (·.setIfInBounds 1 (Value.ref h₁.objs.size))) he₂ (Obj.isFreed_of_fields hd₃)
 have hT₃ := (Heap.get?_update_other (h₁.push { cls := .type "traceback", dict := none, data := .fields ([head, .ref L, .none, rawInt L, .none] ++ (if pl.isEmpty then List.replicate 6 Value.none else pl)).toArray })
  (Obj.mapFields (·.setIfInBounds 1 (Value.ref h₁.objs.size))) (Ne.symm hTe)).trans (Heap.get?_push_size h₁ rfl)
 unfold setFlight
 refine wpAny_bind (wpAny_field he₃ hd₃ (x := .ref h₁.objs.size) (by simp [hsz]) ?_)
 rw [if_pos (show (Value.ref h₁.objs.size != Value.none) = true from by simp)]
 refine wpAny_setField hT₃ rfl (by simp only [List.size_toArray, List.length_append, List.length_cons, List.length_nil] <;> omega) (h _ h₁.objs.size (by rw [hs₁.1]; exact Nat.le_refl _) ?_ ?_)
 ·refine ⟨_, _, ?_, Obj.cls_mapFields _ _, hd₃, by simp [hsz], hTe, _, _, Heap.get?_update_self _ hT₃ (Obj.isFreed_of_fields (Obj.data_mapFields rfl _)), Obj.data_mapFields rfl _, by first | (simp; done) | (rcases hpl with rfl | ⟨_, _, _, _, _, _, _, rfl⟩ <;> simp)⟩
  rw [Heap.get?_update_other _ _ hTe]; exact he₃
 ·have keep : ∀ b o, ¬ (b = e) -> h₁.get? b = some o ->
    (((h₁.push { cls := .type "traceback", dict := none, data := .fields ([head, .ref L, .none, rawInt L, .none] ++ (if pl.isEmpty then List.replicate 6 Value.none else pl)).toArray }).update e (Obj.mapFields (·.setIfInBounds 1 (Value.ref h₁.objs.size)))).update h₁.objs.size
     (Obj.mapFields (·.setIfInBounds 3 ((none : Option Addr).elim Value.none fun f => rawInt f)))).get? b = some o := fun b o hb hbo => by
   have hbT : h₁.objs.size ≠ b := Nat.ne_of_gt (Heap.lt_size hbo)
   have hbe : e ≠ b := Ne.symm hb
   rw [Heap.get?_update_other _ _ hbT, Heap.get?_update_other _ _ hbe]
   exact Heap.get?_push_of_some _ hbo
  refine ⟨fun b o hb hbf hbo => keep b o hb ((hs₁.2.1 b hbf).trans hbo), fun b o hb hbo => ?_⟩
  obtain ⟨sl, hs⟩ := hs₁.2.2 b o hbo
  exact ⟨sl, keep b _ hb hs⟩
theorem zOv {base : Heap} {env : Env} {outer : List Env} {L e : Addr} {cls : Value} {tr : Option Addr} {Q : Unit -> Shared -> Prop}
  (hfr : A.frames = some (env :: outer)) (hl : s.heap.FunFrames base (env :: outer)) (hf : env.frame = some L) (F : Fly s.heap e cls tr)
  (h : ∀ h' T, s.heap.objs.size <= T -> Fly h' e cls (some T) -> Kept (frs (env :: outer)) (fun b => b = e ∨ some b = tr) s.heap h' -> Q () { s with heap := h' }) : wpAny M A (leaving env (.ref e)) Q E s := by
 obtain ⟨oe, vs, he, hc, hd, hT⟩ := F
 subst hc
 unfold leaving noteFrame
 simp only [hf]
 cases tr with
 | none =>
  have h1 : vs[1]? = some .none := hT
  refine wpAny_bind (wpAny_bind (wpAny_field he hd h1 ?_))
  rw [if_neg (by decide)]
  refine zDb hfr hl hf he hd (Array.getElem?_eq_some_iff.mp h1).1 fun h' T hT F' K' => h h' T hT F' ⟨fun b o hb => K'.keep b o fun z => hb (.inl z), fun b o hb => K'.slot b o fun z => hb (.inl z)⟩
 | some T =>
  obtain ⟨h1, hTe, oT, ts, hT, hdT, h3⟩ := hT
  refine wpAny_bind (wpAny_bind (wpAny_field he hd h1 ?_))
  rw [if_pos (show (Value.ref T != Value.none) = true from by simp)]
  refine wpAny_bind (wpAny_field hT hdT h3 ?_)
  rw [if_neg (show ¬ ((Value.none == rawInt L) = true) from by simp [rawInt])]
  refine wpAny_bind (wpAny_setField hT hdT (Array.getElem?_eq_some_iff.mp h3).1 ?_)
  have other : ∀ b, b ≠ T -> (s.heap.update T (Obj.mapFields (·.setIfInBounds 3 Value.none))).get? b = s.heap.get? b := fun b hb => Heap.get?_update_other _ _ (Ne.symm hb)
  have noRecord : ∀ b o, s.heap.get? b = some o -> (∀ vs, o.data ≠ .fields vs) -> b ≠ T := fun b o hb hnf q => by
   rw [q, hT] at hb; injection hb with hb; subst hb; exact hnf ts hdT
  refine zDb (s := { s with heap := s.heap.update T (Obj.mapFields (·.setIfInBounds 3 Value.none)) }) hfr (hl.of_keeps fun b o hb hnf => ⟨o, (other b (noRecord b o hb hnf)).trans hb, rfl⟩) hf ((other e (Ne.symm hTe)).trans he) hd (Array.getElem?_eq_some_iff.mp h1).1 fun h' T' hT' F' K' => h h' T' (by rw [Heap.size_update] at hT'; exact hT') F' ?_
  exact ⟨fun b o hb hbf hbo => K'.keep b o (fun z => hb (.inl z)) hbf ((other b fun z => hb (.inr (by rw [z]))).trans hbo), fun b o hb hbo => K'.slot b o (fun z => hb (.inl z)) ((other b fun z => hb (.inr (by rw [z]))).trans hbo)⟩
end
end EX
namespace DL
open PySem PySem.Spec PyProof.Rows L2
inductive Out where
 | nx (ρ : Rho)
 | rt (d : D)
 | bk (ρ : Rho)
 | ct (ρ : Rho)
 | ex (x : Str) (ρ : Rho)
theorem Stay.refl (K : PySem.W.Frag) (F : Addr -> Prop) (H : Hp) : Stay K F F H H := ⟨fun _ h => h, fun _ _ h => h, fun _ _ _ h => h, fun _ _ _ h => h⟩
theorem Stay.trans {K : PySem.W.Frag} {F F1 F2 : Addr -> Prop} {H H1 H2 : Hp} (a : Stay K F F1 H H1) (b : Stay K F1 F2 H1 H2) : Stay K F F2 H H2 :=
 ⟨fun x h => b.up x (a.up x h), fun x xs h => b.tp x xs (a.tp x xs h), fun x xs f h => b.ls x xs (a.up x f) (a.ls x xs f h), fun x φ f h => b.xt x φ (a.up x f) (a.xt x φ f h)⟩
noncomputable def zCY (X : Cx) (F₀ : Addr -> Prop) (H₀ : Hp) (F : Addr -> Prop) (H : Hp) (W : Ends) : Out -> Prop
 | .nx ρ => ∀ F' H' σ, Ext F₀ F' H₀ H' -> Stay X.K F F' H H' -> StOk X.K F' H' H₀ σ ρ -> W.nx σ H'
 | .rt d => ∀ F' H' v, Ext F₀ F' H₀ H' -> Rep X.K F' H' d v -> W.rt v H'
 | .bk ρ => ∀ F' H' σ, Ext F₀ F' H₀ H' -> Stay X.K F F' H H' -> StOk X.K F' H' H₀ σ ρ -> W.bk σ H'
 | .ct ρ => ∀ F' H' σ, Ext F₀ F' H₀ H' -> Stay X.K F F' H H' -> StOk X.K F' H' H₀ σ ρ -> W.ct σ H'
 | .ex x ρ => ∀ F' H' σ pins s a C tr, Ext F₀ F' H₀ H' -> StOk X.K F' H' H₀ σ ρ -> Inv X pins σ H' s -> PySem.W.nsIn X.K mainGlobals x = some (some (.ref C)) -> EX.ThrownC X pins H' s a (.ref C) tr -> X.xe (.ref a) s
theorem zCY.from {X : Cx} {F₀ F F' : Addr -> Prop} {H₀ H H' : Hp} {W : Ends} {o : Out} (T : Stay X.K F F' H H') (k : zCY X F₀ H₀ F H W o) : zCY X F₀ H₀ F' H' W o := by
 cases o with
 | nx ρ => exact fun F2 H2 σ E T2 S => k F2 H2 σ E (T.trans T2) S
 | rt d => exact k
 | bk ρ => exact fun F2 H2 σ E T2 S => k F2 H2 σ E (T.trans T2) S
 | ct ρ => exact fun F2 H2 σ E T2 S => k F2 H2 σ E (T.trans T2) S
 | ex x ρ => exact k
noncomputable def tDS (X : Cx) (g : Rho -> Option Out) : TS := fun W σ H => ∃ (F₀ : Addr -> Prop) (H₀ : Hp) (F : Addr -> Prop) (ρ : Rho) (o : Out), Ext F₀ F H₀ H /\ StOk X.K F H H₀ σ ρ /\ g ρ = some o /\ zCY X F₀ H₀ F H W o
noncomputable def DS (X : Cx) (st : Stmt) (g : Rho -> Option Out) : Prop := PS X st (tDS X g)
noncomputable def DSs (X : Cx) (sts : List Stmt) (g : Rho -> Option Out) : Prop := PSs X sts (tDS X g)
noncomputable def sSeq (g1 g2 : Rho -> Option Out) : Rho -> Option Out := fun ρ => (g1 ρ).bind fun o => match o with
 | .nx ρ' => g2 ρ'
 | o => some o
noncomputable def zAO : Rho -> Option Out := fun ρ => some (.nx ρ)
noncomputable def sRet (g : Rho -> Option D) : Rho -> Option Out := fun ρ => (g (ρ.map frz)).bind fun d => some (.rt d)
noncomputable def sSet (i : Nat) (g : Rho -> Option D) : Rho -> Option Out := fun ρ => (g ρ).bind fun d => some (.nx (ρ.set i (.dat d)))
noncomputable def sOwn (i : Nat) (g : Rho -> Option (List D)) : Rho -> Option Out := fun ρ => (g ρ).bind fun ds => if ds.length <= 1000 then some (.nx (ρ.set i (.own ds))) else none
noncomputable def zAk (i : Nat) (ρ : Rho) : Rho := match ρ[i]? with
 | some (.own ds) => ρ.set i (.dat (.list ds))
 | _ => ρ
noncomputable def sFrz (i : Nat) (g : Rho -> Option Out) : Rho -> Option Out := fun ρ => g (zAk i ρ)
noncomputable def sIf (t : Rho -> Option Bool) (g1 g2 : Rho -> Option Out) : Rho -> Option Out := fun ρ => (t (ρ.map frz)).bind fun b => if b = true then g1 ρ else g2 ρ
noncomputable def sDrop (g : Rho -> Option D) : Rho -> Option Out := fun ρ => (g ρ).bind fun _ => some (.nx ρ)
noncomputable def sApp (i : Nat) (g : Rho -> Option D) : Rho -> Option Out := fun ρ => match ρ[i]? with
 | some (.own ds) => (g ρ).bind fun d => if ds.length < 1000 then some (.nx (ρ.set i (.own (ds ++ [d])))) else none
 | _ => none
noncomputable def forN (s : D -> Rho -> Option Rho) (g : Rho -> Option Out) : List D -> Rho -> Option Out
 | [], ρ => some (.nx ρ)
 | d :: ds, ρ => (s d ρ).bind fun ρ1 => (g ρ1).bind fun o => match o with
   | .nx ρ' => forN s g ds ρ'
   | .ct ρ' => forN s g ds ρ'
   | .bk ρ' => some (.nx ρ')
   | .rt d => some (.rt d)
   | .ex x ρ' => some (.ex x ρ')
noncomputable def sFor (gi : Rho -> Option (List D)) (s : D -> Rho -> Option Rho) (g : Rho -> Option Out) : Rho -> Option Out := fun ρ => (gi ρ).bind fun xs => forN s g xs ρ
section
variable {X : Cx} {e a b c tg : Expr} {es : List Expr} {st : Stmt} {rest body orelse : List Stmt} {g g1 g2 gb : Rho -> Option Out} {ga : Rho -> Option D} {gr : Rho -> Option (List D)} {t : Rho -> Option Bool} {pos p : Pos}
theorem zBp : DSs X [] zAO := zF4 zJw fun W σ H zz => by
 obtain ⟨F₀, H₀, F, ρ, o, E, S, q, k⟩ := zz
 cases q
 exact k F H σ E (Stay.refl _ F H) S
theorem zJt {F₀ : Addr -> Prop} {H₀ : Hp} {F : Addr -> Prop} {ρ : Rho} {o : Out} {W : Ends} {σ : L2.St} {H : Hp} (E : Ext F₀ F H₀ H) (S : StOk X.K F H H₀ σ ρ) (q : sSeq g1 g2 ρ = some o) (k : zCY X F₀ H₀ F H W o) : tDS X g1 { W with nx := tDS X g2 W } σ H := by
 obtain ⟨o1, e1, q⟩ := bnd q
 refine ⟨F₀, H₀, F, ρ, o1, E, S, e1, ?_⟩
 cases o1 with
 | nx ρ' => exact fun F' H' σ' E' T' S' => ⟨F₀, H₀, F', ρ', o, E', S', q, k.from T'⟩
 | rt d => cases q; exact k
 | bk ρ' => cases q; exact k
 | ct ρ' => cases q; exact k
 | ex x ρ' => cases q; exact k
theorem zAq (h1 : DS X st g1) (h2 : DSs X rest g2) : DSs X (st :: rest) (sSeq g1 g2) :=
 zF4 (zKW h1 h2) fun W σ H ⟨F₀, H₀, F, ρ, o, E, S, q, k⟩ => zJt E S q k
theorem zAp (h1 : DS X st g) : DSs X [st] g := zHj h1
theorem Ext.thaw {K : PySem.W.Frag} {F₀ F F' : Addr -> Prop} {H₀ H H' : Hp} {σ : L2.St} {ρ : Rho} (E : Ext F₀ F H₀ H) (S : StOk K F H H₀ σ ρ) (E' : Ext (fun a => F a ∨ Own σ ρ a) F' H H') : Ext F₀ F' H₀ H' :=
 ⟨E.same.trans E'.same, fun a f => E'.up a (.inl (E.up a f)), fun a f => by
  rcases E'.new a f with (f | ⟨i, ds, q1, q2⟩ | ⟨i, ds, q1, q2⟩) | ⟨f1, f2⟩
  ·rcases E.new a f with f | ⟨f, f'⟩
   ·exact .inl f
   ·exact .inr ⟨f, fun z => f' (E'.same.free z)⟩
  ·obtain ⟨b, vs, g1, g2, _, g4, _⟩ := S.own q1
   rw [g1] at q2; cases q2
   exact .inr ⟨g4, by rw [E'.same _ _ g2]; simp⟩
  ·obtain ⟨b, vs, ep, g1, g2, _, g4, _⟩ := S.ownD q1
   rw [g1] at q2; cases q2
   exact .inr ⟨g4, by rw [E'.same _ _ g2]; simp⟩
  ·exact .inr ⟨E.same.free f1, f2⟩⟩
theorem zAy (ha : DE X e ga) : DS X (.Return (some e) pos) (sRet ga) := ps_mono (zEI ha) fun W σ H zz => by
 obtain ⟨F₀, H₀, F, ρ, o, E, S, q, k⟩ := zz
 obtain ⟨d, e1, q⟩ := bnd q
 cases q
 exact ⟨_, H₀, ρ.map frz, d, S.frz, e1, fun F' H' v E' R' => k F' H' v (E.thaw S E') R'⟩
theorem zAW {i : Nat} {x : Str} {pos' : Pos} (hN : X.N.Nodup) (ha : DE X e ga) (hi : X.N[i]? = some x := by rfl) (hx : Loc X.env.scope x := by first | exact Or.inl rfl | exact Or.inr rfl) (hs : swapsWith e (some (.Name x pos')) pos.line X.env = pure false := by rfl) (hf : X.fn x = true ∨ X.env.scope.names.lookup x = some .local := by first | exact .inl rfl | exact .inr rfl | assumption) :
  DS X (.Assign [.Name x pos'] e pos) (sSet i ga) := ps_mono (zDP hN hi hx ha hs hf) fun W σ H zz => by
 obtain ⟨F₀, H₀, F, ρ, o, E, S, q, k⟩ := zz
 obtain ⟨d, e1, q⟩ := bnd q
 cases q
 exact ⟨F, H₀, ρ, d, S, e1, fun F' H' v E' R' => k F' H' _ (E.trans E') E'.stay ((S.ext E').put R')⟩
theorem Ext.lend {K : PySem.W.Frag} {F F' : Addr -> Prop} {H H₀ H' : Hp} {σ : L2.St} {ρ : Rho} (S : StOk K F H H₀ σ ρ) (E' : Ext (fun a => F a ∨ Own σ ρ a) F' H H') : Ext F (fun a => F' a /\ ¬ Own σ ρ a) H H' :=
 ⟨E'.same, fun a f => ⟨E'.up a (.inl f), fun z => by
   rcases z with ⟨i, ds, q1, q2⟩ | ⟨i, ds, q1, q2⟩
   ·obtain ⟨b, vs, g1, g2, g3, _⟩ := S.own q1
    rw [g1] at q2; cases q2
    exact g3 f
   ·obtain ⟨b, vs, ep, g1, g2, g3, _⟩ := S.ownD q1
    rw [g1] at q2; cases q2
    exact g3 f⟩, fun a zz => by
  obtain ⟨f, n⟩ := zz
  rcases E'.new a f with (f | f) | f
  ·exact .inl f
  ·exact absurd f n
  ·exact .inr f⟩
theorem zD3 {i : Nat} {x : Str} {pos' pos'' : Pos} (hN : X.N.Nodup) (ha : DA X es gr) (hi : X.N[i]? = some x := by rfl) (hx : Loc X.env.scope x := by first | exact Or.inl rfl | exact Or.inr rfl) (hs : swapsWith (.List es pos'') (some (.Name x pos')) pos.line X.env = pure false := by rfl) (hf : X.fn x = true ∨ X.env.scope.names.lookup x = some .local := by first | exact .inl rfl | exact .inr rfl | assumption) :
  DS X (.Assign [.Name x pos'] (.List es pos'') pos) (sOwn i gr) := ps_mono (zDP hN hi hx (zJh ha) hs hf) fun W σ H zz => by
 obtain ⟨F₀, H₀, F, ρ, o, E, S, q, k⟩ := zz
 obtain ⟨ds, e1, q⟩ := bnd q
 by_cases hl : ds.length <= 1000
 ·rw [if_pos hl] at q
  cases q
  refine ⟨F, H₀, ρ, ds, S, e1, fun F' H' vs E' R' => ⟨zA8 (by rw [<- R'.length]; exact hl), fun pp hp => ?_⟩⟩
  exact k F' _ _ ((E.trans E').trans (Ext.fresh hp)) (E'.stay.trans (Ext.fresh hp).stay) ((S.ext E').putOwn hp ((E.trans E').same.free hp) R')
 ·rw [if_neg hl] at q; cases q
theorem zBb (hc : DT X c t) (h1 : DSs X body g1) (h2 : DSs X orelse g2) : DS X (.If c body orelse pos) (sIf t g1 g2) := ps_mono (ps_if hc h1 h2) fun W σ H zz => by
 obtain ⟨F₀, H₀, F, ρ, o, E, S, q, k⟩ := zz
 obtain ⟨r, e1, q⟩ := bnd q
 refine ⟨_, H₀, ρ.map frz, r, S.frz, e1, fun F' H' E' => ?_⟩
 have E2 := E'.lend S
 cases r with
 | true => simp only [if_true] at q ⊢; exact ⟨F₀, H₀, _, ρ, o, E.trans E2, S.ext E2, q, k.from E2.stay⟩
 | false => simp only [Bool.false_eq_true, if_false] at q ⊢; exact ⟨F₀, H₀, _, ρ, o, E.trans E2, S.ext E2, q, k.from E2.stay⟩
theorem Ext.turn {F₀ F : Addr -> Prop} {H₀ H : Hp} {p : Addr} {o : HO} (E : Ext F₀ F H₀ H) (h0 : H₀ p = none) : Ext F₀ F H₀ (upd H p o) :=
 ⟨fun b u q => by rw [zAl (zA5 q h0)]; exact E.same b u q, E.up, fun a f => by
  rcases E.new a f with f | ⟨f1, f2⟩
  ·exact .inl f
  ·refine .inr ⟨f1, fun z => ?_⟩
   by_cases ha : a = p
   ·subst ha; rw [zA1] at z; cases z
   ·rw [zAl ha] at z; exact f2 z⟩
theorem zGb {i : Nat} {x : Str} {apos pos' : Pos} (ha : DE X e ga) (hN : X.N[i]? = some x := by rfl) (hv : Vis X.env.scope x := by first | exact Or.inl rfl | exact Or.inr (Or.inl rfl) | exact Or.inr (Or.inr rfl)) (hd : (x == ("__debug__" : Str)) = false := by decide)
  (hcd : (x == ("__classdict__" : Str)) = false := by decide) (hse : starEach [e] X.env = (false, eval e X.env) :: starEach [] X.env := by rfl)
  (hbase : attributeBase (.Name x p) "append" X.env (eval (.Name x p) X.env) = eval (.Name x p) X.env := by rfl)
  (hfew : ((backTo pos' (starEach [e] X.env)).all (fun x => !x.1) && (backToKw pos' (keywordEach [] X.env)).all (fun x => x.1.isSome)
   && decide ([e].length + ([] : List Keyword).length + (if ([] : List Keyword).isEmpty then 0 else 1) < 30)) = true := by rfl)
  (hline : (apos.endLine == pos'.line) = true := by rfl) (hplain : (backTo pos' (starEach [] X.env)).any (·.1) = false := by rfl) (hsw : swapsWith (.Call (.Attribute (.Name x p) "append" apos) [e] [] pos') none pos.line X.env = pure false := by rfl) :
  DS X (.Expr (.Call (.Attribute (.Name x p) "append" apos) [e] [] pos') pos) (sApp i ga) :=
 ps_mono (zHu (zCz PySem.F.plainAttrs_list PySem.F.slot_list_append PySem.F.type_list_append zFp (zEV hN hv hd hcd) (zBa ha zBA hse) hbase hfew hline hse hplain) hsw) fun W σ H zz => by
 obtain ⟨F₀, H₀, F, ρ, o, E, S, q, k⟩ := zz
 unfold sApp at q
 split at q
 ·rename_i ds e0
  obtain ⟨d, e1, q⟩ := bnd q
  by_cases hl : ds.length < 1000
  ·rw [if_pos hl] at q
   cases q
   obtain ⟨l, vs, q1, q2, q3, q4, q5⟩ := S.own e0
   refine ⟨_, q1, .inl ⟨rfl, _, SqL.of q2⟩, F, H₀, ρ, d, S, e1, fun F' H' v E' R' => ?_⟩
   have S' := S.ext E'
   obtain ⟨l', vs', g1, g2, g3, g4, g5⟩ := S'.own e0
   rw [q1] at g1; cases g1
   refine ⟨l, vs', v, rfl, rfl, g2, zEc (by rw [<- g5.length]; omega), ?_⟩
   obtain ⟨S2, T⟩ := S'.turn e0 q1 g2 g3 (g5.append (.cons R' .nil))
   exact k F' _ σ ((E.trans E').turn q4) (E'.stay.trans T) S2
  ·rw [if_neg hl] at q; cases q
 ·cases q
end
end DL
namespace DL
open PySem PySem.Spec PyProof.Rows L2
noncomputable def tDG (K : PySem.W.Frag) (s : D -> Rho -> Option Rho) : TG := fun v σ H Q => ∃ (F : Addr -> Prop) (H₀ : Hp) (ρ : Rho) (d : D) (ρ' : Rho), StOk K F H H₀ σ ρ /\ Rep K F H d v /\ s d ρ = some ρ' /\ ∀ σ', StOk K F H H₀ σ' ρ' -> Q σ' H
noncomputable def tDGs (K : PySem.W.Frag) (s : List D -> Rho -> Option Rho) : TGs := fun vs σ H Q => ∃ (F : Addr -> Prop) (H₀ : Hp) (ρ : Rho) (ds : List D) (ρ' : Rho), StOk K F H H₀ σ ρ /\ Reps K F H ds vs /\ s ds ρ = some ρ' /\ ∀ σ', StOk K F H H₀ σ' ρ' -> Q σ' H
noncomputable def DG (X : Cx) (tg : Expr) (s : D -> Rho -> Option Rho) : Prop := PG X tg (tDG X.K s)
noncomputable def DGs (X : Cx) (ts : List Expr) (s : List D -> Rho -> Option Rho) : Prop := PGs X ts (tDGs X.K s)
noncomputable def zAo (i : Nat) : D -> Rho -> Option Rho := fun d ρ => some (ρ.set i (.dat d))
noncomputable def uNil : List D -> Rho -> Option Rho
 | [], ρ => some ρ
 | _ :: _, _ => none
noncomputable def zBX (s1 : D -> Rho -> Option Rho) (s2 : List D -> Rho -> Option Rho) : List D -> Rho -> Option Rho
 | [], _ => none
 | d :: ds, ρ => (s1 d ρ).bind fun ρ' => s2 ds ρ'
noncomputable def uTup (n : Nat) (s : List D -> Rho -> Option Rho) : D -> Rho -> Option Rho
 | .tuple ds, ρ => if ds.length = n then s ds ρ else none
 | _, _ => none
section
variable {X : Cx} {e tg : Expr} {es : List Expr} {pos : Pos}
theorem zF3 {t t' : TG} (h : PG X tg t) (m : ∀ v σ H Q, t' v σ H Q -> t v σ H Q) : PG X tg t' := fun pins s σ H v u Q I r q => h pins s σ H v u Q I r (m v σ H Q q)
theorem zIl {t t' : TGs} (h : PGs X es t) (m : ∀ v σ H Q, t' v σ H Q -> t v σ H Q) : PGs X es t' := fun pins s σ H v u Q I r q => h pins s σ H v u Q I r (m v σ H Q q)
theorem zAN {i : Nat} {x : Str} (hN : X.N.Nodup) (hi : X.N[i]? = some x := by rfl) (hx : Loc X.env.scope x := by first | exact Or.inl rfl | exact Or.inr rfl) (hf : X.fn x = true ∨ X.env.scope.names.lookup x = some .local := by first | exact .inl rfl | exact .inr rfl | assumption) : DG X (.Name x pos) (zAo i) :=
 zF3 (zMD hN hi hx hf) fun v σ H Q zz => by
  obtain ⟨F, H₀, ρ, d, ρ', S, R, q, k⟩ := zz
  cases q
  exact k _ (S.put R)
theorem zID : DGs X [] uNil := zIl zLz fun v σ H Q zz => by
 obtain ⟨F, H₀, ρ, ds, ρ', S, R, q, k⟩ := zz
 cases R with
 | nil => cases q; exact ⟨rfl, k σ S⟩
 | cons _ _ => cases q
theorem zD6 {s1 : D -> Rho -> Option Rho} {s2 : List D -> Rho -> Option Rho} (h1 : DG X e s1) (h2 : DGs X es s2)
  (hs : (assignEach (e :: es) X.env).map (·.2) = assign e X.env :: (assignEach es X.env).map (·.2) := by rfl) : DGs X (e :: es) (zBX s1 s2) :=
 zIl (zKy h1 h2 hs) fun v σ H Q zz => by
  obtain ⟨F, H₀, ρ, ds, ρ', S, R, q, k⟩ := zz
  cases R with
  | nil => cases q
  | cons r rs =>
   obtain ⟨ρ1, e1, q⟩ := bnd q
   exact ⟨_, _, rfl, F, H₀, ρ, _, ρ1, S, r, e1, fun σ1 S1 => ⟨F, H₀, ρ1, _, ρ', S1, rs, q, k⟩⟩
theorem zHo {n k : Nat} {s : List D -> Rho -> Option Rho} (hc : X.calm = true) (h : DGs X es s) (hn : (assignEach es X.env).length = n := by rfl) (hst : (assignEach es X.env).findIdx? (·.1) = none := by rfl) : DG X (.Tuple es k pos) (uTup n s) :=
 zF3 (zMU hc h hn hst) fun v σ H Q zz => by
  obtain ⟨F, H₀, ρ, d, ρ', S, R, q, k⟩ := zz
  cases R with
  | @tup a vs ds hq r =>
   by_cases hl : ds.length = n
   ·have q' : (if ds.length = n then s ds ρ else none) = some ρ' := q
    rw [if_pos hl] at q'
    exact ⟨_, _, rfl, hq, by rw [<- r.length]; exact hl, F, H₀, ρ, _, ρ', S, r, q', k⟩
   ·have q' : (if ds.length = n then s ds ρ else none) = some ρ' := q
    rw [if_neg hl] at q'; cases q'
  | non => cases q
  | dct _ _ _ _ _ => cases q
  | exn _ _ _ => cases q
  | bl _ => cases q
  | int _ => cases q
  | str _ => cases q
  | lst _ _ => cases q
end
noncomputable def sAsg (ga : Rho -> Option D) (s : D -> Rho -> Option Rho) : Rho -> Option Out := fun ρ => (ga ρ).bind fun d => (s d ρ).bind fun ρ' => some (.nx ρ')
section
variable {X : Cx} {e a b c tg iter : Expr} {es : List Expr} {st : Stmt} {rest body orelse : List Stmt} {g g1 g2 gb : Rho -> Option Out} {ga : Rho -> Option D} {gr : Rho -> Option (List D)} {t : Rho -> Option Bool} {pos p : Pos}
noncomputable def ItD (K : PySem.W.Frag) (F : Addr -> Prop) (H : Hp) (ds : List D) (J : It) : Prop :=
 ∀ F2 H2, Stay K F F2 H H2 -> (∀ a, F2 a -> H2 a ≠ none) -> ∀ i : Nat, (∀ d, ds[i]? = some d -> J.go i H2 /\ ∀ x H3, J.yld i H2 x H3 -> ∃ F3, Ext F2 F3 H2 H3 /\ Rep K F3 H3 d x) /\ (ds.length <= i -> J.stop i H2)
noncomputable def tDI (K : PySem.W.Frag) (gi : Rho -> Option (List D)) : TI := fun σ H R => ∃ (F : Addr -> Prop) (H₀ : Hp) (ρ : Rho) (ds : List D), StOk K F H H₀ σ ρ /\ gi ρ = some ds /\ ∀ F' H' J, Ext F F' H H' -> ItD K F' H' ds J -> R J H'
noncomputable def DI (X : Cx) (tg iter : Expr) (gi : Rho -> Option (List D)) : Prop := PI X tg iter (tDI X.K gi)
theorem zEK {wi wi' : TI} (h : PI X tg iter wi) (m : ∀ σ H R, wi' σ H R -> wi σ H R) : PI X tg iter wi' := fun pins s σ H R I q => h pins s σ H R I (m σ H R q)
theorem zDn {gi : Rho -> Option (List D)} {s : D -> Rho -> Option Rho} (hp : PassesOwn (model X.prog X.w) X.A X.env X.xe) (hc : X.calm = true) (hi : DI X tg iter gi) (hg : DG X tg s) (hb : DSs X body g)
  (hs : ∀ x, foldedSetIterable iter X.env x = pure x := by intro _; rfl) : DS X (.For tg iter body [] pos) (sFor gi s g) :=
 ps_mono (zJR hp hc hi hg hb hs) fun W σ H zz => by
  obtain ⟨F₀, H₀, F, ρ, o, E, S, q, k⟩ := zz
  obtain ⟨xs, e1, q⟩ := bnd q
  refine ⟨F, H₀, ρ, xs, S, e1, fun F1 H1 J E1 I1 => ?_⟩
  refine ⟨fun i m σ2 H2 => ∃ F2 ρ2, m = xs.length - i /\ i <= xs.length /\ Ext F₀ F2 H₀ H2 /\ Stay X.K F F2 H H2 /\ Stay X.K F1 F2 H1 H2 /\ StOk X.K F2 H2 H₀ σ2 ρ2 /\ forN s g (xs.drop i) ρ2 = some o,
   ⟨xs.length, F1, ρ, by simp, Nat.zero_le _, E.trans E1, E1.stay, Stay.refl _ _ _, S.ext E1, by simpa using q⟩, ?_⟩
  rintro i m σ2 H2 ⟨F2, ρ2, rfl, hi2, E2, T0, T1, S2, q2⟩
  obtain ⟨it1, it2⟩ := I1 F2 H2 T1 S2.fz i
  by_cases hlt : i < xs.length
  ·right
   have hget : xs[i]? = some xs[i] := by simp [hlt]
   obtain ⟨go, yld⟩ := it1 _ hget
   rw [List.drop_eq_getElem_cons hlt] at q2
   obtain ⟨ρ3, e3, q2⟩ := bnd q2
   obtain ⟨o3, e4, q2⟩ := bnd q2
   refine ⟨go, fun σ4 H4 => ∃ F4 ρ4, Ext F₀ F4 H₀ H4 /\ Stay X.K F F4 H H4 /\ Stay X.K F1 F4 H1 H4 /\ StOk X.K F4 H4 H₀ σ4 ρ4 /\ forN s g (xs.drop (i + 1)) ρ4 = some o, fun σ4 H4 ⟨F4, ρ4, h1, h2, h3, h4, h5⟩ => ⟨xs.length - (i + 1), by omega, F4, ρ4, rfl, hlt, h1, h2, h3, h4, h5⟩, fun x H3 y => ?_⟩
   obtain ⟨F3, E3, R3⟩ := yld x H3 y
   refine ⟨F3, H₀, ρ2, xs[i], ρ3, S2.ext E3, R3, e3, fun σ5 S5 => ⟨F₀, H₀, F3, ρ3, o3, E2.trans E3, S5, e4, ?_⟩⟩
   have TT0 := T0.trans E3.stay
   have TT1 := T1.trans E3.stay
   cases o3 with
   | nx ρ6 => exact fun F6 H6 σ6 E6 T6 S6 => ⟨F6, ρ6, E6, TT0.trans T6, TT1.trans T6, S6, q2⟩
   | ct ρ6 => exact fun F6 H6 σ6 E6 T6 S6 => ⟨F6, ρ6, E6, TT0.trans T6, TT1.trans T6, S6, q2⟩
   | bk ρ6 => cases q2; exact fun F6 H6 σ6 E6 T6 S6 => k F6 H6 σ6 E6 (TT0.trans T6) S6
   | rt d => cases q2; exact k
   | ex x ρ6 => cases q2; exact k
  ·left
   have hge : xs.length <= i := Nat.le_of_not_lt hlt
   refine ⟨it2 hge, ?_⟩
   rw [List.drop_eq_nil_of_le hge] at q2
   cases q2
   exact k F2 H2 σ2 E2 T0 S2
noncomputable def rng1 : List D -> Option (List D)
 | [.int j] => if -4611686018427387904 <= j /\ j < 4611686018427387904 then some ((List.range j.toNat).map fun (k : Nat) => .int (0 + (k : Int))) else none
 | _ => none
theorem zMq {K : PySem.W.Frag} {F : Addr -> Prop} {H : Hp} (lo : Int) (n : Nat) : ItD K F H ((List.range n).map fun (k : Nat) => .int (lo + (k : Int))) (Itr lo n) := fun F2 H2 T z i => by
 refine ⟨fun d hd => ?_, fun hl => ?_⟩
 ·have hi : i < n := by
   have := (List.getElem?_eq_some_iff.mp hd).1
   simpa using this
  have hd' : d = .int (lo + (i : Int)) := by
   rw [List.getElem?_map, List.getElem?_range hi] at hd
   cases hd; rfl
  subst hd'
  refine ⟨hi, fun x H3 y => ?_⟩
  obtain ⟨y1, y2⟩ := y
  subst y1 y2
  exact ⟨F2, Ext.refl _ _, .int _⟩
 ·show n <= i
  simpa using hl
theorem zM5 (hg : Gl X "range") (hm : X.mg "range" = none) (ha : DA X [a] gr) (hs : starEach [a] X.env = [(false, eval a X.env)] := by rfl) : DI X tg (.Call (.Name "range" p) [a] [] pos) (fun ρ => (gr ρ).bind rng1) :=
 zEK (zJJ hg hm ha hs) fun σ H R zz => by
  obtain ⟨F, H₀, ρ, ds, S, q, k⟩ := zz
  obtain ⟨xs, e1, q⟩ := bnd q
  unfold rng1 at q
  split at q
  ·rename_i j
   by_cases hj : -4611686018427387904 <= j /\ j < 4611686018427387904
   ·rw [if_pos hj] at q
    cases q
    refine ⟨F, H₀, ρ, _, S, e1, fun F1 H1 vs E1 R1 => ?_⟩
    cases R1 with
    | cons r rs =>
     cases r
     cases rs
     exact ⟨j, rfl, by omega, by omega, k F1 H1 _ E1 (zMq 0 _)⟩
   ·rw [if_neg hj] at q; cases q
  ·cases q
noncomputable def seqD : D -> Option (List D)
 | .list ds => some ds
 | .tuple ds => some ds
 | _ => none
theorem zJu {K : PySem.W.Frag} {F : Addr -> Prop} {H : Hp} {a : Addr} {vs : List V} {ds : List D} (h : FzL K F H a vs) (r : Reps K F H ds vs) : ItD K F H ds (Itl K a) := fun F2 H2 T z i => by
 have h2 := h.stay T
 have r2 := r.stay T
 refine ⟨fun d hd => ?_, fun hl => ⟨vs, h2.sq, by rw [<- r2.length]; exact hl⟩⟩
 obtain ⟨v, e, rv⟩ := r2.get hd
 refine ⟨⟨vs, v, h2.sq, e⟩, fun x H3 y => ?_⟩
 obtain ⟨y1, y2⟩ := y
 subst y1
 have := y2 vs h2.sq
 rw [e] at this; cases this
 exact ⟨F2, Ext.refl _ _, rv⟩
theorem zON {K : PySem.W.Frag} {F : Addr -> Prop} {H : Hp} {a : Addr} {vs : List V} {ds : List D} (h : SqT K H a vs) (r : Reps K F H ds vs) : ItD K F H ds (Itt K a) := fun F2 H2 T z i => by
 have h2 := T.tp _ _ h
 have r2 := r.stay T
 refine ⟨fun d hd => ?_, fun hl => ⟨vs, h2, by rw [<- r2.length]; exact hl⟩⟩
 obtain ⟨v, e, rv⟩ := r2.get hd
 refine ⟨⟨vs, v, h2, e⟩, fun x H3 y => ?_⟩
 obtain ⟨y1, y2⟩ := y
 subst y1
 have := y2 vs h2
 rw [e] at this; cases this
 exact ⟨F2, Ext.refl _ _, rv⟩
theorem zML (ha : DE X e ga) : DI X tg e (fun ρ => (ga ρ).bind seqD) := by
 intro pins s σ H R I h
 obtain ⟨F, H₀, ρ, ds, S, q, k⟩ := h
 obtain ⟨d, e1, q⟩ := bnd q
 refine thn (ha pins s σ H (fun x H1 => ∃ F1, Ext F F1 H H1 /\ Rep X.K F1 H1 d x) I ⟨F, H₀, ρ, d, S, e1, fun F1 H1 v E1 R1 => ⟨F1, E1, R1⟩⟩) fun v s1 zz => ?_
 obtain ⟨x, H1, I1, r1, F1, E1, R1⟩ := zz
 cases R1 with
 | @lst a vs ds' hq rr =>
  cases q
  cases r1
  obtain ⟨its, rv, p, hz⟩ := I1.list hq.sq
  refine wpAny_pyIter_list p.isList ?_
  refine ⟨s1.heap.objs.size, [s1.heap.objs.size], _, _, H1, rfl, I1.kept (t' := s1.toks) fun b o e => Heap.get?_push_of_some _ e, zOy a _, ⟨_, Heap.get?_push_size _ rfl, rfl, rfl⟩, fun b hb => ?_, k F1 H1 _ E1 (zJu hq rr)⟩
  have e : b = s1.heap.objs.size := by simpa using hb
  subst e
  exact I1.fpOk (Nat.le_refl _) (I1.hok.fresh (Nat.le_refl _))
 | @tup a vs ds' hq rr =>
  cases q
  cases r1
  obtain ⟨its, rv, p, hz⟩ := I1.tuple hq
  refine wpAny_pyIter_tuple (show s1.heap.IsTuple a its.toArray from p) ?_
  refine ⟨s1.heap.objs.size, [s1.heap.objs.size], _, _, H1, rfl, I1.kept (t' := s1.toks) fun b o e => Heap.get?_push_of_some _ e, zKg a _, ⟨_, Heap.get?_push_size _ rfl, rfl, rfl⟩, fun b hb => ?_, k F1 H1 _ E1 (zON hq rr)⟩
  have e : b = s1.heap.objs.size := by simpa using hb
  subst e
  exact I1.fpOk (Nat.le_refl _) (I1.hok.fresh (Nat.le_refl _))
 | non => cases q
 | dct _ _ _ _ _ => cases q
 | exn _ _ _ => cases q
 | bl _ => cases q
 | int _ => cases q
 | str _ => cases q
end
noncomputable def zAF (n : Nat) (ds : List D) : Rho := ds.map .dat ++ List.replicate (n - ds.length) .no
noncomputable def fnD (n : Nat) (g : Rho -> Option Out) : List D -> Option D := fun ds => match g (zAF n ds) with
 | some (.rt d) => some d
 | some (.nx _) => some .none
 | _ => none
theorem zBO {K : PySem.W.Frag} {F : Addr -> Prop} {H : Hp} {N : List Str} {ds : List D} {vs : List V} (z : ∀ a, F a -> H a ≠ none) (r : Reps K F H ds vs) : StOk K F H H (L2.start N vs) (zAF N.length ds) := by
 have hl := r.length
 refine ⟨by simp [L2.start, zAF, hl], fun i s h => ?_, fun i j a es es' hij h1 => ?_, z⟩
 ·unfold zAF at h
  by_cases hi : i < ds.length
  ·rw [List.getElem?_append_left (by simpa using hi), List.getElem?_map] at h
   cases e : ds[i]? with
   | none => rw [e] at h; cases h
   | some d =>
    rw [e] at h; cases h
    obtain ⟨v, e2, rv⟩ := r.get e
    refine ⟨some v, ?_, v, rfl, rv⟩
    unfold L2.start
    rw [List.getElem?_append_left (by simpa using (by omega : i < vs.length)), List.getElem?_map, e2]
    rfl
  ·rw [List.getElem?_append_right (by simpa using hi), List.getElem?_replicate] at h
   split at h
   ·rename_i hlt
    cases h
    refine ⟨none, ?_, trivial⟩
    unfold L2.start
    rw [List.getElem?_append_right (by simpa using (by omega : vs.length <= i)), List.getElem?_replicate, if_pos (by simp at hlt ⊢; omega)]
   ·cases h
 ·unfold zAF at h1
  by_cases hi : i < ds.length
  ·rw [List.getElem?_append_left (by simpa using hi), List.getElem?_map] at h1
   cases e : ds[i]? with
   | none => rw [e] at h1; cases h1
   | some d => rw [e] at h1; cases h1
  ·rw [List.getElem?_append_right (by simpa using hi), List.getElem?_replicate] at h1
   split at h1 <;> cases h1
theorem fn_D {P : Program} {w : World} {K : PySem.W.Frag} {mg : Str -> Option Value} {base : Heap} {x qual : Str} {st : Stmt} {f : Addr} {fd : FuncData} {N ps : List Str} {k : Nat} {g : Rho -> Option Out} (F : Fun K x qual st f fd) (S : zAx N ps (zAf st))
  (hb : ∀ (cdv : Value) (A : Around) (outer : List Env) (s : Shared) (H : Hp) (E : XK), Room k (A.deeper (envOfC qual (zAf st) s.heap.objs.size f cdv)) ->
   DSs (cxOf CX0 P w K mg base N qual (zAf st) f cdv A outer s H E).nox (zAv st) g) : FnOk P w K mg base CX0 (k + 1) f fd ps (spD K ps.length (fnD N.length g)) := by
 refine F.ok S (fun vs H Q E h => ?_) (fun cdv A outer s H vs Q E hr h => ?_)
 ·obtain ⟨F, ds, d, hl, _, r, _⟩ := h
  rw [<- r.length, hl]
 ·obtain ⟨F, ds, d, hl, z, r, q, kk⟩ := h
  refine ⟨_, hb cdv A outer s H E hr, ?_⟩
  unfold fnD at q
  split at q
  ·rename_i d' e
   cases q
   exact ⟨F, H, F, _, _, Ext.refl F H, zBO z r, e, fun F' H' v E' R' => kk F' H' v E' R'⟩
  ·rename_i ρ' e
   cases q
   exact ⟨F, H, F, _, _, Ext.refl F H, zBO z r, e, fun F' H' σ' E' T' S' => kk F' H' .non E' .non⟩
  ·cases q
end DL
namespace DL
open PySem PySem.Spec PySem.SeqAt PyProof.Rows L2
mutual
theorem Rep.reads {X : Cx} {pins : List (Addr × Obj)} {σ : L2.St} {H : Hp} {s : Shared} {F : Addr -> Prop} (I : L2.Inv X pins σ H s) : ∀ {d : D} {x : V} {u : Value}, Rep X.K F H d x -> d.canLay0 = true -> L2.RelV x u -> ∃ as, Reads s.heap u d as
 | _, _, _, .non, _, r => by cases r; exact ⟨_, .none⟩
 | _, _, _, .bl b, _, r => by cases r; exact ⟨_, .bool b⟩
 | _, _, _, .int i, _, r => by obtain ⟨t, rfl⟩ := r; exact ⟨_, .int i t⟩
 | _, _, _, .str x, _, r => by obtain ⟨t, rfl⟩ := r; exact ⟨_, .str x t⟩
 | _, _, _, .tup h q, c, r => by
  cases r
  obtain ⟨its, rv, ⟨o, ho, hc, n, hd⟩, _⟩ := I.tuple h
  obtain ⟨as, z⟩ := Reps.reads I q (by simpa [PyData.canLay0] using c) rv
  exact ⟨_, .tuple ho hc hd (by simpa using z)⟩
 | _, _, _, .lst h q, c, r => by
  cases r
  obtain ⟨its, rv, pl, _⟩ := I.list h.sq
  obtain ⟨o, n, ho, hc, _, hd⟩ := pl
  obtain ⟨as, z⟩ := Reps.reads I q (by simpa [PyData.canLay0] using c) rv
  exact ⟨_, .list ho hc hd (by simpa using z)⟩
 | _, _, _, .dct _ _ _ _ _, c, _ => by simp [PyData.canLay0] at c
 | _, _, _, .exn _ _ _, c, _ => by simp [excD, PyData.canLay0] at c
theorem Reps.reads {X : Cx} {pins : List (Addr × Obj)} {σ : L2.St} {H : Hp} {s : Shared} {F : Addr -> Prop} (I : L2.Inv X pins σ H s) : ∀ {ds : List D} {xs : List V} {us : List Value}, Reps X.K F H ds xs -> PyData.canLayAll0 ds = true -> L2.Vals xs us -> ∃ as, ReadsAll s.heap us ds as
 | _, _, _, .nil, _, r => by cases r; exact ⟨_, .nil⟩
 | _, _, _, .cons h q, c, r => by
  rw [PyData.canLayAll0, Bool.and_eq_true] at c
  cases r with
  | cons r1 r2 =>
   obtain ⟨as, z⟩ := Rep.reads I h c.1 r1
   obtain ⟨bs, y⟩ := Reps.reads I q c.2 r2
   exact ⟨_, .cons z y⟩
end
noncomputable def dI0 (t : Int -> Int -> D) : D -> D -> Option D
 | .int i, .int j => some (t i j)
 | _, _ => none
noncomputable def dI2 (C : Int -> Int -> Bool) (t : Int -> Int -> D) : D -> D -> Option D
 | .int i, .int j => if C i j = true then some (t i j) else none
 | _, _ => none
noncomputable def zBI (i j : Int) : Bool := (decide (-18446744073709551616 < i) && decide (i < 18446744073709551616)) || (decide (-18446744073709551616 < j) && decide (j < 18446744073709551616))
noncomputable def zCq (_ j : Int) : Bool := decide (0 < j) && decide (j < 1073741824)
noncomputable def zHI (_ j : Int) : Bool := decide (0 < j)
section
variable {X : Cx}
theorem opd0 {f : Value -> Value -> Sem Value} {g : Int -> Int -> V} {t : Int -> Int -> D} (h : OpR X f (rI0 g)) (r : ∀ i j K F H, Rep K F H (t i j) (g i j)) : OpR X f (rD2 X.K (dI0 t)) :=
 zCF h fun x y H Q zz => by
  obtain ⟨F, d, e, q, z, R1, R2, hq, k⟩ := zz
  unfold dI0 at hq
  split at hq
  ·cases hq
   cases R1
   cases R2
   exact ⟨_, _, rfl, rfl, k F H _ (Ext.refl F H) (r _ _ _ _ _)⟩
  ·cases hq
theorem opd2 {f : Value -> Value -> Sem Value} {C : Int -> Int -> Prop} {B : Int -> Int -> Bool} {g : Int -> Int -> V} {t : Int -> Int -> D} (h : OpR X f (rI C g)) (hB : ∀ i j, B i j = true -> C i j) (r : ∀ i j K F H, Rep K F H (t i j) (g i j)) : OpR X f (rD2 X.K (dI2 B t)) :=
 zCF h fun x y H Q zz => by
  obtain ⟨F, d, e, q, z, R1, R2, hq, k⟩ := zz
  unfold dI2 at hq
  split at hq
  ·rename_i i j
   by_cases hb : B i j = true
   ·rw [if_pos hb] at hq
    cases hq
    cases R1
    cases R2
    exact ⟨_, _, rfl, rfl, hB _ _ hb, k F H _ (Ext.refl F H) (r _ _ _ _ _)⟩
   ·rw [if_neg hb] at hq; cases hq
  ·cases hq
noncomputable def dSub : D -> D -> Option D := dI0 fun i j => .int (i - j)
noncomputable def dMul : D -> D -> Option D := dI2 zBI fun i j => .int (i * j)
noncomputable def zBL : D -> D -> Option D := dI2 zCq fun i j => .int (i / j)
noncomputable def dMod : D -> D -> Option D := dI2 zHI fun i j => .int (i % j)
noncomputable def dLe : D -> D -> Option D := dI0 fun i j => .bool (decide (i <= j))
noncomputable def dGt : D -> D -> Option D := dI0 fun i j => .bool (decide (j < i))
noncomputable def dGe : D -> D -> Option D := dI0 fun i j => .bool (decide (j <= i))
theorem zJs : OpR X (binaryOp .Mult) (rD2 X.K dMul) := opd2 zJX (fun i j h => by
 unfold zBI at h
 simp only [Bool.or_eq_true, Bool.and_eq_true, decide_eq_true_eq] at h
 unfold CMul
 omega) fun _ _ _ _ _ => .int _
theorem zEe : OpR X (binaryOp .FloorDiv) (rD2 X.K zBL) := opd2 zOV (fun i j h => by
 unfold zCq at h
 simp only [Bool.and_eq_true, decide_eq_true_eq] at h
 exact h) fun _ _ _ _ _ => .int _
theorem zCD : OpR X (binaryOp .Mod) (rD2 X.K dMod) := opd2 zOQ (fun i j h => by
 unfold zHI at h
 simpa using h) fun _ _ _ _ _ => .int _
theorem zDx : OpR X (compareOp .LtE) (rD2 X.K dLe) := opd0 op_le fun _ _ _ _ _ => .bl _
noncomputable def dNeg : D -> Option D
 | .int i => some (.int (-i))
 | _ => none
theorem zKR : UnR X (unaryOp .USub) (rD1 X.K dNeg) := zJA zMa fun x H Q zz => by
 obtain ⟨F, d, q, z, R1, hq, k⟩ := zz
 unfold dNeg at hq
 split at hq
 ·cases hq
  cases R1
  exact ⟨_, rfl, k F H _ (Ext.refl F H) (.int _)⟩
 ·cases hq
noncomputable def dEq (d e : D) : Option D := if (shaped d && shaped e) = true then some (.bool (PyData.eqv d e)) else none
noncomputable def dNe (d e : D) : Option D := if (shaped d && shaped e) = true then some (.bool (!PyData.eqv d e)) else none
theorem zCH (hu : X.A.units + 64 < cLine) : OpR X (compareOp .Eq) (rD2 X.K dEq) := fun pins s σ H x y v u Q I rx ry zz => by
 obtain ⟨F, d, e, q, z, R1, R2, hq, k⟩ := zz
 unfold dEq at hq
 by_cases c : (shaped d && shaped e) = true
 ·rw [if_pos c] at hq
  cases hq
  have c' := Bool.and_eq_true_iff.mp c
  obtain ⟨as, a1⟩ := R1.reads I (canLay_of_shaped c'.1) rx
  obtain ⟨bs, a2⟩ := R2.reads I (canLay_of_shaped c'.2) ry
  exact eq_dataH a1 a2 c'.1 c'.2 hu ⟨.bl _, H, I, rfl, k F H _ (Ext.refl F H) (.bl _)⟩
 ·rw [if_neg c] at hq; cases hq
theorem zBt (hu : X.A.units + 64 < cLine) : OpR X (compareOp .NotEq) (rD2 X.K dNe) := fun pins s σ H x y v u Q I rx ry zz => by
 obtain ⟨F, d, e, q, z, R1, R2, hq, k⟩ := zz
 unfold dNe at hq
 by_cases c : (shaped d && shaped e) = true
 ·rw [if_pos c] at hq
  cases hq
  have c' := Bool.and_eq_true_iff.mp c
  obtain ⟨as, a1⟩ := R1.reads I (canLay_of_shaped c'.1) rx
  obtain ⟨bs, a2⟩ := R2.reads I (canLay_of_shaped c'.2) ry
  exact ne_dataH a1 a2 c'.1 c'.2 hu ⟨.bl _, H, I, rfl, k F H _ (Ext.refl F H) (.bl _)⟩
 ·rw [if_neg c] at hq; cases hq
noncomputable def dIn (neg : Bool) (d : D) : D -> Option D
 | .list xs => if (shaped d && shaped (.list xs)) = true then some (.bool (if neg then !(xs.any fun y => PyData.eqv y d) else xs.any fun y => PyData.eqv y d)) else none
 | .tuple xs => if (shaped d && shaped (.tuple xs)) = true then some (.bool (if neg then !(xs.any fun y => PyData.eqv y d) else xs.any fun y => PyData.eqv y d)) else none
 | _ => none
theorem zFd (hu : X.A.units + 65 < cLine) : OpR X (compareOp .In) (rD2 X.K (dIn false)) := fun pins s σ H x y v u Q I rx ry zz => by
 obtain ⟨F, d, e, q, z, R1, R2, hq, k⟩ := zz
 unfold dIn at hq
 split at hq
 ·rename_i xs
  by_cases c : (shaped d && shaped (.list xs)) = true
  ·rw [if_pos c] at hq
   cases hq
   have c' := Bool.and_eq_true_iff.mp c
   obtain ⟨as, a1⟩ := R1.reads I (canLay_of_shaped c'.1) rx
   obtain ⟨bs, a2⟩ := R2.reads I (canLay_of_shaped c'.2) ry
   exact in_list_reads a2 a1 (canLay_of_shaped c'.2) (canLay_of_shaped c'.1) (room_in_shaped c'.1 hu) ⟨.bl _, H, I, rfl, k F H _ (Ext.refl F H) (.bl _)⟩
  ·rw [if_neg c] at hq; cases hq
 ·rename_i xs
  by_cases c : (shaped d && shaped (.tuple xs)) = true
  ·rw [if_pos c] at hq
   cases hq
   have c' := Bool.and_eq_true_iff.mp c
   obtain ⟨as, a1⟩ := R1.reads I (canLay_of_shaped c'.1) rx
   obtain ⟨bs, a2⟩ := R2.reads I (canLay_of_shaped c'.2) ry
   exact in_tuple_reads a2 a1 (canLay_of_shaped c'.2) (canLay_of_shaped c'.1) (room_in_shaped c'.1 hu) ⟨.bl _, H, I, rfl, k F H _ (Ext.refl F H) (.bl _)⟩
  ·rw [if_neg c] at hq; cases hq
 ·cases hq
noncomputable def dIx : D -> D -> Option D
 | .tuple xs, .int i => atI xs i
 | .list xs, .int i => atI xs i
 | _, _ => none
theorem Reps.atI {K : PySem.W.Frag} {F : Addr -> Prop} {H : Hp} {ds : List D} {vs : List V} {i : Int} {d : D} (r : Reps K F H ds vs) (h : L2.atI ds i = some d) : ∃ v, L2.atI vs i = some v /\ Rep K F H d v := by
 unfold L2.atI at h ⊢
 rw [r.length] at h
 cases e : ixN vs.length i with
 | none => rw [e] at h; cases h
 | some j =>
  rw [e] at h
  obtain ⟨v, h1, h2⟩ := r.get (show ds[j]? = some d from h)
  exact ⟨v, h1, h2⟩
theorem ixd : IxR X (rD2 X.K dIx) := zLK (zOp.or zJC) fun x y H Q zz => by
 obtain ⟨F, d, e, q, z, R1, R2, hq, k⟩ := zz
 unfold dIx at hq
 split at hq
 ·rename_i xs i
  cases R1 with
  | @tup a vs _ h1 r1 =>
   cases R2
   obtain ⟨v, g1, g2⟩ := r1.atI hq
   exact .inr ⟨a, vs, i, v, rfl, rfl, h1, g1, k F H _ (Ext.refl F H) g2⟩
 ·rename_i xs i
  cases R1 with
  | @lst a vs _ h1 r1 =>
   cases R2
   obtain ⟨v, g1, g2⟩ := r1.atI hq
   exact .inl ⟨a, vs, i, v, rfl, rfl, h1.sq, g1, k F H _ (Ext.refl F H) g2⟩
 ·cases hq
noncomputable def dLen : List D -> Option D
 | [.list xs] => some (.int xs.length)
 | [.tuple xs] => some (.int xs.length)
 | _ => none
theorem zC2 : zAJ X (.builtin "len") (rDA X.K dLen) := zCQ zNe fun xs H Q zz => by
 obtain ⟨F, ds, q, z, R, hq, k⟩ := zz
 unfold dLen at hq
 split at hq
 ·cases hq
  cases R with
  | cons R1 R2 =>
   cases R2
   cases R1 with
   | @lst a vs _ h1 r1 => exact ⟨a, vs, rfl, .inl h1.sq, by rw [<- r1.length]; exact k F H _ (Ext.refl F H) (.int _)⟩
 ·cases hq
  cases R with
  | cons R1 R2 =>
   cases R2
   cases R1 with
   | @tup a vs _ h1 r1 => exact ⟨a, vs, rfl, .inr h1, by rw [<- r1.length]; exact k F H _ (Ext.refl F H) (.int _)⟩
 ·cases hq
noncomputable def dAbs : List D -> Option D
 | [.int i] => some (.int (if i < 0 then -i else i))
 | _ => none
noncomputable def zAC : List D -> Option (List Int)
 | [] => some []
 | .int i :: r => (zAC r).bind fun is => some (i :: is)
 | _ => none
theorem zDE {K : PySem.W.Frag} {F : Addr -> Prop} {H : Hp} : ∀ {ds : List D} {vs : List V} {is : List Int}, Reps K F H ds vs -> zAC ds = some is -> vs = is.map V.int := by
 intro ds
 induction ds with
 | nil => intro vs is r h; cases r; cases h; rfl
 | cons d ds ih =>
  intro vs is r h
  cases r with
  | cons r1 r2 =>
   cases d with
   | int i =>
    cases r1
    obtain ⟨js, e, h⟩ := bnd h
    cases h
    rw [ih r2 e]; rfl
   | _ => cases h
noncomputable def zCw : List D -> Option D
 | [.list xs] => some (.tuple xs)
 | [.tuple xs] => some (.tuple xs)
 | _ => none
theorem zGR : zAJ X (.type "tuple") (rDA X.K zCw) := zCQ zOi fun xs H Q zz => by
 obtain ⟨F, ds, q, z, R, hq, k⟩ := zz
 unfold zCw at hq
 split at hq
 ·cases hq
  cases R with
  | cons R1 R2 =>
   cases R2
   cases R1 with
   | @lst a vs _ h1 r1 => exact ⟨a, vs, rfl, .inl ⟨h1.sq, fun l hl => k F _ _ (Ext.fresh hl) (Rep.newTup hl r1)⟩⟩
 ·cases hq
  cases R with
  | cons R1 R2 =>
   cases R2
   cases R1 with
   | @tup a vs _ h1 r1 => exact ⟨a, vs, rfl, .inr ⟨h1, k F H _ (Ext.refl F H) (.tup h1 r1)⟩⟩
 ·cases hq
noncomputable def zC6 : List D -> Option D
 | [.list xs] => some (.list xs)
 | [.tuple xs] => some (.list xs)
 | _ => none
theorem zJZ : zAJ X (.type "list") (rDA X.K zC6) := zCQ zLt fun xs H Q zz => by
 obtain ⟨F, ds, q, z, R, hq, k⟩ := zz
 unfold zC6 at hq
 split at hq
 ·cases hq
  cases R with
  | cons R1 R2 =>
   cases R2
   cases R1 with
   | @lst a vs _ h1 r1 => exact ⟨a, vs, rfl, .inl h1.sq, fun l hl => k _ _ _ (Ext.frozen hl) (Rep.newLst hl r1)⟩
 ·cases hq
  cases R with
  | cons R1 R2 =>
   cases R2
   cases R1 with
   | @tup a vs _ h1 r1 => exact ⟨a, vs, rfl, .inr h1, fun l hl => k _ _ _ (Ext.frozen hl) (Rep.newLst hl r1)⟩
 ·cases hq
end
end DL
namespace CL
open PySem PySem.Spec PyProof.Rows L2
theorem zFk {env : Env} : ∀ (names : List (Str × NameKind)) (acc : List (Str × Addr)), (∀ x ∈ names, x.2 = .free -> ∃ c, env.cells.lookup x.1 = some c) ->
  (∀ x c, acc.lookup x = some c -> env.cells.lookup x = some c) ->
  ∃ cl, (forIn names acc (fun (x : Str × NameKind) (cs : List (Str × Addr)) => (do
    if x.2 == .free then
     let c <- cellOf env x.1
     pure (ForInStep.yield ((x.1, c) :: cs))
    else pure (ForInStep.yield cs) : Sem (ForInStep (List (Str × Addr))))) = (pure cl : Sem _)) /\ (∀ x c, cl.lookup x = some c -> env.cells.lookup x = some c) /\
   (∀ x, (x, NameKind.free) ∈ names -> ∃ c, cl.lookup x = some c) /\ (∀ x c, acc.lookup x = some c -> ∃ c', cl.lookup x = some c') /\ (∀ x c, cl.lookup x = some c -> (x, NameKind.free) ∈ names ∨ acc.lookup x = some c)
 | [], acc, _, h2 => ⟨acc, by rw [List.forIn_nil], h2, fun x h => by simp at h, fun x c h => ⟨c, h⟩, fun x c h => .inr h⟩
 | (n, k) :: r, acc, h1, h2 => by
  rw [List.forIn_cons]
  by_cases hk : k = .free
  ·subst hk
   obtain ⟨c, hc⟩ := h1 (n, .free) (List.mem_cons_self) rfl
   have hc' : env.cells.lookup n = some c := hc
   have h2' : ∀ x c', ((n, c) :: acc).lookup x = some c' -> env.cells.lookup x = some c' := fun x c' h => by
    rw [List.lookup_cons] at h
    cases e : x == n with
    | true => rw [e] at h; cases h; rw [eq_of_beq e]; exact hc'
    | false => rw [e] at h; exact h2 x c' h
   obtain ⟨cl, q, a1, a2, a3, a4⟩ := zFk r ((n, c) :: acc) (fun x hx => h1 x (List.mem_cons_of_mem _ hx)) h2'
   refine ⟨cl, ?_, a1, fun x hx => ?_, fun x c' h => ?_, fun x c' h => ?_⟩
   ·have e1 : cellOf env n = pure c := by unfold cellOf; rw [hc']
    simp only [beq_self_eq_true, if_true, e1, pure_bind]
    exact q
   ·rcases List.mem_cons.mp hx with hx | hx
    ·cases hx
     exact a3 n c (by rw [List.lookup_cons, beq_self_eq_true])
    ·exact a2 x hx
   ·cases e : x == n with
    | true => rw [eq_of_beq e]; exact a3 n c (by rw [List.lookup_cons, beq_self_eq_true])
    | false => exact a3 x c' (by rw [List.lookup_cons, e]; exact h)
   ·rcases a4 x c' h with h | h
    ·exact .inl (List.mem_cons_of_mem _ h)
    ·rw [List.lookup_cons] at h
     cases e : x == n with
     | true => rw [eq_of_beq e]; exact .inl List.mem_cons_self
     | false => rw [e] at h; exact .inr h
  ·obtain ⟨cl, q, a1, a2, a3, a4⟩ := zFk r acc (fun x hx => h1 x (List.mem_cons_of_mem _ hx)) h2
   refine ⟨cl, ?_, a1, fun x hx => ?_, a3, fun x c h => (a4 x c h).imp (List.mem_cons_of_mem _) id⟩
   ·have e : (k == NameKind.free) = false := by simpa using hk
    simp only [e, Bool.false_eq_true, if_false, pure_bind]
    exact q
   ·rcases List.mem_cons.mp hx with hx | hx
    ·cases hx; exact absurd rfl hk
    ·exact a2 x hx
theorem clos {env : Env} {scope : Scope} (h : ∀ x ∈ scope.names, x.2 = .free -> ∃ c, env.cells.lookup x.1 = some c) :
  ∃ cl, closureFor scope env = pure cl /\ (∀ x c, cl.lookup x = some c -> env.cells.lookup x = some c) /\ (∀ x, (x, NameKind.free) ∈ scope.names -> ∃ c, cl.lookup x = some c) /\ (∀ x c, cl.lookup x = some c -> (x, NameKind.free) ∈ scope.names) := by
 obtain ⟨cl, q, a1, a2, _, a4⟩ := zFk (env := env) scope.names [] h (fun x c h => by simp at h)
 refine ⟨cl, ?_, a1, a2, fun x c h => (a4 x c h).elim id fun z => by simp at z⟩
 simp only [closureFor]
 first
  | exact q
  | (rw [<- q]; congr 1; funext x cs; obtain ⟨n, k⟩ := x; rfl)
  | simpa using q
noncomputable def inCx (X : Cx) (N' : List Str) (scope : Scope) (cl : List (Str × Addr)) (C : Addr) (fp : List Addr) (s : Shared) (H : Hp) : Cx :=
 { X with N := N', s₀ := s, H₀ := H, env := compEnvC scope cl C X.env, outer := X.stack, ex := fp, fn := fun x => scope.names.lookup x == some .local, pn := [], xe := fun _ _ => False }
structure zBB (X : Cx) (N' : List Str) (scope : Scope) (inner : List (Option Nat)) : Prop where
 kind : scope.kind = .function
 nocell : ∀ x ∈ scope.names, x.2 ≠ .cell
 loc : ∀ x ∈ scope.names, x.2 = .local -> scope.names.lookup x.1 = some .local
 free : ∀ x ∈ scope.names, x.2 = .free -> scope.names.lookup x.1 = some .free /\ (X.env.scope.names.lookup x.1 = some .cell ∨ X.env.scope.names.lookup x.1 = some .free)
 len : inner.length = N'.length
 out : ∀ (i j : Nat), inner[i]? = some (some j) -> ∃ x, N'[i]? = some x /\ X.N[j]? = some x /\ scope.names.lookup x = some .free
noncomputable def inSt (inner : List (Option Nat)) (σ : L2.St) : L2.St := inner.map fun o => o.bind fun j => (σ[j]?).bind id
theorem zGm {env : Env} : ∀ {names : List (Str × NameKind)} {x : Str}, names.lookup x = some .free ->
  (names.map fun (n, k) => if (k == NameKind.free && env.scope.kind == .function && env.kindOf n == some .cell) then (n, NameKind.cell) else (n, k)).lookup x = some .free ∨
  (names.map fun (n, k) => if (k == NameKind.free && env.scope.kind == .function && env.kindOf n == some .cell) then (n, NameKind.cell) else (n, k)).lookup x = some .cell
 | [], _, h => by simp at h
 | (n, k) :: r, x, h => by
  have ih := @zGm env r x
  rw [List.map_cons]
  show List.lookup x ((if (k == NameKind.free && env.scope.kind == .function && env.kindOf n == some .cell) = true then (n, NameKind.cell) else (n, k)) :: _) = _ ∨ List.lookup x ((if (k == NameKind.free && env.scope.kind == .function && env.kindOf n == some .cell) = true then (n, NameKind.cell) else (n, k)) :: _) = _
  cases hx : x == n with
  | true =>
   simp only [List.lookup_cons, hx] at h
   cases h
   by_cases hc : (NameKind.free == NameKind.free && env.scope.kind == .function && env.kindOf n == some .cell) = true
   ·rw [if_pos hc]; right; simp [List.lookup_cons, hx]
   ·rw [if_neg hc]; left; simp [List.lookup_cons, hx]
  | false =>
   simp only [List.lookup_cons, hx] at h
   by_cases hc : (k == NameKind.free && env.scope.kind == .function && env.kindOf n == some .cell) = true
   ·rw [if_pos hc]; simp only [List.lookup_cons, hx]; exact ih h
   ·rw [if_neg hc]; simp only [List.lookup_cons, hx]; exact ih h
theorem zFR {env : Env} : ∀ {names : List (Str × NameKind)} {x : Str} {q : NameKind}, (∀ y ∈ names, y.2 ≠ .cell) -> (q = .cell ∨ q = .free) ->
  (names.map fun (n, k) => if (k == NameKind.free && env.scope.kind == .function && env.kindOf n == some .cell) then (n, NameKind.cell) else (n, k)).lookup x = some q -> (x, NameKind.free) ∈ names
 | [], _, _, _, _, h => by simp at h
 | (n, k) :: r, x, q, hn, hq, h => by
  have ih := @zFR env r x q (fun y hy => hn y (List.mem_cons_of_mem _ hy)) hq
  rw [List.map_cons] at h
  have h' : List.lookup x ((if (k == NameKind.free && env.scope.kind == .function && env.kindOf n == some .cell) = true then (n, NameKind.cell) else (n, k)) :: _) = some q := h
  cases hx : x == n with
  | true =>
   have e : x = n := eq_of_beq hx
   by_cases hc : (k == NameKind.free && env.scope.kind == .function && env.kindOf n == some .cell) = true
   ·have : k = .free := by
     have := hc
     simp only [Bool.and_eq_true, beq_iff_eq] at this
     exact this.1.1
    rw [e, this]; exact List.mem_cons_self
   ·rw [if_neg hc] at h'
    simp only [List.lookup_cons, hx] at h'
    have kq : k = q := Option.some.inj h'
    rcases hq with z | z
    ·exact absurd (kq.trans z) (hn (n, k) List.mem_cons_self)
    ·rw [e, <- z, <- kq]; exact List.mem_cons_self
  | false =>
   by_cases hc : (k == NameKind.free && env.scope.kind == .function && env.kindOf n == some .cell) = true
   ·rw [if_pos hc] at h'; simp only [List.lookup_cons, hx] at h'; exact List.mem_cons_of_mem _ (ih h')
   ·rw [if_neg hc] at h'; simp only [List.lookup_cons, hx] at h'; exact List.mem_cons_of_mem _ (ih h')
section
variable {X : Cx} {N' : List Str} {scope : Scope} {inner : List (Option Nat)} {cl : List (Str × Addr)} {C : Addr} {fp : List Addr} {s s4 : Shared} {H : Hp} {σ : L2.St} {pins : List (Addr × Obj)}
theorem zIL (CS : zBB X N' scope inner) (I : Inv X pins σ H s) (hf : ∀ b ∈ fp, FpOk X pins H b) (c1 : ∀ x c, cl.lookup x = some c -> X.env.cells.lookup x = some c) (c2 : ∀ x, (x, NameKind.free) ∈ scope.names -> ∃ c, cl.lookup x = some c) (c3 : ∀ x c, cl.lookup x = some c -> (x, NameKind.free) ∈ scope.names)
  (hfl : ∀ b ∈ fp, b < s.heap.objs.size) (hC : C = s.heap.objs.size) {h' : Heap} {tk : Nat} (hk : ∀ b o, s.heap.get? b = some o -> h'.get? b = some o) (hns : h'.Ns C fun _ => none) (hs4 : s4 = { s with heap := h', toks := tk }) :
  Inv (inCx X N' scope cl C fp s H) [] (inSt inner σ) H s4 := by
 subst hs4
 have old : ∀ b o, s.heap.get? b = some o -> b ≠ C := fun b o e => by rw [hC]; exact Nat.ne_of_lt (Heap.lt_size e)
 have cC : ∀ x c, cl.lookup x = some c -> c ≠ C := fun x c e => by
  obtain ⟨v, o, q, _⟩ := I.cell x c (c1 x c e)
  exact old c o q
 refine ⟨⟨I.ok.mod, CS.kind, I.ok.glob, I.ok.blt, ?_, fun x y c h1 h2 => I.ok.inj x y c (c1 x c h1) (c1 y c h2), fun x hx => ?_, fun x c hx h => ?_, I.ok.hd, I.ok.frames, .inl rfl, fun b hb => ⟨?_, fun x c e z => (hf b hb).2.2.2.2.1 x c (c1 x c e) z⟩, I.bs, Nat.le_trans I.ok.bsz I.sz, fun b o e hb => ?_, fun b hb => ?_, I.stack, I.stkFree⟩,
  rfl, I.bare, Un.kept hk, ⟨_, hns, fun i x v e1 e2 e3 => ?_⟩, fun x c e => ?_, ?_, fun x c e => I.freeC x c (c1 x c e), fun p hp => absurd (show p ∈ ([] : List (Addr × Obj)) from hp) (by simp), I.hok.kept hk, ?_⟩
 ·show s.heap.objs.size <= C
  rw [hC]; exact Nat.le_refl _
 ·have hx' : (relabel scope X.env).names.lookup x = some .cell ∨ (relabel scope X.env).names.lookup x = some .free := hx
  rcases hx' with hx' | hx'
  ·exact c2 x (zFR CS.nocell (.inl rfl) hx')
  ·exact c2 x (zFR CS.nocell (.inr rfl) hx')
 ·have hx' : (scope.names.lookup x == some NameKind.local) = true := hx
  have e1 : scope.names.lookup x = some .local := eq_of_beq hx'
  have e2 := (CS.free _ (c3 x c h) rfl).1
  rw [e1] at e2; cases e2
 ·show b ≠ C
  rw [hC]; exact Nat.ne_of_lt (hfl b hb)
 ·rcases (hf b hb).2.2.2.1 with z | z
  ·exact I.ok.noex b o e z
  ·exact absurd (Nat.lt_of_lt_of_le (Heap.lt_size e) (Nat.le_trans I.ok.bsz z)) (Nat.lt_irrefl _)
 ·intro z
  rcases List.mem_cons.mp (I.stkSub b z) with q | q
  ·exact (hf b hb).2.1 q
  ·exact (hf b hb).2.2.1 q
 ·-- a name of the block: one that is free, read through its cell
  unfold inSt at e2
  rw [List.getElem?_map] at e2
  cases ei : inner[i]? with
  | none => rw [ei] at e2; cases e2
  | some o =>
   rw [ei] at e2
   cases o with
   | none => cases e2
   | some j =>
    have e2' : (σ[j]?).bind id = some v := by simpa using e2
    have e4 : σ[j]? = some (some v) := by
     cases ej : σ[j]? with
     | none => rw [ej] at e2'; cases e2'
     | some w' => rw [ej] at e2'; exact congrArg some e2'
    obtain ⟨x', g1, g2, g3⟩ := CS.out i j ei
    have e1' : N'[i]? = some x := e1
    rw [e1'] at g1; cases g1
    have mem : (x, NameKind.free) ∈ scope.names := PySem.mem_of_lookup g3
    have outer := (CS.free _ mem rfl).2
    obtain ⟨m, hm, hl⟩ := I.loc
    have vis : Vis X.env.scope x := outer.elim (fun z => .inr (.inl z)) fun z => .inr (.inr z)
    obtain ⟨u, ru, lk⟩ := hl j x v g2 e4 vis
    refine ⟨u, ru, ?_⟩
    obtain ⟨c, hc⟩ := c2 x mem
    rcases lk with ⟨k1, _⟩ | ⟨_, c', k2, k3⟩
    ·have k1' : X.env.scope.names.lookup x = some .local := k1
     rcases outer with z | z <;> (rw [k1'] at z; cases z)
    ·have e5 := c1 x c hc
     rw [k2] at e5; cases e5
     refine .inr ⟨?_, c, hc, (let ⟨o, q1, q2⟩ := k3; ⟨o, hk _ o q1, q2⟩)⟩
     have := zGm (env := X.env) g3
     exact this.elim .inr .inl
 ·obtain ⟨v, q⟩ := I.cell x c (c1 x c e)
  exact ⟨v, (let ⟨o, q1, q2⟩ := q; ⟨o, hk _ o q1, q2⟩)⟩
 ·show H C = none
  exact I.hok.fresh (by rw [hC]; exact Nat.le_refl _)
 ·show (inSt inner σ).length = N'.length
  unfold inSt
  rw [List.length_map]; exact CS.len
theorem zEo (I : Inv X pins σ H s) (hf : ∀ b ∈ fp, FpOk X pins H b) (hC : C = s.heap.objs.size) {σ' : L2.St} {H' : Hp} {s5 : Shared} (J : Inv (inCx X N' scope cl C fp s H) [] σ' H' s5) {h' : Heap} (sb : Heap.SameBut C s5.heap h') :
  Inv X pins σ H' { s5 with heap := h' } := by
 have old : ∀ b o, s.heap.get? b = some o -> b ≠ C := fun b o e => by rw [hC]; exact Nat.ne_of_lt (Heap.lt_size e)
 have U : Un (frs X.stack) fp H H' s.heap s5.heap := J.base
 have nC : H' C = none := J.free
 refine I.call' (ch := fp) J.os ⟨fun b o e n hb hx => ?_, fun b o e n hb hx => ?_, U.free, fun b o e hx => ?_, U.tups, U.frzs, U.tbls⟩ (fun b u e => ?_) J.bare fun b hb => ?_
 ·rw [sb.2 b (old b o e)]; exact U.keep b o e n hb hx
 ·obtain ⟨sl, q⟩ := U.slot b o e n hb hx
  exact ⟨sl, by rw [sb.2 b (old b o e)]; exact q⟩
 ·obtain ⟨o', q⟩ := U.there b o e hx
  exact ⟨o', by rw [sb.2 b (old b o e)]; exact q⟩
 ·have nt : ∀ c v, H' c = some v -> c ≠ C := fun c v q z => by rw [z, nC] at q; cases q
  refine (J.hok b u e).stay (fun c v hc q => ?_) (fun _ q => q) fun _ _ q => q
  rw [sb.2 c ?_]
  ·exact q
  ·rcases hc with z | z
   ·rw [z]; exact nt b u e
   ·exact nt c _ z
 ·exact ⟨(hf b hb).2.2.2.1, (hf b hb).2.1, (hf b hb).2.2.2.2.1, (hf b hb).2.2.2.2.2⟩
end
noncomputable def PTs (X : Cx) (ifs : List Expr) (t : TT) : Prop :=
 ∀ (pins : List (Addr × Obj)) (s : Shared) (σ : L2.St) (H : Hp) (Q : Bool -> Hp -> Prop), Inv X pins σ H s -> t σ H Q ->
  wpAny (model X.prog X.w) X.A (forIn ifs true fun c r => if r = true then do let ok <- isTrue c X.env (eval c X.env); pure (ForInStep.yield ok) else pure (ForInStep.yield r)) (TP X pins σ Q) X.xe s
theorem zJy {X : Cx} {c : Expr} {t : TT} (h : PT X c t) : PTs X [c] t := fun pins s σ H Q I q => wpAny_tests_one (h pins s σ H Q I q)
noncomputable def zEJ (wi : TI) (g : TG) (ti : TT) (te : TE) (inner : List (Option Nat)) : TE := fun σ H Q => wi σ H fun J H1 => ∀ D, H1 D = none -> ∃ W : Nat -> Nat -> L2.St -> Hp -> Prop, (∃ m, W 0 m (inSt inner σ) (upd H1 D (.lst []))) /\ ∀ i m σ' H', W i m σ' H' ->
 (J.stop i H' /\ Q (.ref D) H') ∨ (J.go i H' /\ ∀ x H2, J.yld i H' x H2 -> g x σ' H2 fun σ3 H3 => ti σ3 H3 fun b H4 => if b = true then te σ3 H4 fun y H5 => ∃ ys, H5 D = some (.lst ys) /\ ys.length < sizeLine /\ ∃ m', m' < m /\ W (i + 1) m' σ3 (upd H5 D (.lst (ys ++ [y]))) else ∃ m', m' < m /\ W (i + 1) m' σ3 H4)
section
variable {X : Cx} {elt tg iter : Expr} {ifs : List Expr} {scope : Scope} {pos : Pos} {N' : List Str} {inner : List (Option Nat)} {wi : TI} {g : TG} {ti : TT} {te : TE}
theorem zDu (hc : X.calm = true) (CS : zBB X N' scope inner) (hg : ∀ cl C fp s H, PG (inCx X N' scope cl C fp s H) tg g) (ht : ∀ cl C fp s H, PTs (inCx X N' scope cl C fp s H) ifs ti) (he : ∀ cl C fp s H, PE (inCx X N' scope cl C fp s H) elt te)
  {pins : List (Addr × Obj)} {σ : L2.St} {s2 : Shared} {H2 : Hp} {it : Addr} {fp : List Addr} {tn : Nat -> Heap -> Prop} {J : It} {cl : List (Str × Addr)} {Q : VK} {RR : Value -> Addr -> Result -> Shared -> Prop}
  (c1 : ∀ x c, cl.lookup x = some c -> X.env.cells.lookup x = some c) (c2 : ∀ x, (x, NameKind.free) ∈ scope.names -> ∃ c, cl.lookup x = some c) (c3 : ∀ x c, cl.lookup x = some c -> (x, NameKind.free) ∈ scope.names)
  (I2 : Inv X pins σ H2 s2) (T : Turn X.prog X.w X.K tg J fp it tn) (t0 : tn 0 s2.heap) (f2 : ∀ b ∈ fp, FpOk X pins H2 b)
  (q : ∀ D, H2 D = none -> ∃ W : Nat -> Nat -> L2.St -> Hp -> Prop, (∃ m, W 0 m (inSt inner σ) (upd H2 D (.lst []))) /\ ∀ i m σ' H', W i m σ' H' ->
   (J.stop i H' /\ Q (.ref D) H') ∨ (J.go i H' /\ ∀ x H3, J.yld i H' x H3 -> g x σ' H3 fun σ3 H3 => ti σ3 H3 fun b H4 => if b = true then te σ3 H4 fun y H5 => ∃ ys, H5 D = some (.lst ys) /\ ys.length < sizeLine /\ ∃ m', m' < m /\ W (i + 1) m' σ3 (upd H5 D (.lst (ys ++ [y]))) else ∃ m', m' < m /\ W (i + 1) m' σ3 H4))
  (fin : ∀ (D C : Addr) (H' : Hp) (s5 : Shared) (m : Str -> Option Value), s5.heap.Ns C m -> Q (.ref D) H' -> (∀ h', Heap.SameBut C s5.heap h' -> Inv X pins σ H' { s5 with heap := h' }) -> (H' C = none /\ C ≠ X.env.locals /\ X.s₀.heap.objs.size <= C /\ (∀ x c, X.env.cells.lookup x = some c -> c ≠ C) /\ ∀ p ∈ X.pn ++ pins, p.1 ≠ C) -> RR (.ref D) C (.ok .next) s5) :
  wpAny (model X.prog X.w) X.A (newList []) (fun acc s₃ => wpAny (model X.prog X.w) X.A (newFunctionEnv scope X.env.globals cl [] X.env.qual none .none (some X.env)) (fun cenv s₄ =>
   codeAny (model X.prog X.w) X.A (.compStart (.ListComp elt [⟨tg, iter, ifs, 0⟩] scope pos) 0 (.ref it) acc { cenv with scope := relabel scope X.env }) (RR acc cenv.locals) s₄) X.xe s₃) X.xe s2 := by
 refine wpAny_newList ?_
 have hD : H2 s2.heap.objs.size = none := I2.hok.fresh (Nat.le_refl _)
 generalize hs3 : ({ s2 with heap := s2.heap.push { cls := .type "list", data := .seq ([] : List Value).toArray } } : Shared) = s3
 have k23 : ∀ b o, s2.heap.get? b = some o -> s3.heap.get? b = some o := fun b o e => by rw [<- hs3]; exact Heap.get?_push_of_some _ e
 have sz3 : s3.heap.objs.size = s2.heap.objs.size + 1 := by rw [<- hs3]; exact Heap.size_push _ _
 have I3 : Inv X pins σ (upd H2 s2.heap.objs.size (.lst [])) s3 := by
  rw [<- hs3]
  exact I2.laid (t' := s2.toks) (o := .lst []) (fun b o e => Heap.get?_push_of_some _ e) (Nat.le_refl _) ⟨Nat.zero_le _, [], 0, .nil, Heap.get?_push_size _ rfl⟩
 have ffl : ∀ b ∈ fp, b < s2.heap.objs.size := fun b hb => by
  obtain ⟨o, e, _⟩ := T.obj 0 _ t0 b hb
  exact Heap.lt_size e
 have f3 : ∀ b ∈ fp, FpOk X pins (upd H2 s2.heap.objs.size (.lst [])) b := fun b hb => by
  obtain ⟨g0, g1⟩ := f2 b hb
  exact ⟨by rw [zAl (Nat.ne_of_lt (ffl b hb))]; exact g0, g1⟩
 have t3 : tn 0 s3.heap := T.keep _ _ _ t0 fun b _ o e => k23 b o e
 obtain ⟨W, ⟨m0, w0⟩, step⟩ := q _ hD
 refine wpAny_newFunctionEnv (fun x hx => CS.nocell x hx) (by intro y hy; simp at hy) (fun h₁ hns₁ hsb₁ => ?_) CS.kind
 try dsimp only at hns₁ hsb₁ ⊢
 have k34 : ∀ b o, s3.heap.get? b = some o -> h₁.get? b = some o := fun b o e => hsb₁.extBut b o (Nat.ne_of_lt (Heap.lt_size e)) (Heap.get?_push_of_some _ e)
 have hns : h₁.Ns s3.heap.objs.size fun _ => none := by
  have : (fun x => ([] : List (Str × Value)).reverse.lookup x) = (fun _ => none : Str -> Option Value) := by funext x; rfl
  rw [this] at hns₁; exact hns₁
 generalize hs4 : ({ s3 with heap := h₁, toks := s3.toks + ([] : List (Str × Value)).length } : Shared) = s4
 have I4 : Inv (inCx X N' scope cl s3.heap.objs.size fp s3 (upd H2 s2.heap.objs.size (.lst []))) [] (inSt inner σ) (upd H2 s2.heap.objs.size (.lst [])) s4 :=
  zIL CS I3 f3 c1 c2 c3 (fun b hb => by rw [sz3]; exact Nat.lt_succ_of_lt (ffl b hb)) rfl k34 hns hs4.symm
 have t4 : tn 0 s4.heap := by rw [<- hs4]; exact T.keep _ _ _ t3 fun b _ o e => k34 b o e
 have CL : s3.heap.objs.size ≠ X.env.locals := Nat.ne_of_gt I3.lt
 have CC : ∀ x c, X.env.cells.lookup x = some c -> c ≠ s3.heap.objs.size := fun x c e => by
  obtain ⟨v, o, z, _⟩ := I3.cell x c e
  exact Nat.ne_of_lt (Heap.lt_size z)
 show codeAny (model X.prog X.w) X.A (.compStart (.ListComp elt [⟨tg, iter, ifs, 0⟩] scope pos) 0 (.ref it) (.ref s2.heap.objs.size) (compEnvC scope cl s3.heap.objs.size X.env)) (RR (.ref s2.heap.objs.size) s3.heap.objs.size) s4
 have loop : codeAny (model X.prog X.w) X.A (.compLoop (.ListComp elt [⟨tg, iter, ifs, 0⟩] scope pos) 0 (.ref it) (.ref s2.heap.objs.size) (compEnvC scope cl s3.heap.objs.size X.env)) (RR (.ref s2.heap.objs.size) s3.heap.objs.size) s4 := by
  refine codeAny_loop rfl (fun m s' => ∃ i σ' H', Inv (inCx X N' scope cl s3.heap.objs.size fp s3 (upd H2 s2.heap.objs.size (.lst []))) [] σ' H' s' /\ tn i s'.heap /\ (∀ b ∈ fp, H' b = none) /\ W i m σ' H') (fun m s' hI => ?_) m0 ⟨0, _, _, I4, t4, fun b hb => (f3 b hb).1, w0⟩
  obtain ⟨i, σ', H', I', t', fr', w'⟩ := hI
  have fx : ∀ {H'' : Hp}, (∀ b ∈ fp, H'' b = none) -> ∀ b ∈ fp, FpOk (inCx X N' scope cl s3.heap.objs.size fp s3 (upd H2 s2.heap.objs.size (.lst []))) [] H'' b := fun {H''} z b hb =>
   ⟨z b hb, (I4.ok.exf b hb).1, I4.ok.exfs b hb, .inl hb, fun x c e => (I4.ok.exf b hb).2 x c e, fun p hp => absurd (show p ∈ ([] : List (Addr × Obj)) from hp) (by simp)⟩
  show wpAny _ X.A ((compTurn (.ListComp elt [⟨tg, iter, ifs, 0⟩] scope pos) 0 (.ref it) (.ref s2.heap.objs.size) (compEnvC scope cl s3.heap.objs.size X.env)).onRaise (fun x => do noteFrame x (compEnvC scope cl s3.heap.objs.size X.env); theTreesLotGoes x)) _ _ s'
  refine wpAny_noted ?_
  rw [compTurn_list]
  refine wpAny_bind (wpAny_standAt (wpAny_bind ?_))
  rcases step i m σ' H' w' with ⟨stop, qn⟩ | ⟨go, nxt⟩
  ·refine wpAny_mono (T.done (inCx X N' scope cl s3.heap.objs.size fp s3 (upd H2 s2.heap.objs.size (.lst []))) rfl rfl rfl hc i [] s' σ' H' (fun _ _ => False) I' (fx fr') t' stop) (fun r s5 hr => ?_) fun _ _ z => z.elim
   obtain ⟨hr, I5⟩ := hr
   subst hr
   obtain ⟨m5, hm5, _⟩ := id I5.loc
   exact wpAny_pure (fin _ _ H' s5 m5 hm5 qn (fun h' sb => zEo I3 f3 rfl I5 sb) ⟨I5.free, CL, I3.sz, CC, fun p hp => Nat.ne_of_lt (Heap.lt_size (I3.pin p hp).1)⟩)
  ·refine wpAny_mono (T.item (inCx X N' scope cl s3.heap.objs.size fp s3 (upd H2 s2.heap.objs.size (.lst []))) rfl rfl rfl hc i [] s' σ' H' (fun _ _ => False) I' (fx fr') t' go) (fun r s5 hr => ?_) fun _ _ z => z.elim
   obtain ⟨u, hr, h5⟩ := hr
   subst hr
   refine wpAny_bind (wpAny_mono h5 (fun _ s6 h6 => ?_) fun _ _ z => z.elim)
   obtain ⟨x, H6, I6, r6, y6, t6, fr6⟩ := h6
   have I6' := I6.pinned (fx fr6) (T.obj _ _ t6)
   have back : ∀ {m' : Nat} {σ7 : L2.St} {H7 : Hp} {s7 : Shared}, Inv (inCx X N' scope cl s3.heap.objs.size fp s3 (upd H2 s2.heap.objs.size (.lst []))) ([] ++ zB6 fp s6.heap) σ7 H7 s7 -> m' < m -> W (i + 1) m' σ7 H7 ->
     ∃ m', m' < m /\ ∃ i σ' H', Inv (inCx X N' scope cl s3.heap.objs.size fp s3 (upd H2 s2.heap.objs.size (.lst []))) [] σ' H' s7 /\ tn i s7.heap /\ (∀ b ∈ fp, H' b = none) /\ W i m' σ' H' := fun {m' σ7 H7 s7} I7 lt w7 => by
    refine ⟨m', lt, i + 1, σ7, H7, I7.unpinned, T.keep _ _ _ t6 fun b hb o e => (I7.pin (b, o) (List.mem_append_right _ (List.mem_append_right _ (zB8 hb e)))).1, fun b hb => ?_, w7⟩
    obtain ⟨o, e, _⟩ := T.obj _ _ t6 b hb
    exact (I7.pin (b, o) (List.mem_append_right _ (List.mem_append_right _ (zB8 hb e)))).2.1
   refine wpAny_bind (wpAny_mono (hg _ _ _ _ _ _ s6 σ' H6 x u _ I6' r6 (nxt x H6 y6)) (fun _ s7 h7 => ?_) fun _ _ z => z.elim)
   obtain ⟨σ7, H7, I7, q7⟩ := h7
   refine wpAny_bind (wpAny_mono (ht _ _ _ _ _ _ s7 σ7 H7 _ I7 q7) (fun ok s8 h8 => ?_) fun _ _ z => z.elim)
   obtain ⟨H8, I8, q8⟩ := h8
   cases ok with
   | false =>
    simp only [Bool.false_eq_true, if_false] at q8 ⊢
    obtain ⟨m', lt, w8⟩ := q8
    exact wpAny_pure ⟨rfl, back I8 lt w8⟩
   | true =>
    simp only [if_true] at q8 ⊢
    refine wpAny_bind (wpAny_bind (wpAny_mono (he _ _ _ _ _ _ s8 σ7 H8 _ I8 q8) (fun y s9 h9 => ?_) fun _ _ z => z.elim))
    obtain ⟨yv, H9, I9, r9, ys, d9, l9, m', lt, w9⟩ := h9
    refine wpAny_bind (wpAny_mono (zFp (X := inCx X N' scope cl s3.heap.objs.size fp s3 (upd H2 s2.heap.objs.size (.lst []))) _ s9 σ7 H9 (.ref s2.heap.objs.size) [yv] _ [y] (fun v H' => H' = upd H9 s2.heap.objs.size (.lst (ys ++ [yv]))) I9 rfl (.cons r9 .nil) ⟨_, ys, yv, rfl, rfl, d9, l9, rfl⟩) (fun _ s10 h10 => ?_) fun _ _ z => z.elim)
    obtain ⟨_, H10, I10, _, e10⟩ := h10
    subst e10
    exact wpAny_pure (wpAny_pure ⟨rfl, back I10 lt w9⟩)
 exact codeAny_compStart_list loop (T.self X.A 0 s4 _ _ t4 loop)
theorem zLS (hc : X.calm = true) (CS : zBB X N' scope inner) (hi : PI X tg iter wi) (hg : ∀ cl C fp s H, PG (inCx X N' scope cl C fp s H) tg g) (ht : ∀ cl C fp s H, PTs (inCx X N' scope cl C fp s H) ifs ti) (he : ∀ cl C fp s H, PE (inCx X N' scope cl C fp s H) elt te)
  (hs : ∀ x, foldedSetIterable iter X.env x = pure x := by intro _; rfl) : PE X (.ListComp elt [⟨tg, iter, ifs, 0⟩] scope pos) (zEJ wi g ti te inner) := by
 intro pins s σ H Q I h
 obtain ⟨cl, hcl, c1, c2, c3⟩ := clos (env := X.env) (scope := scope) fun x hx hk => I.ok.has x.1 (CS.free x hx hk).2
 rw [eval_ListComp]
 refine wpAny_comprehension_free (use := none) rfl hs hcl CS.kind CS.loc (thn (hi pins s σ H _ I h) fun xv s1 h1 => thn h1 fun itv s2 h2 => ?_)
 obtain ⟨it, fp, tn, J, H2, rfl, I2, T, t0, f2, q⟩ := h2
 refine zDu (RR := fun acc C => compPost (model X.prog X.w) X.A X.xe none (EP X pins σ Q) acc C) hc CS hg ht he c1 c2 c3 I2 T t0 f2 q ?_
 intro D C H' s5 m hm hq hI _
 exact ⟨m, hm, fun h' sb => ⟨.ref D, H', hI h' sb, rfl, hq⟩⟩
theorem zL3 {i : Nat} {y : Str} {py spos : Pos} (hN : X.N.Nodup) (hc : X.calm = true) (CS : zBB X N' scope inner) (hi : PI X tg iter wi) (hg : ∀ cl C fp s H, PG (inCx X N' scope cl C fp s H) tg g) (ht : ∀ cl C fp s H, PTs (inCx X N' scope cl C fp s H) ifs ti) (he : ∀ cl C fp s H, PE (inCx X N' scope cl C fp s H) elt te)
  (hsw : swapsWith (.ListComp elt [⟨tg, iter, ifs, 0⟩] scope pos) (some (.Name y py)) spos.line X.env = pure true := by rfl) (hy : X.N[i]? = some y := by rfl) (hx : Loc X.env.scope y := by first | exact Or.inl rfl | exact Or.inr rfl) (hf : X.fn y = true ∨ X.env.scope.names.lookup y = some .local := by first | exact .inl rfl | exact .inr rfl | assumption)
  (hs : ∀ x, foldedSetIterable iter X.env x = pure x := by intro _; rfl) : PS X (.Assign [.Name y py] (.ListComp elt [⟨tg, iter, ifs, 0⟩] scope pos) spos) (tAsg (zEJ wi g ti te inner) (zDJ i)) := by
 intro pins s σ H D I h
 obtain ⟨cl, hcl, c1, c2, c3⟩ := clos (env := X.env) (scope := scope) fun x hx hk => I.ok.has x.1 (CS.free x hx hk).2
 rw [exec_Assign_Name_used _ _ _ _ hsw]
 refine wpAny_bind (wpAny_standAt (wpAny_bind ?_))
 show wpAny _ X.A (do let _ <- comprehension (.ListComp elt [⟨tg, iter, ifs, 0⟩] scope pos) scope X.env _ (newList []) false (eval iter X.env) (some (assign (.Name y py) X.env))) _ _ s
 refine wpAny_bind (wpAny_mono (wpAny_comprehension_free (use := some (assign (.Name y py) X.env)) (Q := fun _ s' => SP X pins D .next s') rfl hs hcl CS.kind CS.loc
  (thn (hi pins s σ H _ I h) fun xv s1 h1 => thn h1 fun itv s2 h2 => ?_)) (fun _ s' hq => wpAny_pure (wpAny_pure hq)) fun _ _ e => e)
 obtain ⟨it, fp, tn, J, H2, rfl, I2, T, t0, f2, q⟩ := h2
 refine zDu (Q := fun v H' => zDJ i v σ H' D.nx) (RR := fun acc C => compPost (model X.prog X.w) X.A X.xe (some (assign (.Name y py) X.env)) (fun _ s' => SP X pins D .next s') acc C) hc CS hg ht he c1 c2 c3 I2 T t0 f2 q ?_
 intro D' C H' s5 m hm hq hI hC
 obtain ⟨z1, z2, z3, z4, z5⟩ := hC
 show wpAny _ X.A (assign (.Name y py) X.env (.ref D')) _ _ _
 have I5 := hI s5.heap (Heap.SameBut.refl ..)
 refine wpAny_assign_Name (zFV (v := .ref D') I5 hN hy hx (show L2.RelV (.ref D') (Value.ref D') from rfl) (fun s6 I6 k6 => ?_) hf)
 obtain ⟨a, sb, ha⟩ := k6
 have na : C ≠ a := by
  rcases ha with ha | ha
  ·rw [ha]; exact z2
  ·exact (z4 y a ha).symm
 refine ⟨m, hm.sameBut sb na, fun h' sb' => ⟨_, H', ?_, hq⟩⟩
 exact I6.turned (t' := s6.toks) (fun b o nb e => by rw [sb'.2 b nb]; exact e) z1 z2 (.inr z3) z4 z5
end
end CL
namespace DL
open PySem PySem.Spec PySem.SeqAt PyProof.Rows L2 CL
noncomputable def zA6 (inner : List (Option Nat)) (ρ : Rho) : Rho := inner.map fun o => match o with
 | some j => match ρ[j]? with
  | some (.dat d) => .dat d
  | _ => .no
 | none => .no
noncomputable def zCJ (s : D -> Rho -> Option Rho) (t : Rho -> Option Bool) (ge : Rho -> Option D) : List D -> Rho -> Option (List D)
 | [], _ => some []
 | d :: ds, ρ => (s d ρ).bind fun ρ1 => (t ρ1).bind fun b => if b = true then (ge ρ1).bind fun y => (zCJ s t ge ds ρ1).bind fun r => some (y :: r) else zCJ s t ge ds ρ1
noncomputable def zAI (gi : Rho -> Option (List D)) (s : D -> Rho -> Option Rho) (t : Rho -> Option Bool) (ge : Rho -> Option D) (inner : List (Option Nat)) : Rho -> Option (List D) :=
 fun ρ => (gi ρ).bind fun xs => (zCJ s t ge xs (zA6 inner ρ)).bind fun out => if out.length <= 1000 then some out else none
noncomputable def eLc (g : Rho -> Option (List D)) : Rho -> Option D := fun ρ => (g ρ).bind fun out => some (.list out)
noncomputable def eT : Rho -> Option Bool := fun _ => some true
noncomputable def isOwn : Sl -> Bool
 | .own _ | .ownD _ => true
 | _ => false
noncomputable def zBv (ρ : Rho) : Prop := ∀ (i : Nat) (s : Sl), isOwn s = true -> ρ[i]? ≠ some s
noncomputable def zBZ (s : D -> Rho -> Option Rho) : Prop := ∀ d ρ ρ', zBv ρ -> s d ρ = some ρ' -> zBv ρ'
noncomputable def zDY (s : List D -> Rho -> Option Rho) : Prop := ∀ ds ρ ρ', zBv ρ -> s ds ρ = some ρ' -> zBv ρ'
theorem zMI {ρ : Rho} {i : Nat} {d : D} (h : zBv ρ) : zBv (ρ.set i (.dat d)) := fun j ds ow e => by
 by_cases c : i = j
 ·subst c
  by_cases l : i < ρ.length
  ·rw [List.getElem?_set_self l] at e; cases e; cases ow
  ·rw [List.getElem?_eq_none (by simpa using Nat.le_of_not_lt l)] at e; cases e
 ·rw [List.getElem?_set_ne c] at e; exact h j ds ow e
theorem zA7 (i : Nat) : zBZ (zAo i) := fun d ρ ρ' h e => by cases e; exact zMI h
theorem zJ2 : zDY uNil := fun ds ρ ρ' h e => by
 cases ds with
 | nil => cases e; exact h
 | cons _ _ => cases e
theorem zF6 {s1 : D -> Rho -> Option Rho} {s2 : List D -> Rho -> Option Rho} (h1 : zBZ s1) (h2 : zDY s2) : zDY (zBX s1 s2) := fun ds ρ ρ' h e => by
 cases ds with
 | nil => cases e
 | cons d ds =>
  obtain ⟨ρ1, e1, e⟩ := bnd e
  exact h2 ds ρ1 ρ' (h1 d ρ ρ1 h e1) e
theorem zMH {n : Nat} {s : List D -> Rho -> Option Rho} (h1 : zDY s) : zBZ (uTup n s) := fun d ρ ρ' h e => by
 cases d with
 | tuple ds =>
  have e' : (if ds.length = n then s ds ρ else none) = some ρ' := e
  by_cases c : ds.length = n
  ·rw [if_pos c] at e'; exact h1 ds ρ ρ' h e'
  ·rw [if_neg c] at e'; cases e'
 | _ => cases e
theorem zC1 (inner : List (Option Nat)) (ρ : Rho) : zBv (zA6 inner ρ) := fun i ds ow e => by
 unfold zA6 at e
 rw [List.getElem?_map] at e
 cases q : inner[i]? with
 | none => rw [q] at e; cases e
 | some o =>
  rw [q] at e
  cases o with
  | none => cases e; cases ow
  | some j =>
   have e' : (match ρ[j]? with | some (.dat d) => Sl.dat d | _ => Sl.no) = ds := Option.some.inj e
   split at e' <;> (subst e'; cases ow)
theorem zH6 {K : PySem.W.Frag} {F : Addr -> Prop} {H : Hp} {p : Addr} {vs us : List V} (hp : H p = some (.lst vs)) (hf : ¬ F p) : Stay K F F H (upd H p (.lst us)) :=
 ⟨fun _ h => h, fun a xs h => by
  rcases h with (h | ⟨o, h⟩) | h
  ·exact .inl (.inl (by rw [zAl (by intro z; subst z; rw [hp] at h; cases h)]; exact h))
  ·exact .inl (.inr ⟨o, by rw [zAl (by intro z; subst z; rw [hp] at h; cases h)]; exact h⟩)
  ·exact .inr h, fun a xs f h => by
  have na : a ≠ p := fun z => hf (by rw [<- z]; exact f)
  rcases h with h | ⟨o, h⟩
  ·exact .inl (by rw [zAl na]; exact h)
  ·exact .inr ⟨o, by rw [zAl na]; exact h⟩, fun a φ f h => by rw [zAl (fun z => hf (by rw [<- z]; exact f))]; exact h⟩
theorem StOk.plain {K : PySem.W.Frag} {F F' : Addr -> Prop} {H H' H₀ H₁ : Hp} {σ : L2.St} {ρ : Rho} (S : StOk K F H H₀ σ ρ) (pl : zBv ρ) (T : Stay K F F' H H') (z : ∀ a, F' a -> H' a ≠ none) : StOk K F' H' H₁ σ ρ :=
 ⟨S.len, fun i s h => by
  obtain ⟨o, q, w⟩ := S.sl i s h
  refine ⟨o, q, ?_⟩
  cases s with
  | no => trivial
  | ownD kvs => exact absurd h (pl i _ rfl)
  | dat d => obtain ⟨v, e, r⟩ := w; exact ⟨v, e, r.stay T⟩
  | own ds => exact absurd h (pl i _ rfl), fun i j a ds es _ h1 => absurd h1 (pl i _ rfl), z⟩
theorem StOk.inner {K : PySem.W.Frag} {F : Addr -> Prop} {H H₀ : Hp} {σ : L2.St} {ρ : Rho} (S : StOk K F H H₀ σ ρ) (inner : List (Option Nat)) : StOk K F H H₀ (inSt inner σ) (zA6 inner ρ) :=
 ⟨by simp [inSt, zA6], fun i s h => by
  unfold zA6 at h
  unfold inSt
  rw [List.getElem?_map] at h ⊢
  cases q : inner[i]? with
  | none => rw [q] at h; cases h
  | some o =>
   rw [q] at h
   cases o with
   | none => cases h; exact ⟨none, rfl, trivial⟩
   | some j =>
    have h' : (match ρ[j]? with | some (.dat d) => Sl.dat d | _ => Sl.no) = s := Option.some.inj h
    split at h'
    ·rename_i d e
     cases h'
     obtain ⟨v, e2, r⟩ := S.dat e
     exact ⟨some v, by simp [e2], v, rfl, r⟩
    ·cases h'
     exact ⟨_, rfl, trivial⟩, fun i j a ds es _ h1 => absurd h1 (zC1 inner ρ i _ rfl), S.fz⟩
noncomputable def DTs (X : Cx) (ifs : List Expr) (t : Rho -> Option Bool) : Prop := PTs X ifs (tDT X.K t)
theorem zBS {X : Cx} : DTs X [] eT := fun pins s σ H Q I zz => by
 obtain ⟨F, H₀, ρ, b, S, q, k⟩ := zz
 cases q
 exact wpAny_tests_nil ⟨H, I, k F H (Ext.refl F H)⟩
theorem zFE {X : Cx} {c : Expr} {t : Rho -> Option Bool} (h : DT X c t) : DTs X [c] t := zJy h
section
variable {X : Cx} {elt tg iter : Expr} {ifs : List Expr} {scope : Scope} {pos : Pos} {N' : List Str} {inner : List (Option Nat)} {gi : Rho -> Option (List D)} {s : D -> Rho -> Option Rho} {t : Rho -> Option Bool} {ge : Rho -> Option D}
theorem zG5 (kp : zBZ s) {σ : L2.St} {H : Hp} {Q : VK} {F : Addr -> Prop} {H₀ : Hp} {ρ : Rho} {out : List D} (S : StOk X.K F H H₀ σ ρ) (q : zAI gi s t ge inner ρ = some out)
  (fin : ∀ F' H' D' vs, Ext F F' H H' -> Stay X.K F F' H H' -> H D' = none -> H' D' = some (.lst vs) -> ¬ F' D' -> Reps X.K F' H' out vs -> StOk X.K F' H' H₀ σ ρ -> Q (.ref D') H') :
  zEJ (tDI X.K gi) (tDG X.K s) (tDT X.K t) (tD X.K ge) inner σ H Q := by
 obtain ⟨xs, e1, q⟩ := bnd q
 obtain ⟨out', e2, q⟩ := bnd q
 by_cases hl : out'.length <= 1000
 ·rw [if_pos hl] at q
  cases q
  refine ⟨F, H₀, ρ, xs, S, e1, fun F1 H1 J E1 I1 D' hD => ?_⟩
  have S1 := S.ext E1
  refine ⟨fun i m σ' H' => ∃ F2 ρ2 vs don rst, m = xs.length - i /\ i <= xs.length /\ Ext F1 F2 H1 H' /\ Stay X.K F1 F2 H1 H' /\ StOk X.K F2 H' H1 σ' ρ2 /\ zBv ρ2 /\ H' D' = some (.lst vs) /\ ¬ F2 D' /\ Reps X.K F2 H' don vs /\ zCJ s t ge (xs.drop i) ρ2 = some rst /\ don ++ rst = out /\
    (∀ b o, b ≠ D' -> H1 b = some o -> H' b = some o), ?_, ?_⟩
  ·have E2 : Ext F1 F1 H1 (upd H1 D' (.lst [])) := Ext.fresh hD
   refine ⟨xs.length, F1, zA6 inner ρ, [], [], out, by simp, Nat.zero_le _, E2, E2.stay, ?_, zC1 inner ρ, zA1, fun f => S1.fz _ f hD, .nil, by simpa using e2, rfl, fun b o nb e => by rw [zAl nb]; exact e⟩
   exact (S1.inner inner).plain (zC1 inner ρ) E2.stay (E2.fz S1.fz)
  ·rintro i m σ' H' ⟨F2, ρ2, vs, don, rst, rfl, hi, E2, T2, S2, pl, dD, nf, rd, ec, eo, kp2⟩
   obtain ⟨it1, it2⟩ := I1 F2 H' T2 S2.fz i
   by_cases hlt : i < xs.length
   ·right
    have hget : xs[i]? = some xs[i] := by simp [hlt]
    obtain ⟨go, yld⟩ := it1 _ hget
    rw [List.drop_eq_getElem_cons hlt] at ec
    obtain ⟨ρ3, e3, ec⟩ := bnd ec
    obtain ⟨b, e4, ec⟩ := bnd ec
    refine ⟨go, fun x H3 y => ?_⟩
    obtain ⟨F3, E3, R3⟩ := yld x H3 y
    have pl3 := kp _ _ _ pl e3
    refine ⟨F3, H1, ρ2, xs[i], ρ3, S2.ext E3, R3, e3, fun σ5 S5 => ⟨F3, H1, ρ3, b, S5, e4, fun F6 H6 E6 => ?_⟩⟩
    have S6 := S5.ext E6
    have E36 := E3.trans E6
    have d6 : H6 D' = some (.lst vs) := E36.same _ _ dD
    have nf6 : ¬ F6 D' := fun f => by
     rcases E36.new _ f with f | ⟨f, _⟩
     ·exact nf f
     ·rw [dD] at f; cases f
    cases b with
    | false =>
     simp only [Bool.false_eq_true, if_false] at ec ⊢
     exact ⟨xs.length - (i + 1), by omega, F6, ρ3, vs, don, rst, rfl, hlt, E2.trans E36, T2.trans E36.stay, S6, pl3, d6, nf6, rd.stay E36.stay, ec, eo, fun b o nb e => E36.same _ _ (kp2 b o nb e)⟩
    | true =>
     simp only [if_true] at ec ⊢
     obtain ⟨yd, e5, ec⟩ := bnd ec
     obtain ⟨r', e6, ec⟩ := bnd ec
     cases ec
     refine ⟨F6, H1, ρ3, yd, S6, e5, fun F7 H7 yv E7 R7 => ?_⟩
     have E37 := E36.trans E7
     have d7 : H7 D' = some (.lst vs) := E37.same _ _ dD
     have nf7 : ¬ F7 D' := fun f => by
      rcases E37.new _ f with f | ⟨f, _⟩
      ·exact nf f
      ·rw [dD] at f; cases f
     have T8 : Stay X.K F7 F7 H7 (upd H7 D' (.lst (vs ++ [yv]))) := zH6 d7 nf7
     have S7 := S6.ext E7
     have E8 : Ext F1 F7 H1 (upd H7 D' (.lst (vs ++ [yv]))) := (E2.trans E37).turn hD
     have ll : vs.length < 1000 := by
      have h1 := rd.length
      have h2 := congrArg List.length eo
      rw [List.length_append, List.length_cons] at h2
      omega
     refine ⟨vs, d7, zEc (Nat.le_of_lt ll), xs.length - (i + 1), by omega, F7, ρ3, vs ++ [yv], don ++ [yd], r', rfl, hlt, E8, (T2.trans E37.stay).trans T8, S7.plain pl3 T8 (E8.fz S1.fz), pl3, zA1, nf7, ?_, e6, by rw [List.append_assoc]; exact eo, fun b o nb e => ?_⟩
     ·exact ((rd.stay E37.stay).append (.cons R7 .nil)).stay T8
     ·rw [zAl nb]; exact E37.same _ _ (kp2 b o nb e)
   ·left
    have hge : xs.length <= i := Nat.le_of_not_lt hlt
    refine ⟨it2 hge, ?_⟩
    rw [List.drop_eq_nil_of_le hge] at ec
    cases ec
    rw [List.append_nil] at eo
    subst eo
    have hH : H D' = none := E1.same.free hD
    have EE : Ext F F2 H H' := E1.trans E2
    exact fin F2 H' D' vs EE (E1.stay.trans T2) hH dD nf rd (S.ext EE)
 ·rw [if_neg hl] at q; cases q
theorem zBx (hc : X.calm = true) (CS : zBB X N' scope inner) (kp : zBZ s) (hi : DI X tg iter gi) (hg : ∀ cl C fp s' H, DG (inCx X N' scope cl C fp s' H) tg s) (ht : ∀ cl C fp s' H, DTs (inCx X N' scope cl C fp s' H) ifs t) (he : ∀ cl C fp s' H, DE (inCx X N' scope cl C fp s' H) elt ge)
  (hs : ∀ x, foldedSetIterable iter X.env x = pure x := by intro _; rfl) : DE X (.ListComp elt [⟨tg, iter, ifs, 0⟩] scope pos) (eLc (zAI gi s t ge inner)) :=
 zAA (zLS (g := tDG X.K s) (ti := tDT X.K t) (te := tD X.K ge) hc CS hi (fun cl C fp s' H => hg cl C fp s' H) (fun cl C fp s' H => ht cl C fp s' H) (fun cl C fp s' H => he cl C fp s' H) hs) fun σ H Q zz => by
  obtain ⟨F, H₀, ρ, d, S, q, k⟩ := zz
  obtain ⟨out, e1, q⟩ := bnd q
  cases q
  refine zG5 kp S e1 fun F' H' D' vs E' T' h1 h2 h3 h4 h5 => ?_
  refine k (fun a => F' a ∨ a = D') H' _ ⟨E'.same, fun a f => .inl (E'.up a f), fun a f => ?_⟩ (.lst (.inl ⟨.inr rfl, .inl h2⟩) (h4.stay ⟨fun _ f => .inl f, fun _ _ f => f, fun _ _ _ f => f, fun _ _ _ f => f⟩))
  rcases f with f | rfl
  ·exact E'.new a f
  ·exact .inr ⟨h1, by rw [h2]; simp⟩
theorem zMV {i : Nat} {y : Str} {py spos : Pos} (hN : X.N.Nodup) (hc : X.calm = true) (CS : zBB X N' scope inner) (kp : zBZ s) (hi : DI X tg iter gi) (hg : ∀ cl C fp s' H, DG (inCx X N' scope cl C fp s' H) tg s) (ht : ∀ cl C fp s' H, DTs (inCx X N' scope cl C fp s' H) ifs t) (he : ∀ cl C fp s' H, DE (inCx X N' scope cl C fp s' H) elt ge)
  (hsw : swapsWith (.ListComp elt [⟨tg, iter, ifs, 0⟩] scope pos) (some (.Name y py)) spos.line X.env = pure true := by rfl) (hy : X.N[i]? = some y := by rfl) (hx : L2.Loc X.env.scope y := by first | exact Or.inl rfl | exact Or.inr rfl) (hf : X.fn y = true ∨ X.env.scope.names.lookup y = some .local := by first | exact .inl rfl | exact .inr rfl | assumption)
  (hs : ∀ x, foldedSetIterable iter X.env x = pure x := by intro _; rfl) : DS X (.Assign [.Name y py] (.ListComp elt [⟨tg, iter, ifs, 0⟩] scope pos) spos) (sSet i (eLc (zAI gi s t ge inner))) :=
 ps_mono (zL3 (g := tDG X.K s) (ti := tDT X.K t) (te := tD X.K ge) hN hc CS hi (fun cl C fp s' H => hg cl C fp s' H) (fun cl C fp s' H => ht cl C fp s' H) (fun cl C fp s' H => he cl C fp s' H) hsw hy hx hf hs) fun W σ H zz => by
  obtain ⟨F₀, H₀, F, ρ, o, E, S, q, k⟩ := zz
  obtain ⟨d, e1, q⟩ := bnd q
  cases q
  obtain ⟨out, e2, q⟩ := bnd e1
  cases q
  refine zG5 kp S e2 fun F' H' D' vs E' T' h1 h2 h3 h4 h5 => ?_
  have T9 : Stay X.K F' (fun a => F' a ∨ a = D') H' H' := ⟨fun _ f => .inl f, fun _ _ f => f, fun _ _ _ f => f, fun _ _ _ f => f⟩
  have E9 : Ext F (fun a => F' a ∨ a = D') H H' := ⟨E'.same, fun a f => .inl (E'.up a f), fun a f => by
   rcases f with f | rfl
   ·exact E'.new a f
   ·exact .inr ⟨h1, by rw [h2]; simp⟩⟩
  exact k _ H' _ (E.trans E9) (T'.trans T9) ((S.ext E9).put (.lst (.inl ⟨.inr rfl, .inl h2⟩) (h4.stay T9)))
end
end DL
namespace SD
open PySem PySem.Spec PySem.SeqAt PyProof.Rows L2 DL SG
theorem zCN : ∀ a : List Int, HT.lexLt a a = false
 | [] => rfl
 | x :: xs => by rw [HT.lexLt_cons, if_pos rfl]; exact zCN xs
theorem zDU : ∀ a b c : List Int, HT.lexLt a b = true -> HT.lexLt b c = true -> HT.lexLt a c = true
 | [], b, [], h1, h2 => by cases b with | nil => cases h1 | cons _ _ => cases h2
 | [], _, _ :: _, _, _ => rfl
 | _ :: _, [], _, h1, _ => by cases h1
 | _ :: _, _ :: _, [], _, h2 => by cases h2
 | x :: xs, y :: ys, z :: zs, h1, h2 => by
  rw [HT.lexLt_cons] at h1 h2 ⊢
  by_cases c1 : x = y
  ·subst c1
   rw [if_pos rfl] at h1
   by_cases c2 : x = z
   ·subst c2
    rw [if_pos rfl] at h2 ⊢
    exact zDU xs ys zs h1 h2
   ·rw [if_neg c2] at h2 ⊢; exact h2
  ·rw [if_neg c1] at h1
   have g1 : x < y := of_decide_eq_true h1
   by_cases c2 : y = z
   ·subst c2
    rw [if_neg c1]; exact decide_eq_true g1
   ·rw [if_neg c2] at h2
    have g2 : y < z := of_decide_eq_true h2
    rw [if_neg (by omega)]
    exact decide_eq_true (by omega)
theorem zDm : ∀ a b : List Int, HT.lexLt a b = false -> HT.lexLt b a = false -> a = b
 | [], [], _, _ => rfl
 | [], _ :: _, h1, _ => by cases h1
 | _ :: _, [], _, h2 => by cases h2
 | x :: xs, y :: ys, h1, h2 => by
  rw [HT.lexLt_cons] at h1 h2
  by_cases c : x = y
  ·subst c
   rw [if_pos rfl] at h1 h2
   rw [zDm xs ys h1 h2]
  ·rw [if_neg c] at h1
   rw [if_neg (Ne.symm c)] at h2
   have g1 : ¬ x < y := of_decide_eq_false h1
   have g2 : ¬ y < x := of_decide_eq_false h2
   omega
theorem zHD (a b c : List Int) (h : HT.lexLt a c = true) : HT.lexLt a b = true ∨ HT.lexLt b c = true := by
 cases e1 : HT.lexLt a b with
 | true => exact .inl rfl
 | false =>
  right
  cases e2 : HT.lexLt b a with
  | false => rw [<- zDm a b e1 e2]; exact h
  | true => exact zDU b a c e2 h
theorem zFm : ∀ (a b c d : List Int), a.length = b.length -> HT.lexLt (a ++ c) (b ++ d) = if a = b then HT.lexLt c d else HT.lexLt a b
 | [], [], c, d, _ => by simp
 | [], _ :: _, _, _, h => by simp at h
 | _ :: _, [], _, _, h => by simp at h
 | x :: xs, y :: ys, c, d, h => by
  rw [List.cons_append, List.cons_append, HT.lexLt_cons]
  have ih := zFm xs ys c d (by simpa using h)
  by_cases e : x = y
  ·subst e
   rw [if_pos rfl, ih, HT.lexLt_cons, if_pos rfl]
   simp
  ·rw [if_neg e, if_neg (by simp [e]), HT.lexLt_cons, if_neg e]
noncomputable def keyT (tab : List (Value × List Int)) : PyProof.Rows.KeyKind where
 α := List Int
 blt := HT.lexLt
 irrefl := zCN
 trans := zDU
 negTrans := zHD
 total := zDm
 keyOf := fun v => tab.lookup v
 dflt := []
noncomputable def zBc : D -> D -> Bool
 | .int _, .int _ => true
 | .tuple xs, .tuple ys => decide (xs.length = ys.length)
 | _, _ => false
noncomputable def zA2 : List D -> List D -> Bool
 | [], [] => true
 | x :: xs, y :: ys => zBc x y && zA2 xs ys
 | _, _ => false
noncomputable def zBY : D -> Option (List Int)
 | .int i => some [i]
 | .tuple ds => zAC ds
 | _ => none
noncomputable def zBe : List D -> Option (List Int)
 | [] => some []
 | d :: ds => (zBY d).bind fun a => (zBe ds).bind fun b => some (a ++ b)
theorem zKN {d x y : D} (h1 : zBc d x = true) (h2 : zBc d y = true) : zBc x y = true := by
 cases d with
 | int i =>
  cases x with
  | int _ => cases y with
   | int _ => rfl
   | _ => cases h2
  | _ => cases h1
 | tuple ds =>
  cases x with
  | tuple xs => cases y with
   | tuple ys =>
    have a : ds.length = xs.length := of_decide_eq_true h1
    have b : ds.length = ys.length := of_decide_eq_true h2
    exact decide_eq_true (a.symm.trans b)
   | _ => cases h2
  | _ => cases h1
 | _ => cases x <;> cases h1
theorem zDB : ∀ {d x y : List D}, zA2 d x = true -> zA2 d y = true -> zA2 x y = true
 | [], [], [], _, _ => rfl
 | [], [], _ :: _, _, h => by cases h
 | [], _ :: _, _, h, _ => by cases h
 | _ :: _, [], _, h, _ => by cases h
 | _ :: _, _ :: _, [], _, h => by cases h
 | d :: ds, x :: xs, y :: ys, h1, h2 => by
  have a := Bool.and_eq_true_iff.mp h1
  have b := Bool.and_eq_true_iff.mp h2
  exact Bool.and_eq_true_iff.mpr ⟨zKN a.1 b.1, zDB a.2 b.2⟩
theorem zIk : ∀ {xs ys : List D} {a b : List Int}, zAC xs = some a -> zAC ys = some b -> PyData.eqvAll xs ys = decide (a = b)
 | [], [], _, _, h1, h2 => by cases h1; cases h2; rfl
 | [], .int _ :: _, _, _, h1, h2 => by
  cases h1
  obtain ⟨_, _, h2⟩ := bnd h2
  cases h2
  simp [PyData.eqvAll]
 | .int _ :: _, [], _, _, h1, h2 => by
  cases h2
  obtain ⟨_, _, h1⟩ := bnd h1
  cases h1
  simp [PyData.eqvAll]
 | .int i :: xs, .int j :: ys, _, _, h1, h2 => by
  obtain ⟨a, e1, h1⟩ := bnd h1
  obtain ⟨b, e2, h2⟩ := bnd h2
  cases h1; cases h2
  rw [PyData.eqvAll, zIk e1 e2]
  simp [PyData.eqv]
  by_cases c : i = j <;> simp [c]
 | .none :: _, _, _, _, h1, _ => by cases h1
 | .bool _ :: _, _, _, _, h1, _ => by cases h1
 | .str _ :: _, _, _, _, h1, _ => by cases h1
 | .list _ :: _, _, _, _, h1, _ => by cases h1
 | .tuple _ :: _, _, _, _, h1, _ => by cases h1
 | .dict _ :: _, _, _, _, h1, _ => by cases h1
 | _, .none :: _, _, _, _, h2 => by cases h2
 | _, .bool _ :: _, _, _, _, h2 => by cases h2
 | _, .str _ :: _, _, _, _, h2 => by cases h2
 | _, .list _ :: _, _, _, _, h2 => by cases h2
 | _, .tuple _ :: _, _, _, _, h2 => by cases h2
 | _, .dict _ :: _, _, _, _, h2 => by cases h2
theorem zBW : ∀ {xs : List D} {a : List Int}, zAC xs = some a -> PyData.canLayAll0 xs = true /\ PyData.depthAll xs = 0 /\ xs.length = a.length /\ xs = a.map PyData.int
 | [], _, h => by cases h; exact ⟨rfl, rfl, rfl, rfl⟩
 | .int i :: xs, _, h => by
  obtain ⟨a, e, h⟩ := bnd h
  cases h
  obtain ⟨h1, h2, h3, h4⟩ := zBW e
  exact ⟨by simp [PyData.canLayAll0, PyData.canLay0, h1], by simp [PyData.depthAll, PyData.depth, h2], by simp [h3], by rw [h4]; rfl⟩
 | .none :: _, _, h => by cases h
 | .bool _ :: _, _, h => by cases h
 | .str _ :: _, _, h => by cases h
 | .list _ :: _, _, h => by cases h
 | .tuple _ :: _, _, h => by cases h
 | .dict _ :: _, _, h => by cases h
theorem zE1 {h : Heap} : ∀ {xs : List D} {a : List Int} {us : List Value} {as : List Addr}, zAC xs = some a -> ReadsAll h us xs as -> IntsAre us a
 | [], _, _, _, e, r => by cases e; cases r; exact .nil
 | .int i :: xs, _, _, _, e, r => by
  obtain ⟨a, e1, e⟩ := bnd e
  cases e
  cases r with
  | cons r1 r2 =>
   cases r1
   exact .cons i _ (zE1 e1 r2)
 | .none :: _, _, _, _, h, _ => by cases h
 | .bool _ :: _, _, _, _, h, _ => by cases h
 | .str _ :: _, _, _, _, h, _ => by cases h
 | .list _ :: _, _, _, _, h, _ => by cases h
 | .tuple _ :: _, _, _, _, h, _ => by cases h
 | .dict _ :: _, _, _, _, h, _ => by cases h
section
variable {prog : Program} {w : World} {A : Around} {E : Value -> Shared -> Prop} {s : Shared}
theorem zHT {x y : D} {a b : List Int} (l : zBc x y = true) (fx : zBY x = some a) (fy : zBY y = some b) : a.length = b.length := by
 cases x with
 | int i => cases y with
  | int j => cases fx; cases fy; rfl
  | _ => cases l
 | tuple xs => cases y with
  | tuple ys =>
   have e : xs.length = ys.length := of_decide_eq_true l
   rw [<- (zBW (show zAC xs = some a from fx)).2.2.1, <- (zBW (show zAC ys = some b from fy)).2.2.1, e]
  | _ => cases l
 | _ => cases y <;> cases l
theorem el_eq {x y : D} {p q : Value} {a b : List Int} {as bs : List Addr} (hu : A.units + 64 < cLine) (rp : Reads s.heap p x as) (rq : Reads s.heap q y bs) (l : zBc x y = true) (fx : zBY x = some a) (fy : zBY y = some b) : EqAt A s p q (decide (a = b)) := by
 cases x with
 | int i => cases y with
  | int j =>
   cases fx; cases fy
   cases rp with
   | int _ t => cases rq with
    | int _ u =>
     have := EqAt.int_int (A := A) (s := s) i t j u
     have e : (i == j) = decide ([i] = [j]) := by
      by_cases c : i = j
      ·subst c; simp
      ·simp [c]
     rw [<- e]; exact this
  | _ => cases l
 | tuple xs => cases y with
  | tuple ys =>
   have e1 : zAC xs = some a := fx
   have e2 : zAC ys = some b := fy
   obtain ⟨c1, d1, _, _⟩ := zBW e1
   obtain ⟨c2, d2, _, _⟩ := zBW e2
   have := eqAt_reads (.tuple xs) (.tuple ys) A s p q as bs rp rq c1 c2 (by show A.units + min (PyData.depthAll xs + 1) (PyData.depthAll ys + 1) < cLine; rw [d1, d2]; omega)
   have e : PyData.eqv (.tuple xs) (.tuple ys) = decide (a = b) := by rw [PyData.eqv]; exact zIk e1 e2
   rw [e] at this
   exact this
  | _ => cases l
 | _ => cases y <;> cases l
theorem zJf {b : Bool} {Q : Bool -> Shared -> Prop} (h : Q b s) : wpAny (model prog w) A (truthOfDropped (.bool b)) Q E s := by
 unfold truthOfDropped
 exact wpAny_truthy_bool h
theorem el_lt {x y : D} {p q : Value} {a b : List Int} {as bs : List Addr} {f : Bool} {Q : Bool -> Shared -> Prop} (hu : A.units + 64 < cLine) (rp : Reads s.heap p x as) (rq : Reads s.heap q y bs) (l : zBc x y = true) (fx : zBY x = some a) (fy : zBY y = some b)
  (hf : f = true -> ∃ i, x = .int i) (k : Q (HT.lexLt a b) s) (ne : a ≠ b) : wpAny (model prog w) A (oneLt' f p q) Q E s := by
 cases x with
 | int i => cases y with
  | int j =>
   cases fx; cases fy; cases rp; cases rq
   have e : HT.lexLt [i] [j] = decide (i < j) := by
    rw [HT.lexLt_cons, if_neg (by intro z; exact ne (by rw [z]))]
   rw [e] at k
   cases f with
   | true => exact oneLt_int k
   | false =>
    rw [oneLt'_eq]
    simp only [Bool.false_eq_true, if_false]
    refine wpAny_bind (HT.rcLt_int A s i _ j _ prog w E _ (zJf k))
  | _ => cases l
 | tuple xs =>
  cases f with
  | true => obtain ⟨i, hi⟩ := hf rfl; cases hi
  | false => cases y with
   | tuple ys =>
    have e1 : zAC xs = some a := fx
    have e2 : zAC ys = some b := fy
    cases rp with
    | tuple h1 h2 h3 h4 => cases rq with
     | tuple g1 g2 g3 g4 =>
      rw [oneLt'_eq]
      simp only [Bool.false_eq_true, if_false]
      exact wpAny_bind (HT.lt_tupInts ⟨_, h1, h2, _, h3⟩ ⟨_, g1, g2, _, g3⟩ (zE1 e1 h4) (zE1 e2 g4) (by omega) (zJf k))
   | _ => cases l
 | _ => cases y <;> cases l
theorem zG3 {b : Bool} {fin : Bool} {Q : Bool -> Shared -> Prop} (hu : A.units + 64 < cLine) : ∀ {xs ys : List D} {a c : List Int} {us vs : List Value} {as bs : List Addr} (i : Nat), zA2 xs ys = true -> zBe xs = some a -> zBe ys = some c -> ReadsAll s.heap us xs as -> ReadsAll s.heap vs ys bs ->
  (b = true -> i = 0 -> ∀ x r, xs = x :: r -> ∃ n, x = .int n) -> (a = c -> Q fin s) -> (a ≠ c -> Q (HT.lexLt a c) s) -> PySem.W.KatLex prog w A b fin Q (us.zip vs) i s
 | [], [], _, _, _, _, _, _, i, _, f1, f2, r1, r2, _, k1, k2 => by
  cases f1; cases f2; cases r1; cases r2
  exact PySem.W.kat_nil (k1 rfl)
 | [], _ :: _, _, _, _, _, _, _, _, l, _, _, _, _, _, _, _ => by cases l
 | _ :: _, [], _, _, _, _, _, _, _, l, _, _, _, _, _, _, _ => by cases l
 | x :: xs, y :: ys, _, _, _, _, _, _, i, l, f1, f2, r1, r2, hb, k1, k2 => by
  obtain ⟨a1, e1, f1⟩ := bnd f1
  obtain ⟨a2, e2, f1⟩ := bnd f1
  cases f1
  obtain ⟨c1, e3, f2⟩ := bnd f2
  obtain ⟨c2, e4, f2⟩ := bnd f2
  cases f2
  obtain ⟨l1, l2⟩ := Bool.and_eq_true_iff.mp l
  have hlen := zHT l1 e1 e3
  cases r1 with
  | cons p1 p2 => cases r2 with
   | cons q1 q2 =>
    rw [List.zip_cons_cons]
    refine PySem.W.kat_cons (el_eq hu p1 q1 l1 e1 e3 prog w _ _ ?_)
    by_cases c : a1 = c1
    ·rw [decide_eq_true c]
     subst c
     refine PySem.W.kat_yes (zG3 hu (i + 1) l2 e2 e4 p2 q2 (fun _ h => by omega) (fun e => k1 (by rw [e])) fun e => ?_)
     have := k2 (fun z => e (List.append_cancel_left z))
     rw [zFm _ _ _ _ rfl, if_pos rfl] at this
     exact this
    ·rw [decide_eq_false c]
     refine PySem.W.kat_no (el_lt hu p1 q1 l1 e1 e3 (fun hf => ?_) ?_ c)
     ·obtain ⟨g1, g2⟩ := Bool.and_eq_true_iff.mp hf
      exact hb g1 (by simpa using g2) x xs rfl
     ·have ne : a1 ++ a2 ≠ c1 ++ c2 := fun z => c (List.append_inj_left z hlen)
      have := k2 ne
      rw [zFm _ _ _ _ hlen, if_neg c] at this
      exact this
theorem zEq {α : Type} {f : Value -> Sem α} {g : Value -> α} : ∀ {vs : List Value} {Q : List α -> Shared -> Prop}, (∀ v ∈ vs, ∀ (R : α -> Shared -> Prop), R (g v) s -> wpAny (model prog w) A (f v) R E s) -> Q (vs.map g) s -> wpAny (model prog w) A (vs.mapM f) Q E s
 | [], _, _, k => by rw [List.mapM_nil]; exact wpAny_pure k
 | v :: vs, Q, h, k => by
  rw [List.mapM_cons]
  refine wpAny_bind (h v List.mem_cons_self _ (wpAny_bind (zEq (fun u hu => h u (List.mem_cons_of_mem _ hu)) (wpAny_pure k))))
noncomputable def isInt : D -> Bool
 | .int _ => true
 | _ => false
noncomputable def zBi (h : Heap) : Value -> Option Value
 | .ref a => match h.get? a with
  | some o => match o.data with
   | .seq xs _ => xs[0]?
   | _ => none
  | none => none
 | _ => none
noncomputable def tyE : Value -> Value
 | .ref _ => .type "tuple"
 | _ => .type "int"
theorem zOr (v : Value) : firstOfTuple' v = (typeOf v >>= fun t => if (t != .type "tuple") = true then pure none else Builtin.List.listItems v >>= fun xs => pure xs[0]?) := by
 unfold firstOfTuple'
 rfl
theorem zKj {vs : List Value} {bi : Bool} {d : D} (hd : isInt d = bi) (hR : ∀ v ∈ vs, ∃ x xs as, Reads s.heap v (.tuple (x :: xs)) as /\ zBc d x = true) (hne : vs ≠ []) :
  wpAny (model prog w) A (keyKind' vs.toArray) (fun q s' => q = tuples' bi /\ s' = s) E s := by
 rw [keyKind'_eq, List.mapM_toArray, map_eq_pure_bind]
 refine wpAny_bind (wpAny_bind (zEq (g := fun v => zBi s.heap v) (fun v hv R hR' => ?_) (wpAny_pure ?_)))
 ·obtain ⟨x, xs, as, r, _⟩ := hR v hv
  cases r with
  | @tuple a o us n _ _ h1 h2 h3 h4 =>
   rw [zOr]
   refine wpAny_bind (wpAny_typeOf (T := "tuple") ⟨o, h1, h2⟩ ?_)
   have e : (Value.type "tuple" != Value.type "tuple") = false := by simp
   rw [if_neg (by rw [e]; simp)]
   refine wpAny_bind (listItems_at h1 h3 (wpAny_pure ?_))
   have e2 : zBi s.heap (.ref a) = us[0]? := by
    show (match s.heap.get? a with | some o => (match o.data with | .seq xs _ => xs[0]? | _ => none) | none => none) = us[0]?
    rw [h1]
    show (match o.data with | .seq xs _ => xs[0]? | _ => none) = us[0]?
    rw [h3]
   rw [e2] at hR'
   exact hR'
 ·have fst : ∀ v ∈ vs, ∃ u x as, zBi s.heap v = some u /\ Reads s.heap u x as /\ zBc d x = true := fun v hv => by
   obtain ⟨x, xs, as, r, l⟩ := hR v hv
   cases r with
   | @tuple a o us n _ _ h1 h2 h3 h4 =>
    have e2 : zBi s.heap (.ref a) = us[0]? := by
     show (match s.heap.get? a with | some o => (match o.data with | .seq xs _ => xs[0]? | _ => none) | none => none) = us[0]?
     rw [h1]
     show (match o.data with | .seq xs _ => xs[0]? | _ => none) = us[0]?
     rw [h3]
    generalize hl : us.toList = ul at h4
    cases h4 with
    | @cons u vs' _ _ as' bs' r1 r2 =>
     refine ⟨u, x, as', ?_, r1, l⟩
     rw [e2, <- Array.getElem?_toList, hl]
     rfl
  have ty : ∀ u x as, Reads s.heap u x as -> zBc d x = true -> tyE u = (if bi = true then .type "int" else .type "tuple") /\ ∀ (R : Value -> Shared -> Prop), R (tyE u) s -> wpAny (model prog w) A (typeOf u) R E s := fun u x as r l => by
   cases d with
   | int i =>
    cases x with
    | int j => cases r; cases hd; exact ⟨rfl, fun R k => wpAny_typeOf (T := "int") (typeIs_int s _ _) k⟩
    | _ => cases l
   | tuple ds =>
    cases x with
    | tuple xs =>
     cases r with
     | tuple h1 h2 h3 h4 => cases hd; exact ⟨rfl, fun R k => wpAny_typeOf (T := "tuple") ⟨_, h1, h2⟩ k⟩
    | _ => cases l
   | _ => cases x <;> cases l
  have all : ((vs.map fun v => zBi s.heap v).toArray.all fun x => x.isSome) = true := by
   rw [List.all_toArray, List.all_map, List.all_eq_true]
   intro v hv
   obtain ⟨u, x, as, e, _⟩ := fst v hv
   simp [e]
  rw [if_pos all]
  refine wpAny_bind (wpAny_rule (wpAny_bind ?_))
  rw [oneTypeOnly'_eq]
  have ef : ((vs.map fun v => zBi s.heap v).toArray.filterMap id) = (vs.filterMap fun v => zBi s.heap v).toArray := by
   rw [List.filterMap_toArray, List.filterMap_map]
   rfl
  rw [ef, List.mapM_toArray, map_eq_pure_bind]
  have mem : ∀ u ∈ vs.filterMap (fun v => zBi s.heap v), ∃ x as, Reads s.heap u x as /\ zBc d x = true := fun u hu => by
   obtain ⟨v, hv, e⟩ := List.mem_filterMap.mp hu
   obtain ⟨u', x, as, e', r, l⟩ := fst v hv
   rw [e] at e'; cases e'
   exact ⟨x, as, r, l⟩
  refine wpAny_bind (wpAny_bind (zEq (g := tyE) (fun u hu R k => ?_) (wpAny_pure ?_)))
  ·obtain ⟨x, as, r, l⟩ := mem u hu
   exact (ty u x as r l).2 R k
  ·obtain ⟨v0, vs', rfl⟩ : ∃ v0 vs', vs = v0 :: vs' := by
    cases vs with
    | nil => exact absurd rfl hne
    | cons a b => exact ⟨a, b, rfl⟩
   obtain ⟨u0, x0, as0, e0, r0, l0⟩ := fst v0 List.mem_cons_self
   have em : ∀ t ∈ ((v0 :: vs').filterMap (fun v => zBi s.heap v)).map tyE, t = (if bi = true then .type "int" else .type "tuple") := fun t ht => by
    obtain ⟨u, hu, rfl⟩ := List.mem_map.mp ht
    obtain ⟨x, as, r, l⟩ := mem u hu
    exact (ty u x as r l).1
   have e1 : (((v0 :: vs').filterMap (fun v => zBi s.heap v)).map tyE).toArray[0]? = some (if bi = true then .type "int" else .type "tuple") := by
    rw [List.filterMap_cons, e0]
    simp only [List.map_cons]
    rw [(ty u0 x0 as0 r0 l0).1]
    rfl
   rw [e1]
   have e2 : ((((v0 :: vs').filterMap (fun v => zBi s.heap v)).map tyE).toArray.all fun x => x == (if bi = true then .type "int" else .type "tuple")) = true := by
    rw [List.all_toArray, List.all_eq_true]
    intro t ht
    rw [em t ht]
    simp
   dsimp only
   rw [if_pos e2]
   refine wpAny_pure (wpAny_pure ⟨?_, rfl⟩)
   cases bi <;> rfl
end
end SD
namespace SD
open PySem PySem.Spec PySem.SeqAt PyProof.Rows L2 DL SG
abbrev KD := List Int × D
noncomputable def rowK (d0 : List D) : D -> Option (List Int)
 | .tuple (x :: xs) => if zA2 d0 (x :: xs) = true then zBe (x :: xs) else none
 | _ => none
noncomputable def zAT (d0 : List D) : List D -> Option (List KD)
 | [] => some []
 | d :: ds => (rowK d0 d).bind fun k => (zAT d0 ds).bind fun r => some ((k, d) :: r)
noncomputable def insK (p : KD) : List KD -> List KD
 | [] => [p]
 | q :: r => if HT.lexLt q.1 p.1 = true then q :: insK p r else p :: q :: r
noncomputable def zAQ : List KD -> List KD
 | [] => []
 | p :: r => insK p (zAQ r)
noncomputable def zCf : List D -> Option D
 | [.list []] => some (.list [])
 | [.list (.tuple d0 :: ds)] => if ds.length < 63 then (zAT d0 (.tuple d0 :: ds)).bind fun l => some (.list ((zAQ l).map (·.2))) else none
 | _ => none
noncomputable def Le (p q : KD) : Prop := HT.lexLt q.1 p.1 = false
theorem Le.trans {p q r : KD} (a : Le p q) (b : Le q r) : Le p r := by
 unfold Le at *
 cases e : HT.lexLt r.1 p.1 with
 | false => rfl
 | true =>
  rcases zHD _ q.1 _ e with h | h
  ·rw [b] at h; cases h
  ·rw [a] at h; cases h
theorem zFy (p : KD) : ∀ l : List KD, (insK p l).Perm (p :: l)
 | [] => .refl _
 | q :: r => by
  unfold insK
  split
  ·exact ((zFy p r).cons q).trans (.swap p q r)
  ·exact .refl _
theorem zCR : ∀ l : List KD, (zAQ l).Perm l
 | [] => .refl _
 | p :: r => (zFy p (zAQ r)).trans ((zCR r).cons p)
theorem zIq (p : KD) : ∀ l : List KD, l.Pairwise Le -> (insK p l).Pairwise Le
 | [], _ => by simp [insK]
 | q :: r, h => by
  obtain ⟨h1, h2⟩ := List.pairwise_cons.mp h
  unfold insK
  split
  ·rename_i c
   refine List.pairwise_cons.mpr ⟨fun z hz => ?_, zIq p r h2⟩
   rcases List.mem_cons.mp ((zFy p r).mem_iff.mp hz) with e | e
   ·subst e
    unfold Le
    cases e2 : HT.lexLt z.1 q.1 with
    | false => rfl
    | true => have := zDU _ _ _ c e2; rw [zCN] at this; cases this
   ·exact h1 z e
  ·rename_i c
   have pq : Le p q := by simpa [Le] using c
   refine List.pairwise_cons.mpr ⟨fun z hz => ?_, h⟩
   rcases List.mem_cons.mp hz with e | e
   ·rw [e]; exact pq
   ·exact pq.trans (h1 z e)
theorem zCX : ∀ l : List KD, (zAQ l).Pairwise Le
 | [] => .nil
 | p :: r => zIq p _ (zCX r)
theorem zEQ : ∀ {a b : List KD}, a.Perm b -> a.Pairwise Le -> b.Pairwise Le -> (∀ p ∈ a, ∀ q ∈ a, p.1 = q.1 -> p = q) -> a = b
 | [], b, h, _, _, _ => h.nil_eq
 | x :: r, [], h, _, _, _ => absurd h.length_eq (by simp)
 | x :: r, y :: t, h, ha, hb, inj => by
  have hy : y ∈ x :: r := h.mem_iff.mpr List.mem_cons_self
  have hx : x ∈ y :: t := h.mem_iff.mp List.mem_cons_self
  have e : x = y := by
   refine inj x List.mem_cons_self y hy (zDm _ _ ?_ ?_)
   ·rcases List.mem_cons.mp hx with c | c
    ·rw [c]; exact zCN _
    ·exact (List.pairwise_cons.mp hb).1 x c
   ·rcases List.mem_cons.mp hy with c | c
    ·rw [c]; exact zCN _
    ·exact (List.pairwise_cons.mp ha).1 y c
  subst e
  rw [zEQ h.cons_inv (List.pairwise_cons.mp ha).2 (List.pairwise_cons.mp hb).2 fun p hp q hq => inj p (List.mem_cons_of_mem _ hp) q (List.mem_cons_of_mem _ hq)]
theorem zLn {α β : Type} {f : α -> β} {a b : List β} (h : a.Perm b) : ∀ l : List α, l.map f = a -> ∃ l' : List α, l'.Perm l /\ l'.map f = b := by
 induction h with
 | nil => intro l e; exact ⟨l, .refl _, e⟩
 | cons x _ ih =>
  intro l e
  cases l with
  | nil => cases e
  | cons y l =>
   rw [List.map_cons] at e
   injection e with e1 e2
   obtain ⟨l', p, q⟩ := ih l e2
   exact ⟨y :: l', p.cons y, by rw [List.map_cons, e1, q]⟩
 | swap x y r =>
  intro l e
  match l, e with
  | a :: b :: l, e =>
   rw [List.map_cons, List.map_cons] at e
   injection e with e1 e2
   injection e2 with e2 e3
   exact ⟨b :: a :: l, .swap a b l, by rw [List.map_cons, List.map_cons, e1, e2, e3]⟩
 | trans _ _ ih1 ih2 =>
  intro l e
  obtain ⟨l1, p1, q1⟩ := ih1 l e
  obtain ⟨l2, p2, q2⟩ := ih2 l1 q1
  exact ⟨l2, p2.trans p1, q2⟩
theorem zIZ : ∀ {xs ys : List D} {a : List Int}, zA2 xs ys = true -> zBe xs = some a -> zBe ys = some a -> xs = ys
 | [], [], _, _, _, _ => rfl
 | [], _ :: _, _, l, _, _ => by cases l
 | _ :: _, [], _, l, _, _ => by cases l
 | x :: xs, y :: ys, a, l, f1, f2 => by
  obtain ⟨a1, e1, f1⟩ := bnd f1
  obtain ⟨a2, e2, f1⟩ := bnd f1
  obtain ⟨c1, e3, f2⟩ := bnd f2
  obtain ⟨c2, e4, f2⟩ := bnd f2
  obtain ⟨l1, l2⟩ := Bool.and_eq_true_iff.mp l
  have hl := zHT l1 e1 e3
  have ee : a1 ++ a2 = c1 ++ c2 := (Option.some.inj f1).trans (Option.some.inj f2).symm
  obtain ⟨g1, g2⟩ := List.append_inj ee hl
  subst g1 g2
  rw [zIZ l2 e2 e4]
  congr 1
  cases x with
  | int i => cases y with
   | int j => cases e1; cases e3; rfl
   | _ => cases l1
  | tuple us => cases y with
   | tuple vs => rw [(zBW (show zAC us = some a1 from e1)).2.2.2, (zBW (show zAC vs = some a1 from e3)).2.2.2]
   | _ => cases l1
  | _ => cases y <;> cases l1
theorem zFQ : ∀ {xs : List D} {a : List Int}, zBe xs = some a -> PyData.canLayAll0 xs = true
 | [], _, _ => rfl
 | x :: xs, a, f => by
  obtain ⟨a1, e1, f⟩ := bnd f
  obtain ⟨a2, e2, f⟩ := bnd f
  have h2 := zFQ e2
  have h1 : PyData.canLay0 x = true := by
   cases x with
   | int i => rfl
   | tuple us => exact (zBW (show zAC us = some a1 from e1)).1
   | _ => cases e1
  simp [PyData.canLayAll0, h1, h2]
theorem zCo {d0 : List D} {d : D} {k : List Int} (h : rowK d0 d = some k) : ∃ x xs, d = .tuple (x :: xs) /\ zA2 d0 (x :: xs) = true /\ zBe (x :: xs) = some k := by
 cases d with
 | tuple ds =>
  cases ds with
  | nil => cases h
  | cons x xs =>
   have h' : (if zA2 d0 (x :: xs) = true then zBe (x :: xs) else none) = some k := h
   by_cases c : zA2 d0 (x :: xs) = true
   ·rw [if_pos c] at h'; exact ⟨x, xs, rfl, c, h'⟩
   ·rw [if_neg c] at h'; cases h'
 | _ => cases h
theorem zC4 {d0 : List D} {d e : D} {k : List Int} (h1 : rowK d0 d = some k) (h2 : rowK d0 e = some k) : d = e := by
 obtain ⟨x, xs, rfl, l1, f1⟩ := zCo h1
 obtain ⟨y, ys, rfl, l2, f2⟩ := zCo h2
 rw [zIZ (zDB l1 l2) f1 f2]
theorem zFs {d0 : List D} : ∀ {ds : List D} {l : List KD}, zAT d0 ds = some l -> l.map (·.2) = ds /\ ∀ p ∈ l, rowK d0 p.2 = some p.1
 | [], _, h => by cases h; exact ⟨rfl, fun p hp => nomatch hp⟩
 | d :: ds, _, h => by
  obtain ⟨k, e1, h⟩ := bnd h
  obtain ⟨r, e2, h⟩ := bnd h
  cases h
  obtain ⟨h1, h2⟩ := zFs e2
  refine ⟨by rw [List.map_cons, h1], fun p hp => ?_⟩
  rcases List.mem_cons.mp hp with e | e
  ·rw [e]; exact e1
  ·exact h2 p e
abbrev Tr := KD × V × Value
section
variable {X : Cx} {pins : List (Addr × Obj)} {σ : L2.St} {H : Hp} {s : Shared} {F : Addr -> Prop}
theorem zI2 {K : PySem.W.Frag} : ∀ {l : List KD} {vs : List V} {us : List Value}, Reps K F H (l.map (·.2)) vs -> L2.Vals vs us -> ∃ T : List Tr, T.map (·.1) = l /\ T.map (·.2.1) = vs /\ T.map (·.2.2) = us /\ ∀ t ∈ T, Rep K F H t.1.2 t.2.1 /\ L2.RelV t.2.1 t.2.2
 | [], _, _, r, v => by cases r; cases v; exact ⟨[], rfl, rfl, rfl, fun t ht => nomatch ht⟩
 | p :: l, _, _, r, v => by
  cases r with
  | cons r1 r2 => cases v with
   | cons v1 v2 =>
    obtain ⟨T, h1, h2, h3, h4⟩ := zI2 (l := l) r2 v2
    refine ⟨(p, _, _) :: T, by rw [List.map_cons, h1], by rw [List.map_cons, h2], by rw [List.map_cons, h3], fun t ht => ?_⟩
    rcases List.mem_cons.mp ht with e | e
    ·rw [e]; exact ⟨r1, v1⟩
    ·exact h4 t e
theorem zHq {K : PySem.W.Frag} : ∀ {T : List Tr}, (∀ t ∈ T, Rep K F H t.1.2 t.2.1 /\ L2.RelV t.2.1 t.2.2) -> Reps K F H (T.map (·.1.2)) (T.map (·.2.1)) /\ L2.Vals (T.map (·.2.1)) (T.map (·.2.2))
 | [], _ => ⟨.nil, .nil⟩
 | t :: T, h => by
  obtain ⟨h1, h2⟩ := h t List.mem_cons_self
  obtain ⟨g1, g2⟩ := zHq fun u hu => h u (List.mem_cons_of_mem _ hu)
  exact ⟨.cons h1 g1, .cons h2 g2⟩
theorem zDW : ∀ {T : List Tr} {v : Value} {k : List Int}, (T.map fun t => (t.2.2, t.1.1)).lookup v = some k -> ∃ t ∈ T, t.2.2 = v /\ t.1.1 = k
 | [], _, _, h => by cases h
 | t :: T, v, k, h => by
  rw [List.map_cons, List.lookup_cons] at h
  cases e : v == t.2.2 with
  | true => rw [e] at h; cases h; exact ⟨t, List.mem_cons_self, (eq_of_beq e).symm, rfl⟩
  | false =>
   rw [e] at h
   obtain ⟨u, hu, h1, h2⟩ := zDW h
   exact ⟨u, List.mem_cons_of_mem _ hu, h1, h2⟩
theorem zG6 : ∀ {T : List Tr} {t : Tr}, t ∈ T -> ∃ k, (T.map fun t => (t.2.2, t.1.1)).lookup t.2.2 = some k := by
 intro T
 induction T with
 | nil => intro t h; cases h
 | cons u T ih =>
  intro t h
  rw [List.map_cons, List.lookup_cons]
  cases e : t.2.2 == u.2.2 with
  | true => exact ⟨_, rfl⟩
  | false =>
   rcases List.mem_cons.mp h with z | z
   ·rw [z, beq_self_eq_true] at e; cases e
   ·exact ih z
theorem zI4 {d0 : List D} {its : List Value} {ds : List D} {vs : List V} {l : List KD} {Q : VK} (hu : X.A.units + 66 < cLine) (I : L2.Inv X pins σ H s) (rv : L2.Vals vs its) (r : Reps X.K F H ds vs) (hk : zAT d0 ds = some l) (h64 : ds.length < 64)
  (k : ∀ p vs', H p = none -> Reps X.K F H ((zAQ l).map (·.2)) vs' -> vs'.length <= 1000 -> Q (.ref p) (upd H p (.lst vs'))) : wpAny (model X.prog X.w) X.A.in1 (newList its >>= fun l => holding [l] (call (.builtin "list.sort") [l] []) >>= fun _ => ret l) (fun fin s' => ∃ v, fin = .done (.ret v) /\ EP X pins σ Q v s') X.xe s := by
 obtain ⟨em, hrow⟩ := zFs hk
 obtain ⟨T, t1, t2, t3, t4⟩ := zI2 (K := X.K) (F := F) (H := H) (l := l) (by rw [em]; exact r) rv
 have rowT : ∀ t ∈ T, rowK d0 t.1.2 = some t.1.1 := fun t ht => hrow t.1 (by rw [<- t1]; exact List.mem_map_of_mem ht)
 have l64 : its.length < 64 := by rw [<- rv.length, <- r.length]; exact h64
 have all : KeysOf (keyT (T.map fun t => (t.2.2, t.1.1))) (pairsOf its) := fun p hp => by
  rw [pairsOf_toList] at hp
  have : p.1 ∈ its := (List.of_mem_zip hp).1
  rw [<- t3] at this
  obtain ⟨t, ht, e⟩ := List.mem_map.mp this
  rw [<- e]
  exact zG6 ht
 have rd : ∀ t ∈ T, ∀ h' : Heap, (∀ b o, s.heap.get? b = some o -> h'.get? b = some o) -> ∃ as, Reads h' t.2.2 t.1.2 as := fun t ht h' hk' => by
  obtain ⟨y, ys, y1, _, y2⟩ := zCo (rowT t ht)
  obtain ⟨as, z⟩ := (t4 t ht).1.reads I (by rw [y1]; exact zFQ y2) (t4 t ht).2
  exact ⟨as, Reads.keeps hk' z⟩
 have same : ∀ t ∈ T, ∀ u ∈ T, t.2.2 = u.2.2 -> t.1.1 = u.1.1 := fun t ht u hu' e => by
  obtain ⟨as, z1⟩ := rd t ht s.heap fun _ _ q => q
  obtain ⟨bs, z2⟩ := rd u hu' s.heap fun _ _ q => q
  obtain ⟨x, xs, e1, _, f1⟩ := zCo (rowT t ht)
  rw [e] at z1
  have e2 : t.1.2 = u.1.2 := Reads.unique t.1.2 u.1.2 u.2.2 as bs (by rw [e1]; exact zFQ f1) z1 z2
  have h1 := rowT t ht
  have h2 := rowT u hu'
  rw [e2, h2] at h1
  exact (Option.some.inj h1).symm
 refine wpAny_bind (wpAny_newList ?_ (hsz := ?_))
 rotate_left
 ·exact zA8 (by omega)
 show wpAny _ _ _ _ _ { s with heap := s.heap.push (seqObj "list" its.toArray 0) }
 have hL : (s.heap.push (seqObj "list" its.toArray 0)).get? s.heap.objs.size = some (seqObj "list" its.toArray 0) := Heap.get?_push_size _ rfl
 have kp : ∀ h' : Heap, (∀ b o, b ≠ s.heap.objs.size -> (s.heap.push (seqObj "list" its.toArray 0)).get? b = some o -> h'.get? b = some o) -> ∀ b o, s.heap.get? b = some o -> h'.get? b = some o := fun h' hk' b o e =>
  hk' b o (Nat.ne_of_lt (Heap.lt_size e)) (Heap.get?_push_of_some _ e)
 refine wpAny_bind (wpAny_holding (wpAny_call_entry slot_list_sort ⟨_, hL, rfl⟩ entry_list_sort (zNp (κ := keyT (T.map fun t => (t.2.2, t.1.1))) (kd := tuples' (isInt (d0.headD .none))) hL all l64 (fun h' hk' h2 => ?_) (fun h' hk' => ?_) fun z' p1 p2 => ⟨_, rfl, wpAny_pure ⟨_, rfl, ?_⟩⟩) (args_list_sort _)))
 ·-- the kind of the keys
  refine zKj (s := { s with heap := h' }) (d := d0.headD .none) rfl (fun v hv => ?_) (fun e => by rw [e] at h2; simp at h2)
  rw [<- t3] at hv
  obtain ⟨t, ht, e⟩ := List.mem_map.mp hv
  obtain ⟨x, xs, e1, l1, f1⟩ := zCo (rowT t ht)
  obtain ⟨as, z⟩ := rd t ht h' (kp h' hk')
  rw [e1] at z
  refine ⟨x, xs, as, by rw [<- e]; exact z, ?_⟩
  cases d0 with
  | nil => cases l1
  | cons y ys => exact (Bool.and_eq_true_iff.mp l1).1
 ·-- what a comparison answers
  intro x y ka kb E' Q' h1 h2 hQ'
  obtain ⟨t, ht, e1, g1⟩ := zDW h1
  obtain ⟨u, hu', e2, g2⟩ := zDW h2
  obtain ⟨x1, xs1, e3, l1, f1⟩ := zCo (rowT t ht)
  obtain ⟨y1, ys1, e4, l2, f2⟩ := zCo (rowT u hu')
  obtain ⟨as, z1⟩ := rd t ht h' (kp h' hk')
  obtain ⟨bs, z2⟩ := rd u hu' h' (kp h' hk')
  rw [e3, e1] at z1
  rw [e4, e2] at z2
  rw [g1] at f1
  rw [g2] at f2
  cases z1 with
  | @tuple ax ox us n _ _ q1 q2 q3 q4 => cases z2 with
   | @tuple ay oy ws m _ _ w1 w2 w3 w4 =>
    have ll : us.size = ws.size := by
     have a1 := ReadsAll.length _ _ _ q4
     have a2 := ReadsAll.length _ _ _ w4
     have a3 : ∀ (p q : List D), zA2 p q = true -> p.length = q.length := by
      intro p
      induction p with
      | nil => intro q hq'; cases q with
       | nil => rfl
       | cons _ _ => cases hq'
      | cons p0 p ih => intro q hq'; cases q with
       | nil => cases hq'
       | cons q0 q => simp [ih q (Bool.and_eq_true_iff.mp hq').2]
     have a4 := a3 _ _ (zDB l1 l2)
     rw [Array.length_toList] at a1 a2
     omega
    have ef : decide (us.size < ws.size) = false := by rw [ll]; simp
    refine PySem.W.kat_lt (s := { s with heap := h' }) q1 q3 w1 w3 ?_
    rw [ef]
    refine zG3 (s := { s with heap := h' }) (show X.A.in1.in1.units + 64 < cLine by show X.A.units + 1 + 1 + 64 < cLine; omega) 0 (zDB l1 l2) f1 f2 q4 w4 (fun hb _ z r' ez => ?_) (fun e => ?_) fun _ => hQ'
    ·cases ez
     cases d0 with
     | nil => cases l1
     | cons y0 ys0 =>
      have l3 := (Bool.and_eq_true_iff.mp l1).1
      cases y0 with
      | int n => cases x1 with
       | int m => exact ⟨m, rfl⟩
       | _ => cases l3
      | _ => cases hb
    ·have e5 : HT.lexLt ka kb = false := by rw [e]; exact zCN _
     have : (keyT (T.map fun t => (t.2.2, t.1.1))).blt ka kb = false := e5
     rw [this] at hQ'
     exact hQ'
 ·-- the list behind
  have pm : (((arrOf z').map (·.2)).toList).Perm its := by
   have h1 := Array.perm_iff_toList_perm.mp p1
   have h2 := h1.map (·.2)
   rw [pairsOf_toList] at h2
   rw [Array.toList_map]
   have h3 : (its.zip its).map (·.2) = its := by
    rw [List.map_snd_zip]
    exact Nat.le_refl _
   rw [h3] at h2
   exact h2
  obtain ⟨T', q1, q2⟩ := zLn pm.symm T t3
  have memT : ∀ t ∈ T', t ∈ T := fun t ht => q1.mem_iff.mp ht
  obtain ⟨g1, g2⟩ := zHq (K := X.K) (F := F) (H := H) (T := T') fun t ht => t4 t (memT t ht)
  have lT : T'.length = its.length := by rw [q1.length_eq, <- t3, List.length_map]
  have ord : (T'.map (·.1)).Pairwise Le := by
   rw [List.pairwise_map, List.pairwise_iff_getElem]
   intro i j hi hj hij
   have sz' : (arrOf z').size = T'.length := by
    rw [p1.size_eq, pairsOf_size, lT]
   have key : ∀ m (hm : m < T'.length), KK (keyT (T.map fun t => (t.2.2, t.1.1))) (arrOf z') m = T'[m].1.1 := fun m hm => by
    have hm' : m < (arrOf z').size := by rw [sz']; exact hm
    have e1 : (arrOf z')[m]? = some (arrOf z')[m] := getElem?_pos _ m hm'
    have e2 : (arrOf z')[m] ∈ (pairsOf its).toList := (Array.perm_iff_toList_perm.mp p1).mem_iff.mp (by simp)
    rw [pairsOf_toList] at e2
    have e3 : (arrOf z')[m].1 = (arrOf z')[m].2 := by
     obtain ⟨n, hn, en⟩ := List.getElem_of_mem e2
     rw [List.getElem_zip] at en
     rw [<- en]
    have e4 : (arrOf z')[m].2 = T'[m].2.2 := by
     have := congrArg (fun (l : List Value) => l[m]?) q2
     simp only [List.getElem?_map, Array.toList_map, Array.getElem?_toList, e1] at this
     rw [List.getElem?_eq_getElem hm] at this
     exact (Option.some.inj this).symm
    unfold KK
    rw [e1]
    show ((keyT (T.map fun t => (t.2.2, t.1.1))).keyOf (arrOf z')[m].1).getD [] = _
    rw [e3, e4]
    obtain ⟨kx, hkx⟩ := zG6 (memT T'[m] (List.getElem_mem hm))
    obtain ⟨t, ht, e5, e6⟩ := zDW hkx
    show ((T.map fun t => (t.2.2, t.1.1)).lookup T'[m].2.2).getD [] = _
    rw [hkx]
    show kx = _
    rw [<- e6]
    exact same t ht _ (memT _ (List.getElem_mem hm)) e5
   have := p2 i j (Nat.le_of_lt hij) (by rw [pairsOf_size, <- lT]; exact hj)
   rw [key i hi, key j hj] at this
   exact this
  have uni : T'.map (·.1) = zAQ l := by
   refine zEQ (((q1.map (·.1)).trans (.of_eq t1)).trans (zCR l).symm) ord (zCX l) fun p hp q hq' e => ?_
   obtain ⟨t, ht, rfl⟩ := List.mem_map.mp hp
   obtain ⟨u, hu', rfl⟩ := List.mem_map.mp hq'
   have h1 := rowT t (memT t ht)
   have h2 := rowT u (memT u hu')
   rw [e] at h1
   exact Prod.ext e (zC4 h1 h2)
  have eD : (zAQ l).map (·.2) = T'.map (·.1.2) := by rw [<- uni, List.map_map]; rfl
  have fresh : H s.heap.objs.size = none := I.hok.fresh (Nat.le_refl _)
  obtain ⟨ep, hat⟩ := sortedHeap_at (out := (arrOf z').map (·.2)) hL
  have old : ∀ b o, s.heap.get? b = some o -> (sortedHeap (s.heap.push (seqObj "list" its.toArray 0)) s.heap.objs.size its ((arrOf z').map (·.2))).get? b = some o := fun b o e => by
   have lt := Heap.lt_size e
   rw [sortedHeap_old (Nat.ne_of_lt lt) (by rw [size_push']; exact Nat.lt_succ_of_lt lt)]
   exact Heap.get?_push_of_some _ e
  have lv : (T'.map (·.2.1)).length <= 1000 := by rw [List.length_map, lT]; omega
  refine ⟨.ref s.heap.objs.size, _, I.laid (t' := s.toks) (o := .lst (T'.map (·.2.1))) old (Nat.le_refl _) ?_, rfl, k _ _ fresh (by rw [eD]; exact g1) lv⟩
  refine ⟨zA8 lv, T'.map (·.2.2), ep, g2, ?_⟩
  rw [hat, q2]
theorem zDS {d0 : List D} {a : Addr} {ds : List D} {vs : List V} {l : List KD} {Q : VK} (hu : X.A.units + 66 < cLine) (I : L2.Inv X pins σ H s) (hq : SqL X.K H a vs) (r : Reps X.K F H ds vs) (hk : zAT d0 ds = some l) (h64 : ds.length < 64)
  (k : ∀ p vs', H p = none -> Reps X.K F H ((zAQ l).map (·.2)) vs' -> vs'.length <= 1000 -> Q (.ref p) (upd H p (.lst vs'))) : wpAny (model X.prog X.w) X.A (call (.builtin "sorted") [.ref a]) (EP X pins σ Q) X.xe s := by
 obtain ⟨its, rv, pl, hz⟩ := I.list hq
 refine Calls.call_function_entry kind_sorted plain_sorted entry_sorted (args_sorted1 _) ?_
 unfold Builtin.«sorted»
 refine wpAny_bind (m := checkCount "sorted" 1 1 _) (wpAny_pure (wpAny_bind (collect_list pl.isList ?_ (hsz := ?_))))
 ·refine zI4 hu (I.kept (h' := (s.heap.push (seqObj "list" #[] 0)).update s.heap.objs.size (Obj.mapSeq (· ++ its.toArray))) (t' := s.toks) fun b o e => ?_) rv r hk h64 k
  rw [Heap.get?_update_ne _ _ _ _ (Nat.ne_of_lt (Heap.lt_size e))]
  exact Heap.get?_push_of_some _ e
 ·rw [<- rv.length]; exact hz
end
end SD
namespace DL
open PySem PySem.Spec PyProof.Rows L2 SD
theorem zMp {X : Cx} (hu : X.A.units + 66 < cLine) : zAJ X (.builtin "sorted") (rDA X.K zCf) := fun pins s σ H xs us Q I rx zz => by
 obtain ⟨F, ds, q, z, R, hq, k⟩ := zz
 unfold zCf at hq
 split at hq
 ·cases hq
  cases R with
  | cons R1 R2 =>
   cases R2
   cases R1 with
   | @lst a vs _ h1 r1 =>
    obtain ⟨u, rfl, ru⟩ := zBj rx
    cases ru
    exact zDS (d0 := []) (l := []) hu I h1.sq r1 rfl (by simp) fun p vs' hp r' _ => k _ _ _ (Ext.frozen hp) (Rep.newLst hp r')
 ·rename_i d0 ds'
  by_cases c : ds'.length < 63
  ·rw [if_pos c] at hq
   obtain ⟨l, e1, hq⟩ := bnd hq
   cases hq
   cases R with
   | cons R1 R2 =>
    cases R2
    cases R1 with
    | @lst a vs _ h1 r1 =>
     obtain ⟨u, rfl, ru⟩ := zBj rx
     cases ru
     exact zDS (d0 := d0) hu I h1.sq r1 e1 (by simp; omega) fun p vs' hp r' _ => k _ _ _ (Ext.frozen hp) (Rep.newLst hp r')
  ·rw [if_neg c] at hq; cases hq
 ·cases hq
end DL
namespace ZL
open PySem PySem.Spec PyProof.Rows L2 DL
theorem zDD {X : Cx} {pins : List (Addr × Obj)} {σ : L2.St} {H H' : Hp} {s : Shared} {ch : List Addr} {h' : Heap} {tk : Nat} (I : L2.Inv X pins σ H s) (hf : ∀ b ∈ ch, FpOk X pins H b) (k : ∀ b o, b ∉ ch -> s.heap.get? b = some o -> h'.get? b = some o)
  (hH : ∀ b o, s.heap.get? b = some o -> H' b = H b) (hS : ∀ b o, H b = some o -> H' b = some o) (hok : HOk X.prog X.w H' h') : L2.Inv X pins σ H' { s with heap := h', toks := tk } := by
 refine I.step (g' := s.gens) (d' := s.drawn) (ch := ch) (fun b hb => ?_) (fun b o _ _ hc e _ => k b o hc e) (fun b o _ _ hc e _ => ⟨o.slots, k b o hc e⟩) (fun b o _ e n => by rw [hH b o e]; exact n)
  (fun b o hc e => ⟨o, k b o hc e⟩) (fun b xs e => hS _ _ e) (fun b o u e => hS _ _ e) (fun b ps e => ⟨#[], by rw [hS _ _ e]; simp⟩) (fun m hm => ?_) hok I.bare
 ·obtain ⟨_, f1, _, f3, f4, f5⟩ := hf b hb
  exact ⟨f3, f1, f4, f5⟩
 ·obtain ⟨o, es, ep, ho, r⟩ := hm
  exact ⟨o, es, ep, k _ o (fun z => (hf _ z).2.1 rfl) ho, r⟩
end ZL
namespace DL
open PySem PySem.Spec PyProof.Rows L2 ZL
end DL
namespace DL
open PySem PySem.Spec PySem.SeqAt PyProof.Rows L2 CL SD ZL
noncomputable def cutD (xs : List D) (lo hi : Option Int) : List D := (xs.drop (HT.sIx xs.length 0 lo)).take (HT.sIx xs.length xs.length hi - HT.sIx xs.length 0 lo)
noncomputable def tDO (K : PySem.W.Frag) (g : Rho -> Option (Option Int)) : TO := fun σ H Q => ∃ (F : Addr -> Prop) (H₀ : Hp) (ρ : Rho) (o : Option Int), StOk K F H H₀ σ ρ /\ g ρ = some o /\ ∀ F' H', Ext F F' H H' -> Q o H'
noncomputable def DO (X : Cx) (e : Option Expr) (g : Rho -> Option (Option Int)) : Prop := PO X e (tDO X.K g)
noncomputable def oNo : Rho -> Option (Option Int) := fun _ => some none
noncomputable def oE (g : Rho -> Option D) : Rho -> Option (Option Int) := fun ρ => (g ρ).bind fun d => (asI d).bind fun i => some (some i)
section
variable {X : Cx} {a b e : Expr} {ga : Rho -> Option D} {pos p p2 : Pos} {lo hi : Option Expr} {gl gh : Rho -> Option (Option Int)}
theorem zId {o : Option Expr} {t t' : TO} (h : PO X o t) (m : ∀ σ H Q, t' σ H Q -> t σ H Q) : PO X o t' := fun pins s σ H Q I q => h pins s σ H Q I (m σ H Q q)
theorem zHv : DO X none oNo := zId zJD fun σ H Q zz => by
 obtain ⟨F, H₀, ρ, o, S, q, k⟩ := zz
 cases q
 exact k F H (Ext.refl F H)
theorem zIT (h : DE X e ga) : DO X (some e) (oE ga) := zId (zN3 h) fun σ H Q zz => by
 obtain ⟨F, H₀, ρ, o, S, q, k⟩ := zz
 obtain ⟨d, e1, q⟩ := bnd q
 obtain ⟨i, e2, q⟩ := bnd q
 cases q
 exact ⟨F, H₀, ρ, d, S, e1, fun F1 H1 v E1 R1 => ⟨i, zKo R1 e2, k F1 H1 E1⟩⟩
noncomputable def tyD : D -> String
 | .none => "NoneType"
 | .bool _ => "bool"
 | .int _ => "int"
 | .str _ => "str"
 | .list _ => "list"
 | .tuple _ => "tuple"
 | .dict _ => "dict"
noncomputable def isD (T : String) (d : D) : Bool := tyD d == T || (T == "int" && tyD d == "bool")
noncomputable def zBy : D -> Bool
 | .dict _ => true
 | _ => false
noncomputable def eIs (T : String) (ga : Rho -> Option D) : Rho -> Option D := fun ρ => (ga ρ).bind fun d => if zBy d = true then none else some (.bool (isD T d))
theorem zLN (K : PySem.W.Frag) (T : String) (hT : T = "list" ∨ T = "tuple" ∨ T = "int" ∨ T = "bool" ∨ T = "str" ∨ T = "dict") (d : D) : PySem.W.kitOne K (.type (tyD d)) (.type T) = some (isD T d) := by
 rcases hT with rfl | rfl | rfl | rfl | rfl | rfl <;> cases d <;> (first | rfl | (unfold PySem.W.kitOne; with_unfolding_all rfl) | decide +kernel)
theorem zLF {T : String} (hT : T = "list" ∨ T = "tuple" ∨ T = "int" ∨ T = "bool" ∨ T = "str" ∨ T = "dict") : zAJ X (.builtin "isinstance") (fun xs H Q => ∃ (F : Addr -> Prop) (d : D) (x : V), Rep X.K F H d x /\ zBy d = false /\ xs = [x, .ty T] /\ Q (.bl (isD T d)) H) := by
 intro pins s σ H xs us Q I rv h
 obtain ⟨F, d, x, R, nd, rfl, q⟩ := h
 obtain ⟨u, u2, rfl, ru, r2⟩ := zH9 rv
 cases (show u2 = Value.type T from r2)
 have ok := zLN X.K T hT d
 have fin : ∀ tk, EP X pins σ Q (.bool (isD T d)) { s with toks := tk } := fun tk => ⟨.bl _, H, I.tok tk, rfl, q⟩
 cases R with
 | non => cases (show u = Value.none from ru); exact PySem.W.kia_one PySem.W.kitx_none I.kIn True.intro ok (fun z => nomatch z) fin
 | dct _ _ _ _ _ => cases nd
 | exn _ _ _ => cases nd
 | bl b => cases (show u = Value.bool b from ru); exact PySem.W.kia_one PySem.W.kitx_bool I.kIn True.intro ok (fun z => nomatch z) fin
 | int i => obtain ⟨t, e⟩ := (show ∃ t, u = Value.int i t from ru); cases e; exact PySem.W.kia_one PySem.W.kitx_int I.kIn True.intro ok (fun z => nomatch z) fin
 | str y => obtain ⟨t, e⟩ := (show ∃ t, u = Value.str y t from ru); cases e; exact PySem.W.kia_one PySem.W.kitx_str I.kIn True.intro ok (fun z => nomatch z) fin
 | @tup a vs ds h1 r1 =>
  cases (show u = Value.ref a from ru)
  obtain ⟨its, _, ⟨o, g1, g2, _⟩, _⟩ := I.tuple h1
  exact PySem.W.kia_one PySem.W.kitx_tuple I.kIn ⟨o, g1, g2⟩ ok (fun z => nomatch z) fin
 | @lst a vs ds h1 r1 =>
  cases (show u = Value.ref a from ru)
  obtain ⟨its, _, ⟨o, n, g1, g2, _⟩, _⟩ := I.list h1.sq
  exact PySem.W.kia_one PySem.W.kitx_list I.kIn ⟨o, g1, g2⟩ ok (fun z => nomatch z) fin
theorem zGh : bootBuiltins "isinstance" = some (.builtin "isinstance") := by decide +kernel
theorem zCL {T : String} {Tn : Str} {p' : Pos} (hT : T = "list" ∨ T = "tuple" ∨ T = "int" ∨ T = "bool" ∨ T = "str" ∨ T = "dict") (hg : Gl X "isinstance") (hm : X.mg "isinstance" = none) (hgT : Gl X Tn) (hmT : X.mg Tn = none) (hvT : bootBuiltins Tn = some (.type T)) (hn : Tn ≠ "__name__") (ha : DE X e ga)
  (hs : starEach [e, .Name Tn p'] X.env = (false, eval e X.env) :: starEach [.Name Tn p'] X.env := by rfl) (hs2 : starEach [.Name Tn p'] X.env = (false, eval (.Name Tn p') X.env) :: starEach [] X.env := by rfl) (hdb : (Tn == ("__debug__" : Str)) = false := by decide)
  (hpl : (backTo pos (starEach [.Name Tn p'] X.env)).any (·.1) = false := by rfl) : DE X (.Call (.Name "isinstance" p) [e, .Name Tn p'] [] pos) (eIs T ga) :=
 zAA (zFa (zLF hT) hg hm zGh (zBa ha (zBa (zGE (v := .ty T) hgT hmT hvT rfl hn hdb) zBA hs2) hs) (he := hs) (hpl := hpl)) fun σ H Q zz => by
  obtain ⟨F, H₀, ρ, d, S, q, k⟩ := zz
  obtain ⟨x, e1, q⟩ := bnd q
  by_cases c : zBy x = true
  ·rw [if_pos c] at q; cases q
  ·rw [if_neg c] at q
   cases q
   exact ⟨F, H₀, ρ, x, S, e1, fun F1 H1 v E1 R1 => ⟨F1, x, v, R1, by simpa using c, rfl, k F1 H1 _ E1 (.bl _)⟩⟩
end
noncomputable def zGu (osc : Scope) (oN N' : List Str) (scope : Scope) (inner : List (Option Nat)) : Bool :=
 scope.kind == .function && scope.names.all (fun x => x.2 != .cell) && scope.names.all (fun x => x.2 != .local || scope.names.lookup x.1 == some .local) &&
 scope.names.all (fun x => x.2 != .free || (scope.names.lookup x.1 == some .free && (osc.names.lookup x.1 == some .cell || osc.names.lookup x.1 == some .free))) && inner.length == N'.length &&
 (List.range inner.length).all fun i => match inner[i]? with
  | some (some j) => match N'[i]? with
   | some x => oN[j]? == some x && scope.names.lookup x == some .free
   | none => false
  | _ => true
theorem zBd {X : Cx} {N' : List Str} {scope : Scope} {inner : List (Option Nat)} (osc : Scope) (oN : List Str) (h1 : X.env.scope = osc) (h2 : X.N = oN) (h : zGu osc oN N' scope inner = true) : zBB X N' scope inner := by
 unfold zGu at h
 simp only [Bool.and_eq_true] at h
 obtain ⟨⟨⟨⟨⟨a1, a2⟩, a3⟩, a4⟩, a5⟩, a6⟩ := h
 refine ⟨eq_of_beq a1, fun x hx e => ?_, fun x hx e => ?_, fun x hx e => ?_, eq_of_beq a5, fun i j e => ?_⟩
 ·have := List.all_eq_true.mp a2 x hx
  rw [e] at this; cases this
 ·have := List.all_eq_true.mp a3 x hx
  rw [e] at this
  rcases Bool.or_eq_true_iff.mp this with z | z
  ·cases z
  ·exact eq_of_beq z
 ·have := List.all_eq_true.mp a4 x hx
  rw [e] at this
  rcases Bool.or_eq_true_iff.mp this with z | z
  ·cases z
  ·obtain ⟨z1, z2⟩ := Bool.and_eq_true_iff.mp z
   refine ⟨eq_of_beq z1, ?_⟩
   rw [h1]
   rcases Bool.or_eq_true_iff.mp z2 with z | z
   ·exact .inl (eq_of_beq z)
   ·exact .inr (eq_of_beq z)
 ·have hi : i < inner.length := (List.getElem?_eq_some_iff.mp e).1
  have := List.all_eq_true.mp a6 i (List.mem_range.mpr hi)
  rw [e] at this
  dsimp only at this
  split at this
  ·rename_i x e2
   obtain ⟨z1, z2⟩ := Bool.and_eq_true_iff.mp this
   exact ⟨x, e2, by rw [h2]; exact eq_of_beq z1, eq_of_beq z2⟩
  ·cases this
theorem u64 {k : Nat} {A : Around} (r : Room k A) : A.units + 64 < cLine := by have := r.un; omega
theorem u65 {k : Nat} {A : Around} (r : Room k A) : A.units + 65 < cLine := by have := r.un; omega
theorem u66 {k : Nat} {A : Around} (r : Room k A) : A.units + 66 < cLine := by have := r.un; omega
noncomputable def zEi (K : PySem.W.Frag) (G : List D -> Option D) : Sp := fun vs H Q E => ∃ (a : Addr) (ns : List Int), vs = [.ref a] /\ SqL K H a (ns.map V.int) /\ ns.length <= 63 /\ ∀ H', Q (.bl true) H'
theorem zDz {K : PySem.W.Frag} {F : Addr -> Prop} {H : Hp} : ∀ ns : List Int, Reps K F H (ns.map PyData.int) (ns.map V.int)
 | [] => .nil
 | n :: ns => .cons (.int n) (zDz ns)
theorem law_D {P : Program} {w : World} {K : PySem.W.Frag} {mg : Str -> Option Value} {base : Heap} {CX : CXT} {k : Nat} {f : Addr} {fd : FuncData} {ps : List Str} {G : List D -> Option D} (F : FnOk P w K mg base CX k f fd ps (spD K 1 G))
  (h : ∀ ns : List Int, ns.length <= 63 -> G [.list (ns.map PyData.int)] = some (.bool true)) : FnOk P w K mg base CX k f fd ps (zEi K G) :=
 F.imp fun vs H Q E zz => by
  obtain ⟨a, ns, e, hq, hl, q⟩ := zz
  subst e
  refine ⟨fun b => H b ≠ none, [.list (ns.map PyData.int)], .bool true, rfl, fun _ z => z, .cons ?_ .nil, h ns hl, fun F' H' v E' R' => ?_⟩
  ·rcases hq with hq | hq
   ·refine .lst (.inl ⟨?_, hq⟩) (zDz ns)
    rcases hq with hq | ⟨o, hq⟩ <;> (rw [hq]; simp)
   ·exact .lst (.inr (.inr hq)) (zDz ns)
  ·cases R'
   exact q H'
theorem zAU {P : Program} {w : World} {K : PySem.W.Frag} {mg : Str -> Option Value} {base : Heap} {x qual : Str} {st : Stmt} {f : Addr} {fd : FuncData} {N ps : List Str} {k n m : Nat} {g : Rho -> Option Out} {G : List D -> Option D} (hG : G = fnD m g) (hn : ps.length = n) (hm : N.length = m) (F : Fun K x qual st f fd) (S : zAx N ps (zAf st))
  (hb : ∀ (cdv : Value) (A : Around) (outer : List Env) (s : Shared) (H : Hp) (E : XK), Room k (A.deeper (envOfC qual (zAf st) s.heap.objs.size f cdv)) ->
   DSs (cxOf CX0 P w K mg base N qual (zAf st) f cdv A outer s H E).nox (zAv st) g) : FnOk P w K mg base CX0 (k + 1) f fd ps (spD K n G) := by
 subst hn hm hG
 exact fn_D F S hb
end DL
namespace ST
open PySem PySem.SetTable
noncomputable def fI (M i : Nat) : Nat := (i * 5 + 1) % (M + 1)
noncomputable def itN (M : Nat) : Nat -> Nat -> Nat
 | 0, i => i
 | n + 1, i => itN M n (fI M i)
theorem zC5 (M : Nat) : ∀ a b i, itN M (a + b) i = itN M b (itN M a i)
 | 0, b, i => by rw [Nat.zero_add]; rfl
 | a + 1, b, i => by rw [Nat.succ_add]; exact zC5 M a b (fI M i)
noncomputable def logs : Nat -> List Nat
 | 7 => [0, 1, 6, 7, 4, 5, 2, 3]
 | 15 => [0, 1, 6, 15, 12, 13, 2, 11, 8, 9, 14, 7, 4, 5, 10, 3]
 | 31 => [0, 1, 6, 15, 28, 13, 2, 27, 24, 25, 30, 7, 20, 5, 26, 19, 16, 17, 22, 31, 12, 29, 18, 11, 8, 9, 14, 23, 4, 21, 10, 3]
 | 63 => [0, 1, 6, 47, 28, 45, 2, 59, 56, 25, 62, 7, 20, 5, 58, 19, 48, 49, 54, 31, 12, 29, 50, 43, 40, 9, 46, 55, 4, 53, 42, 3, 32, 33, 38, 15, 60, 13, 34, 27, 24, 57, 30, 39, 52, 37, 26, 51, 16, 17, 22, 63, 44, 61, 18, 11, 8, 41, 14, 23, 36, 21, 10, 35]
 | 255 => [0, 1, 70, 239, 156, 109, 2, 123, 120, 25, 254, 71, 148, 5, 58, 83, 240, 49, 182, 159, 140, 157, 114, 43, 104, 73, 110, 247, 132, 53, 170, 3, 224, 97, 38, 79, 124, 205, 226, 219, 88, 121, 222, 167, 116, 101, 26, 179, 208, 145, 150, 255, 108, 253, 82, 139, 72, 169, 78, 87, 100, 149, 138, 99, 192, 193, 6, 175, 92, 45, 194, 59, 56, 217, 190, 7, 84, 197, 250, 19, 176, 241, 118, 95, 76, 93, 50, 235, 40, 9, 46, 183, 68, 245, 106, 195, 160, 33, 230, 15, 60, 141, 162, 155, 24, 57, 158, 103, 52, 37, 218, 115, 144, 81, 86, 191, 44, 189, 18, 75, 8, 105, 14, 23, 36, 85, 74, 35, 128, 129, 198, 111, 28, 237, 130, 251, 248, 153, 126, 199, 20, 133, 186, 211, 112, 177, 54, 31, 12, 29, 242, 171, 232, 201, 238, 119, 4, 181, 42, 131, 96, 225, 166, 207, 252, 77, 98, 91, 216, 249, 94, 39, 244, 229, 154, 51, 80, 17, 22, 127, 236, 125, 210, 11, 200, 41, 206, 215, 228, 21, 10, 227, 64, 65, 134, 47, 220, 173, 66, 187, 184, 89, 62, 135, 212, 69, 122, 147, 48, 113, 246, 223, 204, 221, 178, 107, 168, 137, 174, 55, 196, 117, 234, 67, 32, 161, 102, 143, 188, 13, 34, 27, 152, 185, 30, 231, 180, 165, 90, 243, 16, 209, 214, 63, 172, 61, 146, 203, 136, 233, 142, 151, 164, 213, 202, 163]
 | _ => [0, 1, 70, 111, 28, 109, 2, 123, 120, 25, 126, 71, 20, 5, 58, 83, 112, 49, 54, 31, 12, 29, 114, 43, 104, 73, 110, 119, 4, 53, 42, 3, 96, 97, 38, 79, 124, 77, 98, 91, 88, 121, 94, 39, 116, 101, 26, 51, 80, 17, 22, 127, 108, 125, 82, 11, 72, 41, 78, 87, 100, 21, 10, 99, 64, 65, 6, 47, 92, 45, 66, 59, 56, 89, 62, 7, 84, 69, 122, 19, 48, 113, 118, 95, 76, 93, 50, 107, 40, 9, 46, 55, 68, 117, 106, 67, 32, 33, 102, 15, 60, 13, 34, 27, 24, 57, 30, 103, 52, 37, 90, 115, 16, 81, 86, 63, 44, 61, 18, 75, 8, 105, 14, 23, 36, 85, 74, 35]
noncomputable def zB1 (M : Nat) : Bool := (itN M (M + 1) 0 == 0) && (List.range (M + 1)).all fun j => decide ((logs M).getD j 0 <= M) && itN M ((logs M).getD j 0) 0 == j
theorem cyc7 : zB1 7 = true := by decide +kernel
theorem cyc31 : zB1 31 = true := by decide +kernel
theorem zNk : zB1 127 = true := by decide +kernel
theorem cyc15 : zB1 15 = true := by decide +kernel
theorem cyc63 : zB1 63 = true := by decide +kernel
theorem zJz : zB1 255 = true := by decide +kernel
noncomputable def Good (M : Nat) : Prop := M = 7 ∨ M = 31 ∨ M = 127 ∨ M = 15 ∨ M = 63 ∨ M = 255
theorem Good.cyc {M : Nat} (g : Good M) : zB1 M = true := by
 rcases g with rfl | rfl | rfl | rfl | rfl | rfl
 ·exact cyc7
 ·exact cyc31
 ·exact zNk
 ·exact cyc15
 ·exact cyc63
 ·exact zJz
theorem cyc0 {M : Nat} (g : Good M) : itN M (M + 1) 0 = 0 /\ ∀ j, j <= M -> ∃ k, k <= M /\ itN M k 0 = j := by
 have h := g.cyc
 unfold zB1 at h
 rw [Bool.and_eq_true, beq_iff_eq, List.all_eq_true] at h
 refine ⟨h.1, fun j hj => ?_⟩
 have := h.2 j (List.mem_range.mpr (by omega))
 rw [Bool.and_eq_true, beq_iff_eq, decide_eq_true_eq] at this
 exact ⟨_, this.1, this.2⟩
theorem cyc {M i j : Nat} (g : Good M) (hi : i <= M) (hj : j <= M) : ∃ k, k <= M /\ itN M k i = j := by
 obtain ⟨z, c⟩ := cyc0 g
 obtain ⟨m, hm, rfl⟩ := c i hi
 obtain ⟨n, hn, rfl⟩ := c j hj
 by_cases q : m <= n
 ·refine ⟨n - m, by omega, ?_⟩
  rw [<- zC5]
  congr 1
  omega
 ·refine ⟨n + (M + 1) - m, by omega, ?_⟩
  rw [<- zC5, show m + (n + (M + 1) - m) = (M + 1) + n by omega, zC5, z]
noncomputable def adv (M : Nat) (p : Probe) : Probe :=
 if p.more > 0 then { p with j := p.j + 1, more := p.more - 1 } else
 { p with j := (leap M p.i p.perturb).1, more := runEnd M (leap M p.i p.perturb).1 - (leap M p.i p.perturb).1, i := (leap M p.i p.perturb).1, perturb := (leap M p.i p.perturb).2 }
noncomputable def run (M : Nat) (l : Nat × Nat) : Probe := { j := l.1, more := runEnd M l.1 - l.1, i := l.1, perturb := l.2, dummy := none }
noncomputable def L (M : Nat) (h : Int) : Nat -> Nat × Nat
 | 0 => (bits h % (M + 1), bits h)
 | k + 1 => leap M (L M h k).1 (L M h k).2
noncomputable def P (M : Nat) (h : Int) : Nat -> Probe
 | 0 => run M (L M h 0)
 | n + 1 => adv M (P M h n)
theorem L_le (M : Nat) (h : Int) : ∀ k, (L M h k).1 <= M
 | 0 => Nat.le_of_lt_succ (Nat.mod_lt _ (Nat.succ_pos _))
 | k + 1 => Nat.le_of_lt_succ (Nat.mod_lt _ (Nat.succ_pos _))
theorem zD1 {M i : Nat} (h : i <= M) : i <= runEnd M i /\ runEnd M i <= M /\ runEnd M i - i <= 9 := by
 unfold runEnd
 split <;> omega
theorem P_ok (M : Nat) (h : Int) : ∀ n, (P M h n).j + (P M h n).more <= M /\ (P M h n).dummy = none
 | 0 => by
  have := zD1 (L_le M h 0)
  show (L M h 0).1 + (runEnd M (L M h 0).1 - (L M h 0).1) <= M /\ none = none
  exact ⟨by omega, rfl⟩
 | n + 1 => by
  obtain ⟨h1, h2⟩ := P_ok M h n
  show (adv M (P M h n)).j + (adv M (P M h n)).more <= M /\ (adv M (P M h n)).dummy = none
  unfold adv
  split
  ·exact ⟨by show (P M h n).j + 1 + ((P M h n).more - 1) <= M; omega, h2⟩
  ·refine ⟨?_, h2⟩
   have : (leap M (P M h n).i (P M h n).perturb).1 <= M := Nat.le_of_lt_succ (Nat.mod_lt _ (Nat.succ_pos _))
   have := zD1 this
   show (leap M (P M h n).i (P M h n).perturb).1 + (runEnd M (leap M (P M h n).i (P M h n).perturb).1 - (leap M (P M h n).i (P M h n).perturb).1) <= M
   omega
theorem P_le (M : Nat) (h : Int) (n : Nat) : (P M h n).j <= M := by have := (P_ok M h n).1; omega
theorem zFb {M : Nat} {h : Int} {n k : Nat} (e : P M h n = run M (L M h k)) : ∀ d, d <= runEnd M (L M h k).1 - (L M h k).1 ->
  P M h (n + d) = { j := (L M h k).1 + d, more := runEnd M (L M h k).1 - (L M h k).1 - d, i := (L M h k).1, perturb := (L M h k).2, dummy := none }
 | 0, _ => e
 | d + 1, hd => by
  show adv M (P M h (n + d)) = _
  rw [zFb e d (by omega)]
  unfold adv
  rw [if_pos (show runEnd M (L M h k).1 - (L M h k).1 - d > 0 by omega)]
  rfl
theorem zHF {M : Nat} {h : Int} {n k : Nat} (e : P M h n = run M (L M h k)) : P M h (n + (runEnd M (L M h k).1 - (L M h k).1) + 1) = run M (L M h (k + 1)) := by
 show adv M (P M h (n + (runEnd M (L M h k).1 - (L M h k).1))) = _
 rw [zFb e _ (Nat.le_refl _)]
 unfold adv
 rw [if_neg (show ¬ runEnd M (L M h k).1 - (L M h k).1 - (runEnd M (L M h k).1 - (L M h k).1) > 0 by omega)]
 rfl
theorem P_at (M : Nat) (h : Int) : ∀ k, ∃ n, n <= 10 * k /\ P M h n = run M (L M h k)
 | 0 => ⟨0, Nat.le_refl _, rfl⟩
 | k + 1 => by
  obtain ⟨n, hn, e⟩ := P_at M h k
  have := zD1 (L_le M h k)
  exact ⟨_, by omega, zHF e⟩
theorem zGa (M : Nat) (h : Int) : ∀ k, (L M h k).2 = bits h / 32 ^ k
 | 0 => by show bits h = _; rw [Nat.pow_zero, Nat.div_one]
 | k + 1 => by
  show (L M h k).2 / 32 = _
  rw [zGa M h k, Nat.div_div_eq_div_mul, <- Nat.pow_succ]
theorem zJ8 (h : Int) : bits h < 36893488147419103232 := by
 unfold bits
 have : h % (2 ^ 64 : Int) < 2 ^ 64 := Int.emod_lt_of_pos _ (by decide)
 have h2 : (2 ^ 64 : Int) = 18446744073709551616 := by decide
 rw [h2] at this ⊢
 omega
theorem L_13 (M : Nat) (h : Int) : ∀ k, (L M h (13 + k)).2 = 0 /\ (L M h (13 + k)).1 = itN M k (L M h 13).1
 | 0 => by
  refine ⟨?_, rfl⟩
  rw [zGa]
  exact Nat.div_eq_of_lt (zJ8 h)
 | k + 1 => by
  obtain ⟨h1, h2⟩ := L_13 M h k
  show (L M h (13 + k)).2 / 32 = 0 /\ ((L M h (13 + k)).1 * 5 + 1 + (L M h (13 + k)).2 / 32) % (M + 1) = itN M (k + 1) (L M h 13).1
  rw [h1, h2, zC5]
  exact ⟨rfl, rfl⟩
theorem zHa {M : Nat} (g : Good M) (h : Int) {j : Nat} (hj : j <= M) : ∃ k, k < turns M /\ (L M h k).1 = j := by
 obtain ⟨k, hk, e⟩ := cyc g (L_le M h 13) hj
 exact ⟨13 + k, by unfold turns; omega, by rw [(L_13 M h k).2, e]⟩
theorem cover {M : Nat} (g : Good M) (h : Int) {j : Nat} (hj : j <= M) : ∃ n, n < 10 * turns M /\ (P M h n).j = j := by
 obtain ⟨k, hk, e⟩ := zHa g h hj
 obtain ⟨n, hn, q⟩ := P_at M h k
 exact ⟨n, by omega, by rw [q, <- e]; rfl⟩
end ST
namespace ST
open PySem PySem.SetTable
abbrev Up (l : List Nat) : Prop := l.Pairwise (· < ·)
theorem Up.at {l : List Nat} (s : Up l) {i k x y : Nat} (hx : l[i]? = some x) (hy : l[k]? = some y) (h : i < k) : x < y := by
 obtain ⟨h1, rfl⟩ := List.getElem?_eq_some_iff.mp hx
 obtain ⟨h2, rfl⟩ := List.getElem?_eq_some_iff.mp hy
 exact List.pairwise_iff_getElem.mp s i k h1 h2 h
theorem Up.le {l : List Nat} (s : Up l) {i k x y : Nat} (hx : l[i]? = some x) (hy : l[k]? = some y) (h : i <= k) : x <= y := by
 by_cases e : i = k
 ·subst e; rw [hx] at hy; cases hy; exact Nat.le_refl _
 ·exact Nat.le_of_lt (s.at hx hy (by omega))
theorem zES (xs : Array Nat) (s : Up xs.toList) (j : Nat) : ∀ fuel lo hi, lo <= hi -> hi <= xs.size -> hi - lo <= fuel ->
  (∀ i x, xs.toList[i]? = some x -> i < lo -> x < j) -> (∀ i x, xs.toList[i]? = some x -> hi <= i -> j <= x) ->
  below.go xs j fuel lo hi <= xs.size /\ (∀ i x, xs.toList[i]? = some x -> i < below.go xs j fuel lo hi -> x < j) /\ (∀ i x, xs.toList[i]? = some x -> below.go xs j fuel lo hi <= i -> j <= x)
 | 0, lo, hi, h1, h2, h3, a, b => by
  have e : lo = hi := by omega
  subst e
  exact ⟨h2, a, b⟩
 | fuel + 1, lo, hi, h1, h2, h3, a, b => by
  unfold below.go
  by_cases c : lo < hi
  ·rw [if_pos c]
   dsimp only
   have hm : (lo + hi) / 2 < xs.size := by omega
   have hv : xs.toList[(lo + hi) / 2]? = some (xs.getD ((lo + hi) / 2) j) := by
    rw [Array.getElem?_toList, Array.getElem?_eq_getElem hm]
    simp [Array.getD, hm]
   by_cases d : xs.getD ((lo + hi) / 2) j < j
   ·rw [if_pos d]
    exact zES xs s j fuel _ _ (by omega) h2 (by omega) (fun i x hx hi' => Nat.lt_of_le_of_lt (s.le hx hv (by omega)) d) b
   ·rw [if_neg d]
    exact zES xs s j fuel _ _ (by omega) (by omega) (by omega) a (fun i x hx hi' => Nat.le_trans (by omega) (s.le hv hx hi'))
  ·rw [if_neg c]
   have e : lo = hi := by omega
   subst e
   exact ⟨h2, a, b⟩
theorem zDA (xs : Array Nat) (s : Up xs.toList) (j : Nat) : below xs j <= xs.size /\ (∀ i x, xs.toList[i]? = some x -> i < below xs j -> x < j) /\ (∀ i x, xs.toList[i]? = some x -> below xs j <= i -> j <= x) :=
 zES xs s j _ _ _ (Nat.zero_le _) (Nat.le_refl _) (by omega) (fun i x _ h => absurd h (Nat.not_lt_zero _)) fun i x hx h => by
  obtain ⟨q, _⟩ := List.getElem?_eq_some_iff.mp hx
  rw [Array.length_toList] at q
  omega
structure TOk (t : SetTable) (hs : List Int) : Prop where
 good : Good t.mask
 dum : t.dummies = #[]
 len : t.place.toList.length = hs.length
 up : Up t.place.toList
 le : ∀ x ∈ t.place.toList, x <= t.mask
 room : t.place.toList.length * 5 < t.mask * 3
 reach : ∀ q ∈ t.place.toList.zip hs, ∃ n, (P t.mask q.2 n).j = q.1 /\ ∀ m, m < n -> (P t.mask q.2 m).j ∈ t.place.toList
theorem zDH {t : SetTable} (hd : t.dummies = #[]) (s : Up t.place.toList) (j : Nat) : (∃ i, t.slot j = .live i /\ t.place.toList[i]? = some j) ∨ (t.slot j = .empty /\ j ∉ t.place.toList) := by
 obtain ⟨h1, h2, h3⟩ := zDA t.place s j
 unfold slot
 dsimp only
 by_cases c : (t.place[below t.place j]? == some j) = true
 ·rw [if_pos c]
  exact .inl ⟨_, rfl, by rw [Array.getElem?_toList]; exact eq_of_beq c⟩
 ·rw [if_neg c, hd]
  refine .inr ⟨rfl, fun hj => c ?_⟩
  obtain ⟨i, hi⟩ := List.getElem?_of_mem hj
  have e : i = below t.place j := by
   by_cases a : i < below t.place j
   ·have := h2 i j hi a; omega
   ·by_cases b : i = below t.place j
    ·exact b
    ·have hb : below t.place j < t.place.toList.length := by
      obtain ⟨q, _⟩ := List.getElem?_eq_some_iff.mp hi
      omega
     have hv := List.getElem?_eq_getElem hb
     have := s.at hv hi (by omega)
     have := h3 _ _ hv (Nat.le_refl _)
     omega
  rw [<- e, <- Array.getElem?_toList, hi]
  simp
theorem zIm {t : SetTable} (hd : t.dummies = #[]) (s : Up t.place.toList) {j i : Nat} (h : t.slot j = .live i) : t.place.toList[i]? = some j := by
 rcases zDH hd s j with ⟨i', h1, h2⟩ | ⟨h1, _⟩
 ·rw [h] at h1; cases h1; exact h2
 ·rw [h] at h1; cases h1
theorem least {p : Nat -> Prop} [DecidablePred p] : ∀ n, p n -> ∃ m, m <= n /\ p m /\ ∀ k, k < m -> ¬ p k := by
 intro n
 induction n using Nat.strongRecOn with
 | ind n ih =>
  intro h
  by_cases c : ∃ k, k < n /\ p k
  ·obtain ⟨k, hk, pk⟩ := c
   obtain ⟨m, h1, h2, h3⟩ := ih k hk pk
   exact ⟨m, by omega, h2, h3⟩
  ·exact ⟨n, Nat.le_refl _, h, fun k hk pk => c ⟨k, hk, pk⟩⟩
theorem spare {M : Nat} {l : List Nat} (h : l.length <= M) : ∃ j, j <= M /\ j ∉ l := by
 refine Classical.byContradiction fun c => ?_
 have : List.range (M + 1) ⊆ l := fun j hj => Classical.byContradiction fun hn => c ⟨j, by have := List.mem_range.mp hj; omega, hn⟩
 have := List.Nodup.length_le_of_subset List.nodup_range this
 rw [List.length_range] at this
 omega
theorem zNy {M : Nat} {l : List Nat} (g : Good M) (h : l.length <= M) (x : Int) : ∃ n, n < 10 * turns M /\ (P M x n).j ∉ l /\ ∀ m, m < n -> (P M x m).j ∈ l := by
 obtain ⟨j, hj, hn⟩ := spare h
 obtain ⟨n, h1, h2⟩ := cover g x hj
 obtain ⟨m, q1, q2, q3⟩ := least (p := fun n => (P M x n).j ∉ l) n (by rw [h2]; exact hn)
 exact ⟨m, by omega, q2, fun k hk => Classical.byContradiction (q3 k hk)⟩
section
variable {t : SetTable} {hs : List Int} {hashAt : Nat -> Int} {h : Int} {n : Nat}
theorem zIU (T : TOk t hs) (h1 : (P t.mask h n).j ∉ t.place.toList) (h2 : ∀ m, m < n -> (P t.mask h m).j ∈ t.place.toList) : ∀ fuel c, c <= n -> n - c < fuel ->
  (probe.go t hashAt h fuel (P t.mask h c) = some (.empty (P t.mask h n).j none) /\ ∀ m, c <= m -> m < n -> ∀ i, t.slot (P t.mask h m).j = .live i -> hashAt i ≠ h)
  ∨ ∃ m i, c <= m /\ m < n /\ t.slot (P t.mask h m).j = .live i /\ hashAt i = h /\ (∀ m', c <= m' -> m' < m -> ∀ i, t.slot (P t.mask h m').j = .live i -> hashAt i ≠ h) /\ probe.go t hashAt h fuel (P t.mask h c) = some (.candidate (P t.mask h m).j i (P t.mask h (m + 1)))
 | 0, c, _, hf => absurd hf (Nat.not_lt_zero _)
 | fuel + 1, c, hc, hf => by
  unfold probe.go
  by_cases e : c = n
  ·subst e
   rcases zDH T.dum T.up (P t.mask h c).j with ⟨i, q1, q2⟩ | ⟨q1, _⟩
   ·exact absurd (List.mem_of_getElem? q2) h1
   ·rw [q1]
    refine .inl ⟨?_, fun m a b => by omega⟩
    show some (Met.empty (P t.mask h c).j (P t.mask h c).dummy) = _
    rw [(P_ok t.mask h c).2]
  ·rcases zDH T.dum T.up (P t.mask h c).j with ⟨i, q1, q2⟩ | ⟨_, q2⟩
   ·rw [q1]
    dsimp only
    by_cases k : (hashAt i == h) = true
    ·rw [if_pos k]
     exact .inr ⟨c, i, Nat.le_refl _, by omega, q1, eq_of_beq k, fun m' a b => by omega, rfl⟩
    ·rw [if_neg k]
     have hk : hashAt i ≠ h := fun e => k (by rw [e]; simp)
     rcases zIU T h1 h2 fuel (c + 1) (by omega) (by omega) with ⟨a, b⟩ | ⟨m, i', a1, a2, a3, a4, a5, a6⟩
     ·refine .inl ⟨a, fun m hm1 hm2 i2 hi2 => ?_⟩
      by_cases e2 : m = c
      ·subst e2; rw [q1] at hi2; cases hi2; exact hk
      ·exact b m (by omega) hm2 i2 hi2
     ·refine .inr ⟨m, i', by omega, a2, a3, a4, fun m' hm1 hm2 i2 hi2 => ?_, a6⟩
      by_cases e2 : m' = c
      ·subst e2; rw [q1] at hi2; cases hi2; exact hk
      ·exact a5 m' (by omega) hm2 i2 hi2
   ·exact absurd (h2 c (by omega)) q2
theorem met (T : TOk t hs) (h1 : (P t.mask h n).j ∉ t.place.toList) {i j : Nat} (hj : t.place.toList[i]? = some j) (hh : hs[i]? = some h) : ∃ m, m < n /\ (P t.mask h m).j = j := by
 have hq : (j, h) ∈ t.place.toList.zip hs := List.mem_of_getElem? (i := i) (by rw [List.getElem?_zip_eq_some]; exact ⟨hj, hh⟩)
 obtain ⟨m, e, a⟩ := T.reach _ hq
 refine ⟨m, Classical.byContradiction fun c => h1 ?_, e⟩
 by_cases d : n = m
 ·subst d; rw [e]; exact List.mem_of_getElem? hj
 ·exact a n (by omega)
end
theorem zCg {α : Type} (xs : Array α) (p : Nat) (x : α) : (insertAt xs p x).toList = xs.toList.take p ++ x :: xs.toList.drop p := by
 rw [SetTable.toList_insertAt]
theorem zKB {t : SetTable} {hs : List Int} {h : Int} {n : Nat} (T : TOk t hs) (h1 : (P t.mask h n).j ∉ t.place.toList) (h2 : ∀ m, m < n -> (P t.mask h m).j ∈ t.place.toList)
  (hr : (t.place.toList.length + 1) * 5 < t.mask * 3) (pl : Bool) :
  TOk { (t.put (P t.mask h n).j).1 with plain := pl } (hs.take (t.put (P t.mask h n).j).2 ++ h :: hs.drop (t.put (P t.mask h n).j).2) := by
 obtain ⟨b1, b2, b3⟩ := zDA t.place T.up (P t.mask h n).j
 have hmem : ∀ x, x ∈ (insertAt t.place (below t.place (P t.mask h n).j) (P t.mask h n).j).toList ↔ x = (P t.mask h n).j ∨ x ∈ t.place.toList := by
  intro x
  rw [zCg, List.mem_append, List.mem_cons]
  conv => rhs; rw [<- List.take_append_drop (below t.place (P t.mask h n).j) t.place.toList, List.mem_append]
  constructor
  ·rintro (a | a | a)
   ·exact .inr (.inl a)
   ·exact .inl a
   ·exact .inr (.inr a)
  ·rintro (a | a | a)
   ·exact .inr (.inl a)
   ·exact .inl a
   ·exact .inr (.inr a)
 refine ⟨T.good, ?_, ?_, ?_, ?_, ?_, ?_⟩
 ·show (if has t.dummies _ = true then _ else t.dummies) = #[]
  rw [T.dum]
  rfl
 ·show (insertAt t.place (below t.place (P t.mask h n).j) (P t.mask h n).j).toList.length = (hs.take (below t.place (P t.mask h n).j) ++ h :: hs.drop (below t.place (P t.mask h n).j)).length
  rw [zCg]
  simp only [List.length_append, List.length_take, List.length_cons, List.length_drop]
  rw [T.len]
 ·show Up (insertAt t.place (below t.place (P t.mask h n).j) (P t.mask h n).j).toList
  rw [zCg]
  unfold Up
  rw [List.pairwise_append]
  have hlt : ∀ x ∈ t.place.toList.take (below t.place (P t.mask h n).j), x < (P t.mask h n).j := fun x hx => by
   obtain ⟨i, hi⟩ := List.getElem?_of_mem hx
   rw [List.getElem?_take] at hi
   split at hi
   ·rename_i q; exact b2 i x hi q
   ·cases hi
  have hgt : ∀ x ∈ t.place.toList.drop (below t.place (P t.mask h n).j), (P t.mask h n).j < x := fun x hx => by
   obtain ⟨i, hi⟩ := List.getElem?_of_mem hx
   rw [List.getElem?_drop] at hi
   have := b3 _ x hi (by omega)
   have hne : x ≠ (P t.mask h n).j := fun e => h1 (e ▸ List.mem_of_getElem? hi)
   omega
  refine ⟨T.up.sublist (List.take_sublist _ _), List.pairwise_cons.mpr ⟨hgt, T.up.sublist (List.drop_sublist _ _)⟩, fun a ha b hb => ?_⟩
  rcases List.mem_cons.mp hb with rfl | hb
  ·exact hlt a ha
  ·exact Nat.lt_trans (hlt a ha) (hgt b hb)
 ·intro x hx
  rcases (hmem x).mp hx with rfl | hx
  ·exact P_le _ _ _
  ·exact T.le x hx
 ·show (insertAt t.place (below t.place (P t.mask h n).j) (P t.mask h n).j).toList.length * 5 < t.mask * 3
  rw [zCg]
  simp only [List.length_append, List.length_take, List.length_cons, List.length_drop]
  omega
 ·intro q hq
  have hz : (insertAt t.place (below t.place (P t.mask h n).j) (P t.mask h n).j).toList.zip (hs.take (below t.place (P t.mask h n).j) ++ h :: hs.drop (below t.place (P t.mask h n).j)) = (t.place.toList.take (below t.place (P t.mask h n).j)).zip (hs.take (below t.place (P t.mask h n).j)) ++ ((P t.mask h n).j, h) :: (t.place.toList.drop (below t.place (P t.mask h n).j)).zip (hs.drop (below t.place (P t.mask h n).j)) := by
   rw [zCg, List.zip_append (by rw [List.length_take, List.length_take, T.len]), List.zip_cons_cons]
  have hq' : q = ((P t.mask h n).j, h) ∨ q ∈ t.place.toList.zip hs := by
   have hq2 : q ∈ (insertAt t.place (below t.place (P t.mask h n).j) (P t.mask h n).j).toList.zip (hs.take (below t.place (P t.mask h n).j) ++ h :: hs.drop (below t.place (P t.mask h n).j)) := hq
   rw [hz, List.mem_append, List.mem_cons] at hq2
   conv => rhs; rw [<- List.take_append_drop (below t.place (P t.mask h n).j) t.place.toList, <- List.take_append_drop (below t.place (P t.mask h n).j) hs, List.zip_append (by rw [List.length_take, List.length_take, T.len]), List.mem_append]
   rcases hq2 with a | a | a
   ·exact .inr (.inl a)
   ·exact .inl a
   ·exact .inr (.inr a)
  rcases hq' with rfl | hq'
  ·exact ⟨n, rfl, fun m hm => (hmem _).mpr (.inr (h2 m hm))⟩
  ·obtain ⟨m, e, a⟩ := T.reach q hq'
   exact ⟨m, e, fun k hk => (hmem _).mpr (.inr (a k hk))⟩
end ST
namespace ST
open PySem PySem.SetTable
structure Own (M : Nat) (hs : List Int) (ow : Array (Option Nat)) : Prop where
 size : ow.size = M + 1
 lt : ∀ j i : Nat, ow[j]? = some (some i) -> i < hs.length
 all : ∀ i, i < hs.length -> ∃ j : Nat, ow[j]? = some (some i)
 inj : ∀ j j' i : Nat, ow[j]? = some (some i) -> ow[j']? = some (some i) -> j = j'
 reach : ∀ (j i : Nat) (h : Int), ow[j]? = some (some i) -> hs[i]? = some h -> ∃ n, (P M h n).j = j /\ ∀ m, m < n -> ∃ i', ow[(P M h m).j]? = some (some i')
theorem Own.free {M : Nat} {hs : List Int} {ow : Array (Option Nat)} (W : Own M hs ow) (h : hs.length <= M) : ∃ j : Nat, j <= M /\ ow[j]? = some none := by
 refine Classical.byContradiction fun c => ?_
 have hv : ∀ j, j <= M -> ∃ i, ow[j]? = some (some i) := fun j hj => by
  have hl : j < ow.size := by rw [W.size]; omega
  cases e : ow[j] with
  | none => exact absurd ⟨j, hj, by rw [Array.getElem?_eq_getElem hl, e]⟩ c
  | some i => exact ⟨i, by rw [Array.getElem?_eq_getElem hl, e]⟩
 have e : ∀ j, j <= M -> ow[j]? = some (some ((ow.getD j none).getD 0)) := fun j hj => by
  obtain ⟨i, hi⟩ := hv j hj
  have hl : j < ow.size := by rw [W.size]; omega
  rw [hi]
  rw [Array.getElem?_eq_getElem hl] at hi
  have : ow.getD j none = some i := by simp [Array.getD, hl]; exact Option.some.inj hi
  rw [this]
  rfl
 have hs1 : (List.range (M + 1)).map (fun j => (ow.getD j none).getD 0) ⊆ List.range hs.length := fun i hi => by
  obtain ⟨j, hj, rfl⟩ := List.mem_map.mp hi
  exact List.mem_range.mpr (W.lt j _ (e j (by have := List.mem_range.mp hj; omega)))
 have hn : ((List.range (M + 1)).map (fun j => (ow.getD j none).getD 0)).Nodup := by
  unfold List.Nodup
  rw [List.pairwise_map]
  refine List.Pairwise.imp_of_mem ?_ List.nodup_range
  intro a b ha hb hne he
  refine hne (W.inj a b _ (e a (by have := List.mem_range.mp ha; omega)) ?_)
  rw [he]
  exact e b (by have := List.mem_range.mp hb; omega)
 have := List.Nodup.length_le_of_subset hn hs1
 rw [List.length_map, List.length_range, List.length_range] at this
 omega
theorem zI8 {M : Nat} {ow : Array (Option Nat)} {h : Int} (hsz : ow.size = M + 1) : ∀ fuel k n, P M h n = run M (L M h k) -> (∀ m, m < n -> ∃ i, ow[(P M h m).j]? = some (some i)) ->
  (∃ kk, k <= kk /\ kk < k + fuel /\ ow[(L M h kk).1]? = some none) ->
  ∃ n', layClean.free M ow fuel (L M h k).1 (L M h k).2 = some (P M h n').j /\ ow[(P M h n').j]? = some none /\ ∀ m, m < n' -> ∃ i, ow[(P M h m).j]? = some (some i)
 | 0, k, n, e, a, ⟨kk, h1, h2, _⟩ => by omega
 | fuel + 1, k, n, e, a, ⟨kk, h1, h2, h3⟩ => by
  have hr := zD1 (L_le M h k)
  have hget : ∀ d, d <= runEnd M (L M h k).1 - (L M h k).1 -> ow[(L M h k).1 + d]? = some (ow.getD ((L M h k).1 + d) (some 0)) := fun d hd => by
   have hl : (L M h k).1 + d < ow.size := by omega
   rw [Array.getElem?_eq_getElem hl]
   simp [Array.getD, hl]
  have hP : ∀ d, d <= runEnd M (L M h k).1 - (L M h k).1 -> (P M h (n + d)).j = (L M h k).1 + d := fun d hd => by rw [zFb e d hd]
  unfold layClean.free
  cases q : (List.range (runEnd M (L M h k).1 + 1 - (L M h k).1)).find? fun d => (ow.getD ((L M h k).1 + d) (some 0)).isNone with
  | some d =>
   rw [List.find?_range_eq_some] at q
   obtain ⟨q1, q2, q3⟩ := q
   have hd : d <= runEnd M (L M h k).1 - (L M h k).1 := by have := List.mem_range.mp q2; omega
   refine ⟨n + d, ?_, ?_, fun m hm => ?_⟩
   ·rw [hP d hd]
   ·rw [hP d hd, hget d hd, Option.isNone_iff_eq_none.mp q1]
   ·by_cases c : m < n
    ·exact a m c
    ·have := q3 (m - n) (by omega)
     have hd' : m - n <= runEnd M (L M h k).1 - (L M h k).1 := by omega
     have h5 := hP (m - n) hd'
     rw [show n + (m - n) = m by omega] at h5
     rw [h5, hget (m - n) hd']
     cases hv : ow.getD ((L M h k).1 + (m - n)) (some 0) with
     | none => rw [hv] at this; simp at this
     | some i => exact ⟨i, rfl⟩
  | none =>
   rw [List.find?_eq_none] at q
   have hocc : ∀ d, d <= runEnd M (L M h k).1 - (L M h k).1 -> ∃ i, ow[(L M h k).1 + d]? = some (some i) := fun d hd => by
    have := q d (List.mem_range.mpr (by omega))
    rw [hget d hd]
    cases hv : ow.getD ((L M h k).1 + d) (some 0) with
    | none => rw [hv] at this; simp at this
    | some i => exact ⟨i, rfl⟩
   have hk : kk ≠ k := fun e2 => by
    subst e2
    obtain ⟨i, hi⟩ := hocc 0 (Nat.zero_le _)
    rw [Nat.add_zero, h3] at hi
    cases hi
   refine zI8 hsz fuel (k + 1) _ (zHF e) (fun m hm => ?_) ⟨kk, by omega, by omega, h3⟩
   by_cases c : m < n
   ·exact a m c
   ·have hd' : m - n <= runEnd M (L M h k).1 - (L M h k).1 := by omega
    have h5 := hP (m - n) hd'
    rw [show n + (m - n) = m by omega] at h5
    rw [h5]
    exact hocc (m - n) hd'
theorem Own.put {M : Nat} {hs : List Int} {ow : Array (Option Nat)} {h : Int} {n : Nat} (W : Own M hs ow) (h1 : ow[(P M h n).j]? = some none) (h2 : ∀ m, m < n -> ∃ i, ow[(P M h m).j]? = some (some i)) :
  Own M (hs ++ [h]) (ow.setIfInBounds (P M h n).j (some hs.length)) := by
 have hl : (P M h n).j < ow.size := by rw [W.size]; have := P_le M h n; omega
 have hg : ∀ j, (ow.setIfInBounds (P M h n).j (some hs.length))[j]? = if (P M h n).j = j then some (some hs.length) else ow[j]? := fun j => by
  rw [Array.getElem?_setIfInBounds]
  split
  ·first | rfl | rw [if_pos hl]
  ·rfl
 have hup : ∀ j : Nat, (∃ i, ow[j]? = some (some i)) -> ∃ i, (ow.setIfInBounds (P M h n).j (some hs.length))[j]? = some (some i) := fun j zz => by
  obtain ⟨i, hi⟩ := zz
  rw [hg]
  split
  ·exact ⟨_, rfl⟩
  ·exact ⟨i, hi⟩
 refine ⟨by simpa using W.size, fun j i hj => ?_, fun i hi => ?_, fun j j' i hj hj' => ?_, fun j i x hj hx => ?_⟩
 ·rw [List.length_append, List.length_singleton]
  rw [hg] at hj
  split at hj
  ·cases hj; omega
  ·have := W.lt j i hj; omega
 ·rw [List.length_append, List.length_singleton] at hi
  by_cases c : i < hs.length
  ·obtain ⟨j, hj⟩ := W.all i c
   refine ⟨j, ?_⟩
   rw [hg, if_neg (fun e => by rw [e, hj] at h1; cases h1)]
   exact hj
  ·refine ⟨(P M h n).j, ?_⟩
   rw [hg, if_pos rfl, show i = hs.length by omega]
 ·rw [hg] at hj hj'
  split at hj
  ·rename_i e
   cases hj
   split at hj'
   ·rename_i e'; rw [<- e, <- e']
   ·have := W.lt j' _ hj'; omega
  ·split at hj'
   ·cases hj'
    have := W.lt j _ hj; omega
   ·exact W.inj j j' i hj hj'
 ·rw [hg] at hj
  split at hj
  ·rename_i e
   cases hj
   rw [List.getElem?_append_right (Nat.le_refl _), Nat.sub_self] at hx
   cases hx
   exact ⟨n, e, fun m hm => hup _ (h2 m hm)⟩
  ·rw [List.getElem?_append_left (W.lt j i hj)] at hx
   obtain ⟨m, e, a⟩ := W.reach j i x hj hx
   exact ⟨m, e, fun k hk => hup _ (a k hk)⟩
noncomputable def lay (M : Nat) (acc : Option (Array (Option Nat) × Nat)) (h : Int) : Option (Array (Option Nat) × Nat) := do
 let (owner, k) <- acc
 let j <- layClean.free M owner (turns M) (bits h % (M + 1)) (bits h)
 pure (owner.setIfInBounds j (some k), k + 1)
theorem zHf {M : Nat} (g : Good M) : ∀ (rest done : List Int) (ow : Array (Option Nat)), Own M done ow -> (done ++ rest).length <= M -> ∃ ow', rest.foldl (lay M) (some (ow, done.length)) = some (ow', (done ++ rest).length) /\ Own M (done ++ rest) ow'
 | [], done, ow, W, _ => ⟨ow, by rw [List.append_nil]; rfl, by rw [List.append_nil]; exact W⟩
 | h :: rest, done, ow, W, hl => by
  rw [List.length_append, List.length_cons] at hl
  obtain ⟨j, hj, hf⟩ := W.free (by omega)
  obtain ⟨kk, hk, e⟩ := zHa g h hj
  obtain ⟨n, q1, q2, q3⟩ := zI8 (h := h) W.size (turns M) 0 0 rfl (fun m hm => absurd hm (Nat.not_lt_zero _)) ⟨kk, Nat.zero_le _, by omega, by rw [e]; exact hf⟩
  have W2 := W.put q2 q3
  obtain ⟨ow', r1, r2⟩ := zHf g rest (done ++ [h]) _ W2 (by simp; omega)
  refine ⟨ow', ?_, by rw [<- List.append_cons] at r2; exact r2⟩
  rw [List.foldl_cons]
  have : lay M (some (ow, done.length)) h = some (ow.setIfInBounds (P M h n).j (some done.length), (done ++ [h]).length) := by
   show (layClean.free M ow (turns M) (L M h 0).1 (L M h 0).2).bind _ = _
   rw [q1, List.length_append]
   rfl
  rw [this, r1, <- List.append_cons]
theorem own0 (M : Nat) : Own M [] (Array.replicate (M + 1) none) := by
 have : ∀ (j : Nat) (i : Nat), (Array.replicate (M + 1) (none : Option Nat))[j]? = some (some i) -> False := fun j i h => by
  rw [Array.getElem?_replicate] at h
  split at h <;> simp at h
 exact ⟨by simp, fun j i h => (this j i h).elim, fun i hi => absurd hi (Nat.not_lt_zero _), fun j j' i h => (this j i h).elim, fun j i _ h => (this j i h).elim⟩
theorem zN6 {M : Nat} (g : Good M) (hs : Array Int) (hl : hs.size <= M) : ∃ ow, layClean M hs = some ow /\ Own M hs.toList ow := by
 obtain ⟨ow, h1, h2⟩ := zHf g hs.toList [] _ (own0 M) (by simpa using hl)
 refine ⟨ow, ?_, h2⟩
 unfold layClean
 rw [<- Array.foldl_toList]
 show (hs.toList.foldl (lay M) (some (Array.replicate (M + 1) none, 0))).map (·.1) = _
 rw [show (0 : Nat) = ([] : List Int).length from rfl, h1]
 rfl
noncomputable def zAZ (M : Nat) (ow : Array (Option Nat)) : List (Nat × Nat) := (List.range (M + 1)).filterMap fun j => (ow.getD j none).map (j, ·)
theorem zCp {M : Nat} {hs : List Int} {ow : Array (Option Nat)} (W : Own M hs ow) (q : Nat × Nat) : q ∈ zAZ M ow ↔ q.1 <= M /\ ow[q.1]? = some (some q.2) := by
 unfold zAZ
 rw [List.mem_filterMap]
 constructor
 ·rintro ⟨j, hj, e⟩
  have hl : j < ow.size := by rw [W.size]; exact List.mem_range.mp hj
  cases hv : ow.getD j none with
  | none => rw [hv] at e; cases e
  | some i =>
   rw [hv] at e
   cases e
   refine ⟨by have := List.mem_range.mp hj; show j <= M; omega, ?_⟩
   show ow[j]? = some (some i)
   rw [Array.getElem?_eq_getElem hl]
   simp [Array.getD, hl] at hv
   rw [hv]
 ·rintro ⟨h1, h2⟩
  have hl : q.1 < ow.size := by rw [W.size]; omega
  refine ⟨q.1, List.mem_range.mpr (by omega), ?_⟩
  rw [Array.getElem?_eq_getElem hl] at h2
  have : ow.getD q.1 none = some q.2 := by simp [Array.getD, hl]; exact Option.some.inj h2
  rw [this]
  rfl
theorem zGt (M : Nat) (ow : Array (Option Nat)) : (zAZ M ow).Pairwise fun p q => p.1 < q.1 := by
 unfold zAZ
 rw [List.pairwise_filterMap]
 refine List.Pairwise.imp ?_ List.pairwise_lt_range
 intro a b hab x hx y hy
 cases ha : ow.getD a none with
 | none => rw [ha] at hx; cases hx
 | some i =>
  cases hb : ow.getD b none with
  | none => rw [hb] at hy; cases hy
  | some k =>
   rw [ha] at hx; rw [hb] at hy
   cases hx; cases hy
   exact hab
theorem zLd {hs : Array Int} {M : Nat} (fi mo : Nat) (le pl : Bool) (g : Good M) (hl : hs.size * 5 < M * 3) :
  ∃ t' order, laid M fi mo le pl hs = some (t', order) /\ List.Perm order.toList (List.range hs.size) /\ TOk t' (order.toList.map fun i => hs.toList.getD i 0) /\ t'.led = le /\ t'.plain = pl := by
 obtain ⟨ow, h1, W⟩ := zN6 g hs (by omega)
 have hperm : List.Perm ((zAZ M ow).map (·.2)) (List.range hs.size) := by
  rw [List.perm_ext_iff_of_nodup ?_ List.nodup_range]
  ·intro i
   rw [List.mem_map, List.mem_range]
   constructor
   ·rintro ⟨q, hq, rfl⟩
    have := W.lt _ _ ((zCp W q).mp hq).2
    simpa using this
   ·intro hi
    obtain ⟨j, hj⟩ := W.all i (by simpa using hi)
    have hjl : j < ow.size := (Array.getElem?_eq_some_iff.mp hj).1
    exact ⟨(j, i), (zCp W (j, i)).mpr ⟨by rw [W.size] at hjl; show j <= M; omega, hj⟩, rfl⟩
  ·unfold List.Nodup
   rw [List.pairwise_map]
   refine List.Pairwise.imp_of_mem ?_ (zGt M ow)
   intro p q hp hq hlt he
   have a := ((zCp W p).mp hp).2
   have b := ((zCp W q).mp hq).2
   rw [he] at a
   have := W.inj _ _ _ a b
   omega
 have hlen : (zAZ M ow).length = hs.size := by
  have := hperm.length_eq
  rwa [List.length_map, List.length_range] at this
 refine ⟨{ mask := M, place := ((zAZ M ow).map (·.1)).toArray, dummies := #[], finger := fi, led := le, moves := mo, plain := pl }, ((zAZ M ow).map (·.2)).toArray, ?_, hperm, ?_, rfl, rfl⟩
 ·unfold laid
  rw [h1]
  rfl
 ·refine ⟨g, rfl, ?_, ?_, ?_, ?_, ?_⟩
  ·show ((zAZ M ow).map (·.1)).length = (((zAZ M ow).map (·.2)).map fun i => hs.toList.getD i 0).length
   simp
  ·show Up ((zAZ M ow).map (·.1))
   unfold Up
   rw [List.pairwise_map]
   exact zGt M ow
  ·intro x hx
   have hx' : x ∈ (zAZ M ow).map (·.1) := hx
   obtain ⟨q, hq, rfl⟩ := List.mem_map.mp hx'
   exact ((zCp W q).mp hq).1
  ·show ((zAZ M ow).map (·.1)).length * 5 < M * 3
   rw [List.length_map, hlen]
   exact hl
  ·intro q hq
   have hq' : q ∈ ((zAZ M ow).map (·.1)).zip (((zAZ M ow).map (·.2)).map fun i => hs.toList.getD i 0) := hq
   rw [List.map_map, List.zip_map'] at hq'
   obtain ⟨p, hp, rfl⟩ := List.mem_map.mp hq'
   obtain ⟨a, b⟩ := (zCp W p).mp hp
   have hlt := W.lt _ _ b
   have hx : hs.toList[p.2]? = some (hs.toList.getD p.2 0) := by
    rw [List.getD_eq_getElem?_getD, List.getElem?_eq_getElem hlt]
    rfl
   obtain ⟨n, e, c⟩ := W.reach _ _ _ b hx
   refine ⟨n, e, fun m hm => ?_⟩
   obtain ⟨i, hi⟩ := c m hm
   show (P M (hs.toList.getD p.2 0) m).j ∈ (zAZ M ow).map (·.1)
   exact List.mem_map.mpr ⟨((P M (hs.toList.getD p.2 0) m).j, i), (zCp W _).mpr ⟨P_le _ _ _, hi⟩, rfl⟩
theorem zJk {t : SetTable} {hs : Array Int} {wanted M : Nat} (hM : sizeAbove wanted - 1 = M) (g : Good M) (hl : hs.size * 5 < M * 3) :
  ∃ t' order, t.relaid hs wanted = some (t', order) /\ List.Perm order.toList (List.range hs.size) /\ TOk t' (order.toList.map fun i => hs.toList.getD i 0) /\ t'.led = t.led /\ t'.plain = t.plain := by
 unfold relaid
 rw [hM]
 exact zLd _ _ _ _ g hl
end ST
namespace ST
open PySem PySem.SetTable
section
variable {prog : Program} {w : World} {A : Around} {E : Value -> Shared -> Prop} {s : Shared}
abbrev TK (prog : Program) (w : World) (h : Heap) (k : List Int) (a : Addr) : Prop := IsTupleKey (intKind prog w) h k a
abbrev TH (prog : Program) (w : World) (k : List Int) : Int := tupleKeyHash (intKind prog w) k
theorem items_int {ks : List Int} {vs : List Value} (h : ItemsAre (intKind prog w) ks vs) : ∀ v ∈ vs, ∃ i t, v = .int i t := by
 induction h with
 | nil => intro v hv; simp at hv
 | @cons k v' ks vs h1 _ ih =>
  intro v hv
  rcases List.mem_cons.mp hv with rfl | hv
  ·obtain ⟨t, e⟩ := Value.isInt_shape h1
   exact ⟨k, t, e⟩
  ·exact ih v hv
theorem zHB {k : List Int} {a : Addr} {Q : Bool -> Shared -> Prop} (hk : TK prog w s.heap k a) (h : Q false s) : wpAny (model prog w) A (ofAClassStatement 8 (.ref a)) Q E s := by
 have hT := hk.typeIs
 obtain ⟨o, items, n, ho, _, hd, hi⟩ := hk
 have hv := items_int hi
 unfold ofAClassStatement
 refine wpAny_bind (wpAny_typeOf hT ?_)
 show wpAny _ _ (do let underTuple <- (if ("tuple" == "tuple") = true then pure true else isSubtype (.type "tuple") (.type "tuple")); _) Q E s
 refine wpAny_bind ?_
 rw [if_pos (by decide)]
 refine wpAny_pure ?_
 simp only [Bool.not_true, Bool.false_eq_true, if_false]
 refine wpAny_bind (wpAny_seqItems ho hd ?_)
 dsimp only
 refine wpAny_bind ?_
 rw [<- Array.forIn_toList]
 refine wpAny_forIn_list _ (fun rest r s' => r.1 = none /\ s' = s /\ ∀ v ∈ rest, ∃ i t, v = Value.int i t) _ ?_ ?_ _ _ ⟨rfl, rfl, hv⟩
 ·rintro v rest r s' ⟨hr, rfl, hall⟩
  obtain ⟨i, t, rfl⟩ := hall v List.mem_cons_self
  refine wpAny_bind ?_
  unfold ofAClassStatement
  refine wpAny_pure ?_
  simp only [Bool.false_eq_true, if_false]
  exact wpAny_pure ⟨rfl, rfl, fun u hu' => hall u (List.mem_cons_of_mem _ hu')⟩
 ·rintro ⟨r1, r2⟩ s' ⟨hr, rfl, _⟩
  simp only at hr
  subst hr
  exact wpAny_pure h
theorem zLp {k : List Int} {a : Addr} {Q : Bool -> Shared -> Prop} (hk : TK prog w s.heap k a) (h : Q true s) : wpAny (model prog w) A (hashByValue 8 (.ref a)) Q E s := by
 have hT := hk.typeIs
 obtain ⟨o, items, n, ho, _, hd, hi⟩ := hk
 have hv := items_int hi
 unfold hashByValue
 refine wpAny_bind (wpAny_specialOf hT F.slot_tuple_hash.lookup ?_)
 dsimp only
 refine wpAny_bind (wpAny_seqItems ho hd ?_)
 refine wpAny_bind ?_
 show wpAny _ _ (forIn items _ _) _ _ s
 rw [<- Array.forIn_toList]
 refine wpAny_forIn_list _ (fun rest r s' => r.1 = none /\ s' = s /\ ∀ v ∈ rest, ∃ i t, v = Value.int i t) _ ?_ ?_ _ _ ⟨rfl, rfl, hv⟩
 ·rintro v rest r s' ⟨hr, rfl, hall⟩
  obtain ⟨i, t, rfl⟩ := hall v List.mem_cons_self
  refine wpAny_bind ?_
  unfold hashByValue
  refine wpAny_pure ?_
  simp only [Bool.not_true, Bool.false_eq_true, if_false]
  exact wpAny_pure ⟨rfl, rfl, fun u hu' => hall u (List.mem_cons_of_mem _ hu')⟩
 ·rintro ⟨r1, r2⟩ s' ⟨hr, rfl, _⟩
  simp only at hr
  subst hr
  exact wpAny_pure h
theorem zKh {k : List Int} {a : Addr} {stored : List Value} {Q : Bool -> Shared -> Prop} (hk : TK prog w s.heap k a) (hs : ∀ y ∈ stored, ∃ k' b, y = .ref b /\ TK prog w s.heap k' b) (h : Q false s) :
  wpAny (model prog w) A (searchCouldBeSeen (.ref a) stored) Q E s := by
 unfold searchCouldBeSeen
 refine wpAny_bind ?_
 refine wpAny_forIn_list _ (fun rest r s' => r.1 = none /\ s' = s /\ ∀ y ∈ rest, ∃ k' b, y = .ref b /\ TK prog w s.heap k' b) _ ?_ ?_ _ _ ⟨rfl, rfl, hs⟩
 ·rintro v rest r s' ⟨hr, rfl, hall⟩
  have hrest : ∀ y ∈ rest, ∃ k' b, y = .ref b /\ TK prog w s'.heap k' b := fun u hu' => hall u (List.mem_cons_of_mem _ hu')
  obtain ⟨k', b, rfl, hb⟩ := hall v List.mem_cons_self
  dsimp only
  by_cases c : (a == b) = true
  ·rw [c]
   simp only [Bool.true_or, if_true]
   exact wpAny_pure ⟨rfl, rfl, hrest⟩
  ·rw [if_neg (by simp [carriedByValue, c])]
   refine wpAny_bind (wpAny_eqIsQuiet_tuple hk ?_)
   simp only [Bool.not_true, Bool.false_eq_true, if_false]
   refine wpAny_bind (wpAny_eqIsQuiet_tuple hb ?_)
   simp only [Bool.not_true, Bool.false_eq_true, if_false]
   refine wpAny_bind (zHB hk ?_)
   simp only [Bool.false_eq_true, if_false]
   refine wpAny_bind (zHB hb ?_)
   simp only [Bool.false_eq_true, if_false]
   exact wpAny_pure ⟨rfl, rfl, hrest⟩
 ·rintro ⟨r1, r2⟩ s' ⟨hr, rfl, _⟩
  simp only at hr
  subst hr
  exact wpAny_pure h
end
end ST
namespace ST
open PySem PySem.SetTable
section
variable {prog : Program} {w : World} {A : Around} {E : Value -> Shared -> Prop} {s : Shared}
inductive Ents (prog : Program) (w : World) (h : Heap) : List (Int × Value) -> List (List Int) -> Prop
 | nil : Ents prog w h [] []
 | cons {k : List Int} {b : Addr} {es : List (Int × Value)} {ks : List (List Int)} : TK prog w h k b -> Ents prog w h es ks -> Ents prog w h ((TH prog w k, .ref b) :: es) (k :: ks)
theorem Ents.at {h : Heap} {es : List (Int × Value)} {ks : List (List Int)} (X : Ents prog w h es ks) : ∀ {i : Nat} {e : Int × Value}, es[i]? = some e -> ∃ k b, ks[i]? = some k /\ e = (TH prog w k, .ref b) /\ TK prog w h k b := by
 induction X with
 | nil => intro i e h; simp at h
 | @cons k b es ks h1 _ ih =>
  intro i e h
  cases i with
  | zero => cases h; exact ⟨k, b, rfl, rfl, h1⟩
  | succ i => exact ih (i := i) (by simpa using h)
theorem Ents.length {h : Heap} {es : List (Int × Value)} {ks : List (List Int)} (X : Ents prog w h es ks) : es.length = ks.length := by
 induction X with
 | nil => rfl
 | cons _ _ ih => simp [ih]
theorem Ents.append {h : Heap} {es es' : List (Int × Value)} {ks ks' : List (List Int)} (X : Ents prog w h es ks) (Y : Ents prog w h es' ks') : Ents prog w h (es ++ es') (ks ++ ks') := by
 induction X with
 | nil => exact Y
 | cons h1 _ ih => exact .cons h1 ih
theorem Ents.take {h : Heap} {es : List (Int × Value)} {ks : List (List Int)} (X : Ents prog w h es ks) : ∀ n, Ents prog w h (es.take n) (ks.take n) := by
 induction X with
 | nil => intro n; simpa using Ents.nil
 | cons h1 _ ih =>
  intro n
  cases n with
  | zero => exact .nil
  | succ n => exact .cons h1 (ih n)
theorem Ents.drop {h : Heap} {es : List (Int × Value)} {ks : List (List Int)} (X : Ents prog w h es ks) : ∀ n, Ents prog w h (es.drop n) (ks.drop n) := by
 induction X with
 | nil => intro n; simpa using Ents.nil
 | @cons k b es ks h1 hr ih =>
  intro n
  cases n with
  | zero => exact .cons h1 hr
  | succ n => exact ih n
theorem Ents.mono {h h' : Heap} {es : List (Int × Value)} {ks : List (List Int)} (X : Ents prog w h es ks) (m : ∀ k b, TK prog w h k b -> TK prog w h' k b) : Ents prog w h' es ks := by
 induction X with
 | nil => exact .nil
 | cons h1 _ ih => exact .cons (m _ _ h1) ih
theorem Ents.pick {h : Heap} {es : List (Int × Value)} {ks : List (List Int)} (X : Ents prog w h es ks) : ∀ (l : List Nat), (∀ i ∈ l, i < es.length) -> Ents prog w h (l.filterMap (es[·]?)) (l.filterMap (ks[·]?)) := by
 intro l
 induction l with
 | nil => intro _; exact .nil
 | cons i l ih =>
  intro hl
  have hi := hl i List.mem_cons_self
  obtain ⟨k, b, h1, h2, h3⟩ := X.at (List.getElem?_eq_getElem hi)
  rw [List.filterMap_cons_some (b := (TH prog w k, Value.ref b)) (by rw [List.getElem?_eq_getElem hi, h2]), List.filterMap_cons_some (b := k) h1]
  exact .cons h3 (ih fun j hj => hl j (List.mem_cons_of_mem _ hj))
theorem TOk.fits {t : SetTable} {hs : List Int} (T : TOk t hs) {n : Nat} (e : hs.length = n) : t.fits n = true := by
 have h1 := T.len
 have h2 := T.room
 rw [Array.length_toList] at h1 h2
 unfold SetTable.fits SetTable.fill
 rw [T.dum, h1, e]
 rw [h1] at h2
 simp only [Bool.and_eq_true, beq_iff_eq, decide_eq_true_eq]
 refine ⟨?_, ?_⟩
 ·trivial
 ·show n + 0 <= t.mask
  omega
theorem TOk.odd {t : SetTable} {hs : List Int} (T : TOk t hs) : t.gaveWay = false := by
 unfold SetTable.gaveWay
 rcases T.good with h | h | h | h | h | h <;> rw [h] <;> rfl
theorem zI6 {a x : Addr} {o : Obj} {es : Array (Int × Value)} {ep : Nat} {t : SetTable} {ks : List (List Int)} {k : List Int} {n : Nat} {Q : SetFound -> Shared -> Prop}
  (hu : A.units < cLine) (ho : s.heap.get? a = some o) (hd : o.data = .set es ep t) (T : TOk t (es.toList.map (·.1))) (X : Ents prog w s.heap es.toList ks) (hk : TK prog w s.heap k x)
  (h1 : (P t.mask (TH prog w k) n).j ∉ t.place.toList) (h2 : ∀ m, m < n -> (P t.mask (TH prog w k) m).j ∈ t.place.toList)
  (q1 : k ∈ ks -> Q (.there none) s) (q2 : k ∉ ks -> Q (.free (P t.mask (TH prog w k) n).j false) s) :
  ∀ fuel c, c <= n -> n < 10 * turns t.mask -> n - c < fuel -> (∀ m, m < c -> ∀ i, t.slot (P t.mask (TH prog w k) m).j = .live i -> ks[i]? ≠ some k) -> ∀ stand : Option Probe, stand.getD (t.probeStart (TH prog w k)) = P t.mask (TH prog w k) c ->
  wpAny (model prog w) A (setSearchFrom a (.ref x) (TH prog w k) true fuel stand) Q E s
 | 0, c, _, _, hf, _, _, _ => absurd hf (Nat.not_lt_zero _)
 | fuel + 1, c, hc, hN, hf, inv, stand, hst => by
  have hfit : t.fits es.size = true := T.fits (by simp)
  unfold setSearchFrom
  refine wpAny_bind (wpAny_setState_of ho hd hfit ?_)
  dsimp only
  rw [hst, if_neg (by rw [T.odd]; exact Bool.false_ne_true)]
  refine wpAny_bind (wpAny_pure ?_)
  generalize hg : t.probe _ (TH prog w k) (P t.mask (TH prog w k) c) = met
  obtain ⟨f, hfe, hg⟩ : ∃ f : Nat -> Int, (∀ i, f i = (es[i]?.map (·.1)).getD 0) /\ t.probe f (TH prog w k) (P t.mask (TH prog w k) c) = met := ⟨_, fun _ => rfl, hg⟩
  have key : ∀ m i, t.slot (P t.mask (TH prog w k) m).j = .live i -> f i ≠ TH prog w k -> ks[i]? ≠ some k := fun m i hi hne hki => by
   have hp := zIm T.dum T.up hi
   have hl : i < es.toList.length := by
    have := (List.getElem?_eq_some_iff.mp hp).1
    rw [T.len] at this
    simpa using this
   obtain ⟨k', b, e1, e2, e3⟩ := X.at (List.getElem?_eq_getElem hl)
   rw [hki] at e1
   cases e1
   apply hne
   rw [hfe, <- Array.getElem?_toList, List.getElem?_eq_getElem hl, e2]
   rfl
  have hgo := zIU (hashAt := f) T h1 h2 (10 * turns t.mask) c hc (by omega)
  rcases hgo with ⟨g1, g2⟩ | ⟨m, i, g1, g2, g3, g4, g5, g6⟩
  ·have : met = some (.empty (P t.mask (TH prog w k) n).j none) := hg.symm.trans g1
   subst this
   dsimp only
   refine wpAny_pure (q2 fun hmem => ?_)
   obtain ⟨i, hi⟩ := List.getElem?_of_mem hmem
   have hl : i < es.toList.length := by rw [X.length]; exact (List.getElem?_eq_some_iff.mp hi).1
   obtain ⟨k', b, e1, e2, e3⟩ := X.at (List.getElem?_eq_getElem hl)
   rw [hi] at e1
   cases e1
   have hpl : i < t.place.toList.length := by rw [T.len]; simpa using hl
   obtain ⟨m, hm, hj⟩ := met T h1 (List.getElem?_eq_getElem hpl) (h := TH prog w k) (by rw [List.getElem?_map, List.getElem?_eq_getElem hl, e2]; rfl)
   obtain ⟨i', hs1, hs2⟩ | ⟨_, hs2⟩ := zDH T.dum T.up (P t.mask (TH prog w k) m).j
   ·have hii : i' = i := by
     rw [hj] at hs2
     have a1 := List.getElem?_eq_getElem hpl
     by_cases l1 : i' < i
     ·have := T.up.at hs2 a1 l1; omega
     ·by_cases l2 : i < i'
      ·have := T.up.at a1 hs2 l2; omega
      ·omega
    subst hii
    by_cases cm : m < c
    ·exact inv m cm i' hs1 hi
    ·exact key m i' hs1 (g2 m (by omega) hm i' hs1) hi
   ·rw [hj] at hs2
    exact hs2 (List.getElem_mem _)
  ·have : met = some (.candidate (P t.mask (TH prog w k) m).j i (P t.mask (TH prog w k) (m + 1))) := hg.symm.trans g6
   subst this
   have hp := zIm T.dum T.up g3
   have hl : i < es.toList.length := by
    have := (List.getElem?_eq_some_iff.mp hp).1
    rw [T.len] at this
    simpa using this
   obtain ⟨k', b, e1, e2, e3⟩ := X.at (List.getElem?_eq_getElem hl)
   have hei : es[i]? = some (TH prog w k', .ref b) := by rw [<- Array.getElem?_toList, List.getElem?_eq_getElem hl, e2]
   dsimp only
   have hseen : ∀ y ∈ (es.filter (fun x => x.1 == TH prog w k)).toList.map (fun x => x.2), ∃ k' b, y = .ref b /\ TK prog w s.heap k' b := fun y hy => by
    obtain ⟨e, he, rfl⟩ := List.mem_map.mp hy
    have he' : e ∈ es.toList := by
     rw [Array.toList_filter] at he
     exact (List.mem_filter.mp he).1
    obtain ⟨i2, hi2⟩ := List.getElem?_of_mem he'
    obtain ⟨k2, b2, _, z2, z3⟩ := X.at hi2
    exact ⟨k2, b2, by rw [z2], z3⟩
   split
   all_goals try (refine wpAny_bind (zKh hk hseen ?_); rw [if_neg Bool.false_ne_true])
   all_goals
    rw [hei]
    dsimp only
    refine wpAny_bind (wpAny_holding (wpAny_eqBool_tuple hu e3 hk ?_))
    refine wpAny_bind (wpAny_setState_of ho hd hfit ?_)
    dsimp only
    by_cases hkk : k' = k
    ·rw [if_pos (by simp [hkk])]
     exact wpAny_pure (q1 (hkk ▸ List.mem_of_getElem? e1))
    ·rw [if_neg (by simp [hkk]), show t.sameMemory t.moves t.mask = some true by unfold sameMemory; simp]
     dsimp only
     rw [if_pos rfl, g3]
     dsimp only
     rw [hei]
     dsimp only
     refine wpAny_bind (wpAny_isSame_ref_self ?_)
     simp only [if_true]
     refine wpAny_bind (wpAny_pure ?_)
     dsimp only
     rw [if_neg (by simp [hkk])]
     refine zI6 hu ho hd T X hk h1 h2 q1 q2 fuel (m + 1) (by omega) hN (by omega) (fun m' hm' i' hi' => ?_) _ rfl
     by_cases l1 : m' < c
     ·exact inv m' l1 i' hi'
     ·by_cases l2 : m' = m
      ·subst l2
       rw [g3] at hi'
       cases hi'
       rw [e1]
       exact fun e => hkk (Option.some.inj e)
      ·exact key m' i' hi' (g5 m' (by omega) (by omega) i' hi')
end
end ST
namespace ST
open PySem PySem.SetTable
section
variable {prog : Program} {w : World} {A : Around} {E : Value -> Shared -> Prop} {s : Shared}
theorem TK.keep {h h' : Heap} {a b : Addr} {o : Obj} {es : Array (Int × Value)} {ep : Nat} {t : SetTable} {k : List Int} (ho : h.get? a = some o) (hd : o.data = .set es ep t) (hs : Heap.SameBut a h h') (x : TK prog w h k b) : TK prog w h' k b := by
 obtain ⟨o', items, n, ho', hc, hd', hi⟩ := x
 have hne : b ≠ a := by
  rintro rfl
  obtain rfl : o' = o := Option.some.inj (ho'.symm.trans ho)
  rw [hd] at hd'; exact nomatch hd'
 exact ⟨o', items, n, (hs.2 b hne).trans ho', hc, hd', hi⟩
noncomputable def ledW (w : World) : Bool := !w.params.followText "set-order"
noncomputable def SetT (prog : Program) (w : World) (V : Value -> Prop) (h : Heap) (a : Addr) (ks : List (List Int)) : Prop :=
 ∃ o es ep t, h.get? a = some o /\ o.ExactSet /\ o.data = .set es ep t /\ TOk t (es.toList.map (·.1)) /\ (t.plain = true /\ t.led = ledW w) /\ Ents prog w h es.toList ks /\ ks.Nodup /\ ∀ e ∈ es.toList, V e.2
theorem zIB (es : List (Int × Value)) : ∀ l : List Nat, (∀ i ∈ l, i < es.length) -> (l.filterMap (es[·]?)).map (·.1) = l.map fun i => (es.map (·.1)).getD i 0
 | [], _ => rfl
 | i :: l, h => by
  have hi := h i List.mem_cons_self
  rw [List.filterMap_cons_some (b := es[i]) (List.getElem?_eq_getElem hi), List.map_cons, List.map_cons, zIB es l fun j hj => h j (List.mem_cons_of_mem _ hj)]
  congr 1
  rw [List.getD_eq_getElem?_getD, List.getElem?_map, List.getElem?_eq_getElem hi]
  rfl
theorem zOF {t : SetTable} {hs : List Int} (T : TOk t hs) (hf : (t.place.toList.length + 1) * 5 >= t.mask * 3) (h76 : t.place.toList.length + 1 <= 76) :
  ∃ M, sizeAbove (grown (t.place.toList.length + 1)) - 1 = M /\ Good M /\ (t.place.toList.length + 1) * 5 < M * 3 /\ ¬ sizeAbove (grown (t.place.toList.length + 1)) > sizeLine := by
 have hr := T.room
 rcases T.good with g | g | g | g | g | g
 ·rw [g] at hr hf
  have e : t.place.toList.length + 1 = 5 := by omega
  rw [e]
  exact ⟨31, by decide, .inr (.inl rfl), by decide, by rw [sizeLine_eq]; decide⟩
 ·rw [g] at hr hf
  have e : t.place.toList.length + 1 = 19 := by omega
  rw [e]
  exact ⟨127, by decide, .inr (.inr (.inl rfl)), by decide, by rw [sizeLine_eq]; decide⟩
 ·rw [g] at hr hf
  omega
 ·rw [g] at hr hf
  have e : t.place.toList.length + 1 = 9 := by omega
  rw [e]
  exact ⟨63, by decide, .inr (.inr (.inr (.inr (.inl rfl)))), by decide, by rw [sizeLine_eq]; decide⟩
 ·rw [g] at hr hf
  have e : t.place.toList.length + 1 = 38 := by omega
  rw [e]
  exact ⟨255, by decide, .inr (.inr (.inr (.inr (.inr rfl)))), by decide, by rw [sizeLine_eq]; decide⟩
 ·rw [g] at hr hf
  omega
theorem zKc {V : Value -> Prop} {a : Addr} {o : Obj} {es : Array (Int × Value)} {ep : Nat} {t : SetTable} {ks : List (List Int)} {wanted M : Nat} {Q : Unit -> Shared -> Prop}
  (ho : s.heap.get? a = some o) (hex : o.ExactSet) (hd : o.data = .set es ep t) (hfit : t.fits es.size = true) (hp : t.plain = true /\ t.led = ledW w) (X : Ents prog w s.heap es.toList ks) (hnd : ks.Nodup) (hV : ∀ e ∈ es.toList, V e.2)
  (hM : sizeAbove wanted - 1 = M) (g : Good M) (hl : es.size * 5 < M * 3) (hz : ¬ sizeAbove wanted > sizeLine) (hsz : es.size <= sizeLine)
  (h : ∀ h' ks', Heap.SameBut a s.heap h' -> SetT prog w V h' a ks' -> List.Perm ks' ks -> Q () { s with heap := h' }) :
  wpAny (model prog w) A (setRelay a wanted) Q E s := by
 obtain ⟨t', order, r1, r2, r3, r4, r5⟩ := zJk (t := t) (hs := es.map (·.1)) hM g (by simpa using hl)
 have hlt : ∀ i ∈ order.toList, i < es.toList.length := fun i hi => by
  have := List.mem_range.mp (r2.mem_iff.mp hi)
  simpa using this
 have hes : (order.filterMap (es[·]?)).toList = order.toList.filterMap (es.toList[·]?) := by
  rw [Array.toList_filterMap]
  congr 1
  funext i
  rw [Array.getElem?_toList]
 have hperm : List.Perm (order.filterMap (es[·]?)).toList es.toList := by
  rw [Array.toList_filterMap]
  refine (r2.filterMap _).trans ?_
  rw [Array.size_map, filterMap_getElem?_range]
 have hsize : (order.filterMap (es[·]?)).size = es.size := by rw [<- Array.length_toList, hperm.length_eq, Array.length_toList]
 unfold setRelay
 refine wpAny_bind (wpAny_setState_of ho hd hfit ?_)
 dsimp only
 rw [if_neg hz]
 rw [r1]
 refine wpAny_bind ?_
 show wpAny _ _ (if ((order.filterMap (es[·]?)).size != es.size) = true then _ else pure (order.filterMap (es[·]?), t')) _ _ s
 rw [if_neg (by simp [hsize])]
 refine wpAny_pure ?_
 dsimp only
 refine wpAny_storeSet_of ho hd ?_ (by rw [hsize]; exact hsz)
 have hg : (s.heap.update a (Obj.putSet (order.filterMap (es[·]?)) t')).get? a = some { o with data := .set (order.filterMap (es[·]?)) (ep + 1) t' } := by
  have := Heap.get?_update_self (Obj.putSet (order.filterMap (es[·]?)) t') ho (by rw [putSet_of _ t' hd]; rfl)
  rw [putSet_of _ t' hd] at this; exact this
 have hsb := Heap.SameBut.update s.heap a (Obj.putSet (order.filterMap (es[·]?)) t')
 refine h _ (order.toList.filterMap (ks[·]?)) hsb ⟨_, _, _, t', hg, hex, rfl, ?_, ⟨by rw [r5]; exact hp.1, by rw [r4]; exact hp.2⟩, ?_, ?_, fun e he => hV e (hperm.mem_iff.mp he)⟩ ?_
 ·rw [hes, zIB _ _ hlt]
  simpa using r3
 ·rw [hes]
  exact (X.pick _ hlt).mono fun k b => TK.keep ho hd hsb
 ·have : List.Perm (order.toList.filterMap (ks[·]?)) ks := by
   refine (r2.filterMap _).trans ?_
   rw [Array.size_map, <- Array.length_toList, X.length, List.filterMap_getElem?_range_length]
  exact this.nodup_iff.mpr hnd
 ·refine (r2.filterMap _).trans ?_
  rw [Array.size_map, <- Array.length_toList, X.length, List.filterMap_getElem?_range_length]
theorem zNo {V : Value -> Prop} {a x : Addr} {ks : List (List Int)} {k : List Int} {Q : Bool -> Shared -> Prop} (hu : A.units < cLine) (S : SetT prog w V s.heap a ks) (hk : TK prog w s.heap k x) (hx : V (.ref x)) (h76 : ks.length + 1 <= 76)
  (q1 : k ∈ ks -> Q false s) (q2 : k ∉ ks -> ∀ h' ks', Heap.SameBut a s.heap h' -> SetT prog w V h' a ks' -> List.Perm ks' (k :: ks) -> Q true { s with heap := h' }) :
  wpAny (model prog w) A (setAddHashed a (.ref x) (TH prog w k)) Q E s := by
 obtain ⟨o, es, ep, t, ho, hex, hd, T, hp, X, hnd, hV⟩ := S
 have hfit : t.fits es.size = true := T.fits (by simp)
 have hlen : t.place.toList.length = ks.length := by rw [T.len, List.length_map, X.length]
 have hes : es.size = ks.length := by rw [<- X.length, Array.length_toList]
 have hroom := T.room
 obtain ⟨n, n1, n2, n3⟩ := zNy (l := t.place.toList) T.good (by omega) (TH prog w k)
 have hM : t.mask <= 255 := by rcases T.good with g | g | g | g | g | g <;> omega
 unfold setAddHashed setAddHashedIn
 refine wpAny_holding (wpAny_bind (wpAny_setState_of ho hd hfit ?_))
 dsimp only
 rw [if_neg (by simp [byScan, Value.scannable])]
 refine wpAny_bind ?_
 unfold setSearch
 refine zI6 hu ho hd T X hk n2 n3 ?_ ?_ 100000 0 (Nat.zero_le _) n1 (by unfold turns at n1; omega) (fun m hm => absurd hm (Nat.not_lt_zero _)) none rfl
 ·intro hmem
  exact wpAny_pure (q1 hmem)
 ·intro hmem
  dsimp only
  refine wpAny_bind (wpAny_setState_of ho hd hfit ?_)
  dsimp only
  rw [if_pos (show (t.put (P t.mask (TH prog w k) n).j).1.plain = true from hp.1)]
  refine wpAny_bind (zLp hk ?_)
  rw [if_pos rfl]
  have hesz : (insertAt es (t.put (P t.mask (TH prog w k) n).j).2 (TH prog w k, Value.ref x)).size = es.size + 1 := by
   rw [<- Array.length_toList, (SetTable.insertAt_perm _ _ _).length_eq]
   simp
  refine wpAny_bind (wpAny_storeSet_of ho hd ?_ (by rw [hesz, sizeLine_eq]; omega))
  have hg : (s.heap.update a (Obj.putSet (insertAt es (t.put (P t.mask (TH prog w k) n).j).2 (TH prog w k, Value.ref x)) (t.put (P t.mask (TH prog w k) n).j).1)).get? a = some { o with data := .set (insertAt es (t.put (P t.mask (TH prog w k) n).j).2 (TH prog w k, Value.ref x)) (ep + 1) (t.put (P t.mask (TH prog w k) n).j).1 } := by
   have := Heap.get?_update_self (Obj.putSet (insertAt es (t.put (P t.mask (TH prog w k) n).j).2 (TH prog w k, Value.ref x)) (t.put (P t.mask (TH prog w k) n).j).1) ho (by rw [putSet_of _ _ hd]; rfl)
   rw [putSet_of _ _ hd] at this; exact this
  have hsb := Heap.SameBut.update s.heap a (Obj.putSet (insertAt es (t.put (P t.mask (TH prog w k) n).j).2 (TH prog w k, Value.ref x)) (t.put (P t.mask (TH prog w k) n).j).1)
  have X2 : Ents prog w (s.heap.update a (Obj.putSet (insertAt es (t.put (P t.mask (TH prog w k) n).j).2 (TH prog w k, Value.ref x)) (t.put (P t.mask (TH prog w k) n).j).1)) (insertAt es (t.put (P t.mask (TH prog w k) n).j).2 (TH prog w k, Value.ref x)).toList (ks.take (t.put (P t.mask (TH prog w k) n).j).2 ++ k :: ks.drop (t.put (P t.mask (TH prog w k) n).j).2) := by
   rw [zCg]
   exact ((X.take _).append (.cons hk (X.drop _))).mono fun k b => TK.keep ho hd hsb
  have hkp : List.Perm (ks.take (t.put (P t.mask (TH prog w k) n).j).2 ++ k :: ks.drop (t.put (P t.mask (TH prog w k) n).j).2) (k :: ks) := by
   refine List.perm_middle.trans ?_
   rw [List.take_append_drop]
  have hnd2 : (ks.take (t.put (P t.mask (TH prog w k) n).j).2 ++ k :: ks.drop (t.put (P t.mask (TH prog w k) n).j).2).Nodup := hkp.nodup_iff.mpr (List.nodup_cons.mpr ⟨hmem, hnd⟩)
  have hV2 : ∀ e ∈ (insertAt es (t.put (P t.mask (TH prog w k) n).j).2 (TH prog w k, Value.ref x)).toList, V e.2 := fun e he => by
   have := (SetTable.insertAt_perm es (t.put (P t.mask (TH prog w k) n).j).2 (TH prog w k, Value.ref x)).mem_iff.mp he
   rw [Array.toList_push, List.mem_append, List.mem_singleton] at this
   rcases this with h | rfl
   ·exact hV e h
   ·exact hx
  have hfill : (t.put (P t.mask (TH prog w k) n).j).1.fill = t.place.toList.length + 1 := by
   show (insertAt t.place (below t.place (P t.mask (TH prog w k) n).j) (P t.mask (TH prog w k) n).j).size + (if has t.dummies _ = true then _ else t.dummies).size = _
   rw [T.dum, <- Array.length_toList, (SetTable.insertAt_perm _ _ _).length_eq]
   simp [has]
  have hfit2 : (t.put (P t.mask (TH prog w k) n).j).1.fits (insertAt es (t.put (P t.mask (TH prog w k) n).j).2 (TH prog w k, Value.ref x)).size = true := by
   unfold SetTable.fits
   rw [hfill, hesz]
   have : (t.put (P t.mask (TH prog w k) n).j).1.place.size = es.size + 1 := by
    show (insertAt t.place (below t.place (P t.mask (TH prog w k) n).j) (P t.mask (TH prog w k) n).j).size = _
    rw [<- Array.length_toList, (SetTable.insertAt_perm _ _ _).length_eq]
    simp
    rw [<- Array.length_toList, hlen, hes]
   rw [this]
   simp only [beq_self_eq_true, Bool.true_and, decide_eq_true_eq]
   show t.place.toList.length + 1 <= t.mask
   omega
  by_cases hfull : (t.put (P t.mask (TH prog w k) n).j).1.tooFull = true
  ·rw [hfull]
   simp only [Bool.not_false, Bool.and_self, if_true]
   have hf5 : (t.place.toList.length + 1) * 5 >= t.mask * 3 := by
    unfold SetTable.tooFull at hfull
    rw [hfill] at hfull
    exact of_decide_eq_true hfull
   obtain ⟨M, m1, m2, m3, m4⟩ := zOF T hf5 (by omega)
   refine wpAny_bind (zKc (V := V) hg hex rfl hfit2 hp X2 hnd2 hV2 (M := M) ?_ m2 ?_ ?_ ?_ ?_)
   ·rw [hes, <- hlen]; exact m1
   ·rw [hesz, hes, <- hlen]; exact m3
   ·rw [hes, <- hlen]; exact m4
   ·rw [hesz, sizeLine_eq]; omega
   ·intro h' ks' hsb' S' pk
    exact wpAny_pure (q2 hmem h' ks' (hsb.trans hsb') S' (pk.trans hkp))
  ·rw [Bool.not_eq_true] at hfull
   rw [hfull]
   simp only [Bool.and_false, Bool.false_eq_true, if_false]
   have hf5 : (t.place.toList.length + 1) * 5 < t.mask * 3 := by
    unfold SetTable.tooFull at hfull
    rw [hfill] at hfull
    have := of_decide_eq_false hfull
    have e : (t.put (P t.mask (TH prog w k) n).j).1.mask = t.mask := rfl
    rw [e] at this
    omega
   have T2 := zKB T n2 n3 hf5 t.plain
   refine wpAny_bind (wpAny_pure (wpAny_pure (q2 hmem _ _ hsb ⟨_, _, _, _, hg, hex, rfl, ?_, hp, X2, hnd2, hV2⟩ hkp)))
   rw [zCg, List.map_append, List.map_cons, List.map_take, List.map_drop]
   exact T2
end
end ST
namespace ST
open PySem PySem.SetTable PyProof.Rows
section
variable {prog : Program} {w : World} {A : Around} {R : Result -> Shared -> Prop} {I : Addr} {fp wr : List Addr} {G : Array GenState -> Array GenState -> Prop} {n : Nat} {Pv : Nat -> Value -> Prop} {St : Nat -> Shared -> Prop} {V : Value -> Prop}
theorem TK.at {h h' : Heap} {k : List Int} {b : Addr} (x : TK prog w h k b) (e : ∀ o, h.get? b = some o -> h'.get? b = some o) : TK prog w h' k b := by
 obtain ⟨o, items, n, ho, r⟩ := x
 exact ⟨o, items, n, e o ho, r⟩
noncomputable def Keys (ks : List (List Int)) (val : Nat -> List Int) (i : Nat) : Prop := ∀ k, k ∈ ks ↔ ∃ j, j < i /\ val j = k
theorem zLM {ks : List (List Int)} {val : Nat -> List Int} {i : Nat} (h : Keys ks val i) (hn : ks.Nodup) : ks.length <= i := by
 have : ks ⊆ (List.range i).map val := fun k hk => by
  obtain ⟨j, hj, e⟩ := (h k).mp hk
  exact List.mem_map.mpr ⟨j, List.mem_range.mpr hj, e⟩
 have := List.Nodup.length_le_of_subset hn this
 simpa using this
theorem SetT.nodup {h : Heap} {a : Addr} {ks : List (List Int)} (S : SetT prog w V h a ks) : ks.Nodup := by
 obtain ⟨o, es, ep, t, ho, hex, hd, T, hp, X, hnd, hV⟩ := S
 exact hnd
theorem zJe (W : WalksS prog w A.in1 I fp wr G n Pv St) (S : Addr) (hSf : S ∉ fp) (hu : A.in1.units < cLine) (val : Nat -> List Int) (s0 : Heap)
  (hold : ∀ b o, s0.get? b = some o -> b ≠ S /\ b ∉ wr) (hval : ∀ i v, i < n -> Pv i v -> V v /\ ∃ b, v = .ref b /\ TK prog w s0 (val i) b) (hb : n <= 75) :
  ∀ (k i : Nat) (s : Shared) (ks : List (List Int)), n - i = k -> i <= n -> St i s -> (∀ b o, s0.get? b = some o -> s.heap.get? b = some o) ->
   SetT prog w (fun v => V v /\ ∃ k b, v = .ref b /\ TK prog w s0 k b) s.heap S ks -> Keys ks val i ->
   (∀ s' ks', Moved (S :: wr) G s s' -> (∀ b o, s0.get? b = some o -> s'.heap.get? b = some o) -> SetT prog w (fun v => V v /\ ∃ k b, v = .ref b /\ TK prog w s0 k b) s'.heap S ks' -> Keys ks' val n -> R (.ok (.ret .none)) s') ->
   codeAny (model prog w) A (.builtin "set.update.loop" ⟨[.ref S, .ref I], []⟩) R s := by
 have hSw : S ∉ wr := fun h => hSf (W.sub _ h)
 have hsub : ∀ b ∈ wr, b ∈ S :: wr := fun b hb => List.mem_cons_of_mem _ hb
 have hmv : ∀ (s s' : Shared) ks, Moved wr G s s' -> (∀ b o, s0.get? b = some o -> s.heap.get? b = some o) -> SetT prog w (fun v => V v /\ ∃ k b, v = .ref b /\ TK prog w s0 k b) s.heap S ks -> SetT prog w (fun v => V v /\ ∃ k b, v = .ref b /\ TK prog w s0 k b) s'.heap S ks := fun s s' ks hm h0 hS => by
  obtain ⟨o, es, ep, t, ho, hex, hd, T, hp, X, hnd, hV⟩ := hS
  refine ⟨o, es, ep, t, hm.heap S _ hSw ho, hex, hd, T, hp, ?_, hnd, hV⟩
  clear hd hex ho T hp
  have : ∀ e ∈ es.toList, ∃ k b, e.2 = .ref b /\ TK prog w s0 k b := fun e he => (hV e he).2
  revert this
  clear hV hnd
  generalize es.toList = l at X
  intro this
  induction X with
  | nil => exact .nil
  | @cons k b es ks h1 hr ih =>
   refine .cons ?_ (ih fun e he => this e (List.mem_cons_of_mem _ he))
   obtain ⟨k', b', e1, e2⟩ := this _ List.mem_cons_self
   have e1' : b = b' := by injection e1
   subst e1'
   obtain ⟨o', items, n', ho', r⟩ := e2
   refine h1.at fun o2 ho2 => ?_
   have := h0 b o' ho'
   rw [ho2] at this
   cases this
   exact hm.heap b _ (hold b _ ho').2 (h0 b _ ho')
 intro k
 induction k with
 | zero =>
  intro i s ks hk hi hst h0 hS hK hR
  have hin : i = n := by omega
  subst hin
  refine codeAny_builtin F.entry_set_update_loop ?_
  rw [Around.under_plainId F.plain_set_update_loop _]
  show wpAny _ A.in1 (pyNext (.ref I) >>= _) _ _ s
  refine wpAny_bind (W.done s _ _ hst fun s' hm => ?_)
  show wpAny _ A.in1 (ret Value.none) _ _ s'
  exact wpAny_pure (hR s' ks (hm.mono hsub) (fun b o e => hm.heap b o (hold b o e).2 (h0 b o e)) (hmv s s' ks hm h0 hS) hK)
 | succ k ih =>
  intro i s ks hk hi hst h0 hS hK hR
  have hlt : i < n := by omega
  refine codeAny_builtin F.entry_set_update_loop ?_
  rw [Around.under_plainId F.plain_set_update_loop _]
  show wpAny _ A.in1 (pyNext (.ref I) >>= _) _ _ s
  refine wpAny_bind (W.item i s _ _ hlt hst fun v s' hP hst' hm => ?_)
  obtain ⟨hVv, b, rfl, hb0⟩ := hval i v hlt hP
  have h0' : ∀ b o, s0.get? b = some o -> s'.heap.get? b = some o := fun b o e => hm.heap b o (hold b o e).2 (h0 b o e)
  have hb1 : TK prog w s'.heap (val i) b := hb0.at fun o e => h0' b o e
  have hS' := hmv s s' ks hm h0 hS
  show wpAny _ A.in1 (holding [Value.ref b] (setAdd S (.ref b)) >>= _) _ _ s'
  refine wpAny_bind (wpAny_holding ?_)
  unfold setAdd
  refine wpAny_holding ?_
  refine wpAny_bind (wpAny_pyHash_tuple hu hb1 ?_)
  have hlen := zLM hK hS.nodup
  have hmoved : ∀ (h' : Heap) (tk : Nat), s'.toks <= tk -> Heap.SameBut S s'.heap h' -> Moved (S :: wr) G s { s' with heap := h', toks := tk } := fun h' tk htk hsb =>
   (hm.mono hsub).then_heap htk fun b o hb e => by rw [hsb.2 b (fun h : b = S => hb (by rw [h]; exact List.mem_cons_self))]; exact e
  refine zNo (V := fun v => V v /\ ∃ k b, v = .ref b /\ TK prog w s0 k b) (s := { s' with toks := s'.toks + ((val i).length + 1) }) hu hS' hb1 ⟨hVv, val i, b, rfl, hb0⟩ (by omega) ?_ ?_
  ·intro hmem
   refine wpAny_pure ⟨plainId_quiet F.plain_set_update_loop _, ih (i + 1) _ ks (by omega) hlt (W.frame _ s' s'.heap _ hst' (Nat.le_add_right _ _) fun b hb o e => e) h0' hS' ?_ fun s'' ks'' hm'' h0'' hS'' hK'' => ?_⟩
   ·intro k'
    rw [hK k']
    constructor
    ·rintro ⟨j, hj, e⟩; exact ⟨j, by omega, e⟩
    ·rintro ⟨j, hj, e⟩
     by_cases c : j = i
     ·subst c; subst e; exact (hK _).mp hmem
     ·exact ⟨j, by omega, e⟩
   ·exact hR s'' ks'' (Moved.trans W.gtrans (hmoved s'.heap _ (Nat.le_add_right _ _) (Heap.SameBut.refl S _)) hm'') h0'' hS'' hK''
  ·intro hmem h' ks' hsb hS2 hp
   have h02 : ∀ b o, s0.get? b = some o -> h'.get? b = some o := fun b o e => by
    rw [hsb.2 b (hold b o e).1]; exact h0' b o e
   refine wpAny_pure ⟨plainId_quiet F.plain_set_update_loop _, ih (i + 1) _ ks' (by omega) hlt (W.frame _ s' _ _ hst' (Nat.le_add_right _ _) fun b hb o e => ?_) h02 hS2 ?_ fun s'' ks'' hm'' h0'' hS'' hK'' => ?_⟩
   ·rw [hsb.2 b (fun h : b = S => hSf (by rw [<- h]; exact hb))]; exact e
   ·intro k'
    rw [hp.mem_iff, List.mem_cons, hK k']
    constructor
    ·rintro (rfl | ⟨j, hj, e⟩)
     ·exact ⟨i, by omega, rfl⟩
     ·exact ⟨j, by omega, e⟩
    ·rintro ⟨j, hj, e⟩
     by_cases c : j = i
     ·subst c; exact .inl e.symm
     ·exact .inr ⟨j, by omega, e⟩
   ·exact hR s'' ks'' (Moved.trans W.gtrans (hmoved h' _ (Nat.le_add_right _ _) hsb) hm'') h0'' hS'' hK''
end
section
variable {prog : Program} {w : World} {A : Around} {E : Value -> Shared -> Prop} {s : Shared}
theorem zHn (a : Value) {Q₁ : Value -> Shared -> Prop}
  (h : Q₁ (.ref s.heap.objs.size) { s with heap := s.heap.push { cls := .type "set", dict := none, data := .set #[] 0 (.fresh 0 0 (ledW w)) } }) :
  codeAny (model prog w) A (.call (.builtin "set.__new__") ⟨[.type "set", a], []⟩) (wants Q₁ E) s := by
 refine codeAny_of_tree ?_
 show wpAny _ A.in1 (checkBuiltinCall "set.__new__" ⟨[.type "set", a], []⟩ >>= fun _ => again (.builtin "set.__new__" ⟨[.type "set", a], []⟩)) _ _ s
 refine wpAny_bind (wpAny_of_eq (F.newCall_set_1 a) (wpAny_pure ⟨plainId_quiet F.plain_set_new _, codeAny_builtin F.entry_set_new ?_⟩))
 rw [Around.under_plainId F.plain_set_new _]
 unfold Builtin.«set.__new__» Builtin.Frozenset.newClass
 have hsub := sub_set_self
 obtain ⟨hp, g, d, tk, os⟩ := s
 dsimp only
 wp_walk
 refine wpAny_askSetting (wpAny_pure ?_)
 dsimp only
 simp only [newObj]
 refine wpAny_bind (wpAny_alloc (wpAny_pure ?_))
 exact wpAny_pure h
theorem zKK : isSubtype (.type "tuple") (.type "set") = pure false := by rw [isSubtype_type]; kernel_rfl
theorem zKA : isSubtype (.type "tuple") (.type "frozenset") = pure false := by rw [isSubtype_type]; kernel_rfl
end
section
variable {prog : Program} {w : World} {A : Around} {E : Value -> Shared -> Prop} {s : Shared} {V : Value -> Prop}
theorem zKV {l : Addr} {items : Array Value} {kl : List (List Int)} {Q : Value -> Shared -> Prop}
  (hh : A.handled = none) (hu : A.units + 8 < cLine) (hl : s.heap.IsList l items) (hi : ∀ i v, items[i]? = some v -> V v /\ ∃ b, v = .ref b /\ TK prog w s.heap (kl.getD i []) b) (hb : items.size <= 75)
  (h : ∀ (h' : Heap) (tk : Nat) ks, SetT prog w V h' s.heap.objs.size ks -> Keys ks (fun i => kl.getD i []) items.size ->
   (∀ b o, s.heap.get? b = some o -> h'.get? b = some o) -> Q (.ref s.heap.objs.size) { s with heap := h', toks := tk }) :
  wpAny (model prog w) A (call (.type "set") [.ref l]) Q E s := by
 obtain ⟨c, tl, hmro⟩ := F.called_set.mro
 have hmade := F.called_set.made
 have hsub := F.called_set.sub
 refine wpAny_call (codeAny_of_tree ?_)
 show wpAny _ _ (callAny (.type "set") _) _ _ _
 refine wpAny_pure ⟨Code.quiet_builtin _ (by decide +kernel), codeAny_builtin F.entry_type_call ?_⟩
 rw [Around.under_plain (weight_type_call_type "set" [.ref l] []) rfl]
 have h1 := F.called_set.notType
 have h2 := F.called_set.canCreate
 have hct := F.typeCall_set_1 (.ref l)
 repeat (any_goals (first | assumption | wp_step))
 refine codeAny_mono (zHn (.ref l) (E := E) (Q₁ := fun obj s₁ => obj = .ref s.heap.objs.size /\ s₁ = { s with heap := s.heap.push { cls := .type "set", dict := none, data := .set #[] 0 (.fresh 0 0 (ledW w)) } }) ⟨rfl, rfl⟩) fun r s₁ hr => ?_
 cases r with
 | error e => exact hr
 | ok fl =>
  cases fl with
  | ret obj =>
   obtain ⟨rfl, rfl⟩ := hr
   have hS : (s.heap.push { cls := .type "set", dict := none, data := .set #[] 0 (.fresh 0 0 (ledW w)) }).get? s.heap.objs.size = some { cls := .type "set", dict := none, data := .set #[] 0 (.fresh 0 0 (ledW w)) } := Heap.get?_push_size _ rfl
   have hT : Shared.TypeIs { s with heap := s.heap.push { cls := .type "set", dict := none, data := .set #[] 0 (.fresh 0 0 (ledW w)) } } (.ref s.heap.objs.size) "set" := ⟨_, hS, rfl⟩
   have hli := F.called_set.init.lookup
   have hbi := F.called_set.init.bind (.ref s.heap.objs.size)
   repeat (any_goals (first | assumption | wp_step))
   refine codeAny_mono (codeAny_call_builtin (R := wants (fun r s₂ => r = .none /\ ∃ h' tk ks, s₂ = { s with heap := h', toks := tk } /\
     SetT prog w V h' s.heap.objs.size ks /\ Keys ks (fun i => kl.getD i []) items.size /\
     (∀ b o, s.heap.get? b = some o -> h'.get? b = some o)) E) F.called_set.init.plain F.entry_set_init (check_set_init_1 hT ?_)) fun r₂ s₂ hr₂ => ?_
   ·obtain ⟨ol, hol, hcl, nl, hdl⟩ := hl
    obtain ⟨ocls, odict, odata, oslots⟩ := ol
    simp only at hcl hdl
    subst hcl; subst hdl
    have hol' : (s.heap.push { cls := .type "set", dict := none, data := .set #[] 0 (.fresh 0 0 (ledW w)) }).get? l = some { cls := .type "list", dict := odict, data := .seq items nl, slots := oslots } := Heap.get?_push_of_some _ hol
    have hsls := F.sub_list_set
    have hslf := F.sub_list_frozenset
    have hne : (Value.type "list" == Value.type "dict") = false := by decide
    have hl1 : (s.heap.push { cls := .type "set", dict := none, data := .set #[] 0 (.fresh 0 0 (ledW w)) }).IsList l items := ⟨_, hol', rfl, nl, rfl⟩
    unfold Builtin.«set.__init__» noKeywords Builtin.Frozenset.updateFrom
    generalize hPI : pyIter = PI
    wp_walk
    subst hPI
    refine wpAny_pyIter_list hl1 ?_
    refine wpAny_bind (wpAny_runValue ?_)
    have hlS : l < s.heap.objs.size := Heap.lt_size hol
    have hh3 : A.in1.in1.in1.handled = none := by simp [hh]
    have hneI : l ≠ (s.heap.push { cls := .type "set", dict := none, data := .set #[] 0 (.fresh 0 0 (ledW w)) }).objs.size := by
     rw [Heap.size_push]; exact Nat.ne_of_lt (Nat.lt_succ_of_lt hlS)
    have hSf : s.heap.objs.size ∉ [(s.heap.push { cls := .type "set", dict := none, data := .set #[] 0 (.fresh 0 0 (ledW w)) }).objs.size, l] := by
     rw [Heap.size_push]; simp only [List.mem_cons, List.mem_singleton, List.not_mem_nil, or_false, not_or]
     exact ⟨Nat.ne_of_lt (Nat.lt_succ_self _), Nat.ne_of_gt hlS⟩
    have hunits : A.in1.in1.in1.units < cLine := by
     show A.units + 1 + 1 + 1 < cLine
     omega
    refine zJe (V := V) ((Walks.list hh3 _ l hneI items).toS) s.heap.objs.size
     hSf hunits (fun i => kl.getD i []) s.heap (fun b o e => ?_) (fun i v _ hv => hi i v hv) hb (items.size - 0) 0 _ [] (by omega) (Nat.zero_le _)
     ⟨⟨_, Heap.get?_push_size _ rfl, rfl, rfl⟩, (hl1.push _)⟩ (fun b o e => ?_) ?hS0 ?hK0 ?hR
    ·have hlt : b < s.heap.objs.size := Heap.lt_size e
     refine ⟨Nat.ne_of_lt hlt, fun hm => ?_⟩
     rw [Heap.size_push] at hm
     have : b = s.heap.objs.size + 1 := List.mem_singleton.mp hm
     rw [this] at hlt
     exact absurd hlt (Nat.not_lt.mpr (Nat.le_succ _))
    ·exact Heap.get?_push_of_some _ (Heap.get?_push_of_some _ e)
    case hS0 =>
     have hget : ((s.heap.push { cls := .type "set", dict := none, data := .set #[] 0 (.fresh 0 0 (ledW w)) }).push { cls := .type "list_iterator", data := .fields #[.ref l, .int 0 0] }).get? s.heap.objs.size
       = some { cls := .type "set", dict := none, data := .set #[] 0 (.fresh 0 0 (ledW w)) } := Heap.get?_push_of_some _ hS
     exact ⟨_, #[], 0, _, hget, ⟨rfl, rfl, rfl⟩, rfl, ⟨.inl rfl, rfl, rfl, List.Pairwise.nil, fun x hx => by simp [SetTable.fresh] at hx, (by show 0 * 5 < 7 * 3; decide), fun q hq => by simp at hq⟩, ⟨rfl, rfl⟩, .nil, List.nodup_nil, fun e he => by simp at he⟩
    case hK0 =>
     intro k
     simp
    case hR =>
     intro s' ks hm h0 hS' hK
     obtain ⟨h', g', d', tk', os'⟩ := s'
     have eg : g' = s.gens := hm.gens
     have ed : d' = s.drawn := hm.drawn
     have eo : os' = s.os := hm.os
     subst eg; subst ed; subst eo
     show wpAny _ _ _ _ _ _
     refine wpAny_pure ?_
     show wpAny _ _ (ret Value.none) _ _ _
     obtain ⟨o', es', ep', t', z1, z2, z3, z4, z5, z6, z7, z8⟩ := hS'
     exact wpAny_pure ⟨rfl, h', tk', ks, rfl, ⟨o', es', ep', t', z1, z2, z3, z4, z5, z6, z7, fun e he => (z8 e he).1⟩, hK, fun b o e => h0 b o e⟩
   ·cases r₂ with
    | error e => exact hr₂
    | ok fl₂ =>
     cases fl₂ with
     | ret r =>
      obtain ⟨rfl, h', tk, ks, rfl, hS', hK', hk'⟩ := hr₂
      repeat (any_goals (first | assumption | wp_step))
      exact h _ _ _ hS' hK' hk'
     | _ => exact hr₂.elim
  | _ => exact hr.elim
theorem zKS {l : Addr} {items : Array Value} {kl : List (List Int)} {Q : Value -> Shared -> Prop}
  (hh : A.handled = none) (hu : A.units + 8 < cLine) (hl : s.heap.IsTuple l items) (hi : ∀ i v, items[i]? = some v -> V v /\ ∃ b, v = .ref b /\ TK prog w s.heap (kl.getD i []) b) (hb : items.size <= 75)
  (h : ∀ (h' : Heap) (tk : Nat) ks, SetT prog w V h' s.heap.objs.size ks -> Keys ks (fun i => kl.getD i []) items.size ->
   (∀ b o, s.heap.get? b = some o -> h'.get? b = some o) -> Q (.ref s.heap.objs.size) { s with heap := h', toks := tk }) :
  wpAny (model prog w) A (call (.type "set") [.ref l]) Q E s := by
 obtain ⟨c, tl, hmro⟩ := F.called_set.mro
 have hmade := F.called_set.made
 have hsub := F.called_set.sub
 refine wpAny_call (codeAny_of_tree ?_)
 show wpAny _ _ (callAny (.type "set") _) _ _ _
 refine wpAny_pure ⟨Code.quiet_builtin _ (by decide +kernel), codeAny_builtin F.entry_type_call ?_⟩
 rw [Around.under_plain (weight_type_call_type "set" [.ref l] []) rfl]
 have h1 := F.called_set.notType
 have h2 := F.called_set.canCreate
 have hct := F.typeCall_set_1 (.ref l)
 repeat (any_goals (first | assumption | wp_step))
 refine codeAny_mono (zHn (.ref l) (E := E) (Q₁ := fun obj s₁ => obj = .ref s.heap.objs.size /\ s₁ = { s with heap := s.heap.push { cls := .type "set", dict := none, data := .set #[] 0 (.fresh 0 0 (ledW w)) } }) ⟨rfl, rfl⟩) fun r s₁ hr => ?_
 cases r with
 | error e => exact hr
 | ok fl =>
  cases fl with
  | ret obj =>
   obtain ⟨rfl, rfl⟩ := hr
   have hS : (s.heap.push { cls := .type "set", dict := none, data := .set #[] 0 (.fresh 0 0 (ledW w)) }).get? s.heap.objs.size = some { cls := .type "set", dict := none, data := .set #[] 0 (.fresh 0 0 (ledW w)) } := Heap.get?_push_size _ rfl
   have hT : Shared.TypeIs { s with heap := s.heap.push { cls := .type "set", dict := none, data := .set #[] 0 (.fresh 0 0 (ledW w)) } } (.ref s.heap.objs.size) "set" := ⟨_, hS, rfl⟩
   have hli := F.called_set.init.lookup
   have hbi := F.called_set.init.bind (.ref s.heap.objs.size)
   repeat (any_goals (first | assumption | wp_step))
   refine codeAny_mono (codeAny_call_builtin (R := wants (fun r s₂ => r = .none /\ ∃ h' tk ks, s₂ = { s with heap := h', toks := tk } /\
     SetT prog w V h' s.heap.objs.size ks /\ Keys ks (fun i => kl.getD i []) items.size /\
     (∀ b o, s.heap.get? b = some o -> h'.get? b = some o)) E) F.called_set.init.plain F.entry_set_init (check_set_init_1 hT ?_)) fun r₂ s₂ hr₂ => ?_
   ·obtain ⟨ol, hol, hcl, nl, hdl⟩ := hl
    obtain ⟨ocls, odict, odata, oslots⟩ := ol
    simp only at hcl hdl
    subst hcl; subst hdl
    have hol' : (s.heap.push { cls := .type "set", dict := none, data := .set #[] 0 (.fresh 0 0 (ledW w)) }).get? l = some { cls := .type "tuple", dict := odict, data := .seq items nl, slots := oslots } := Heap.get?_push_of_some _ hol
    have hsls := zKK
    have hslf := zKA
    have hne : (Value.type "tuple" == Value.type "dict") = false := by decide
    have hl1 : (s.heap.push { cls := .type "set", dict := none, data := .set #[] 0 (.fresh 0 0 (ledW w)) }).IsTuple l items := ⟨_, hol', rfl, nl, rfl⟩
    unfold Builtin.«set.__init__» noKeywords Builtin.Frozenset.updateFrom
    generalize hPI : pyIter = PI
    wp_walk
    subst hPI
    refine wpAny_pyIter_tuple hl1 ?_
    refine wpAny_bind (wpAny_runValue ?_)
    have hlS : l < s.heap.objs.size := Heap.lt_size hol
    have hh3 : A.in1.in1.in1.handled = none := by simp [hh]
    have hneI : l ≠ (s.heap.push { cls := .type "set", dict := none, data := .set #[] 0 (.fresh 0 0 (ledW w)) }).objs.size := by
     rw [Heap.size_push]; exact Nat.ne_of_lt (Nat.lt_succ_of_lt hlS)
    have hSf : s.heap.objs.size ∉ [(s.heap.push { cls := .type "set", dict := none, data := .set #[] 0 (.fresh 0 0 (ledW w)) }).objs.size, l] := by
     rw [Heap.size_push]; simp only [List.mem_cons, List.mem_singleton, List.not_mem_nil, or_false, not_or]
     exact ⟨Nat.ne_of_lt (Nat.lt_succ_self _), Nat.ne_of_gt hlS⟩
    have hunits : A.in1.in1.in1.units < cLine := by
     show A.units + 1 + 1 + 1 < cLine
     omega
    refine zJe (V := V) ((Walks.tuple hh3 _ l hneI items).toS) s.heap.objs.size
     hSf hunits (fun i => kl.getD i []) s.heap (fun b o e => ?_) (fun i v _ hv => hi i v hv) hb (items.size - 0) 0 _ [] (by omega) (Nat.zero_le _)
     ⟨⟨_, Heap.get?_push_size _ rfl, rfl, rfl⟩, (hl1.push _)⟩ (fun b o e => ?_) ?hS0 ?hK0 ?hR
    ·have hlt : b < s.heap.objs.size := Heap.lt_size e
     refine ⟨Nat.ne_of_lt hlt, fun hm => ?_⟩
     rw [Heap.size_push] at hm
     have : b = s.heap.objs.size + 1 := List.mem_singleton.mp hm
     rw [this] at hlt
     exact absurd hlt (Nat.not_lt.mpr (Nat.le_succ _))
    ·exact Heap.get?_push_of_some _ (Heap.get?_push_of_some _ e)
    case hS0 =>
     have hget : ((s.heap.push { cls := .type "set", dict := none, data := .set #[] 0 (.fresh 0 0 (ledW w)) }).push { cls := .type "tuple_iterator", data := .fields #[.ref l, .int 0 0] }).get? s.heap.objs.size
       = some { cls := .type "set", dict := none, data := .set #[] 0 (.fresh 0 0 (ledW w)) } := Heap.get?_push_of_some _ hS
     exact ⟨_, #[], 0, _, hget, ⟨rfl, rfl, rfl⟩, rfl, ⟨.inl rfl, rfl, rfl, List.Pairwise.nil, fun x hx => by simp [SetTable.fresh] at hx, (by show 0 * 5 < 7 * 3; decide), fun q hq => by simp at hq⟩, ⟨rfl, rfl⟩, .nil, List.nodup_nil, fun e he => by simp at he⟩
    case hK0 =>
     intro k
     simp
    case hR =>
     intro s' ks hm h0 hS' hK
     obtain ⟨h', g', d', tk', os'⟩ := s'
     have eg : g' = s.gens := hm.gens
     have ed : d' = s.drawn := hm.drawn
     have eo : os' = s.os := hm.os
     subst eg; subst ed; subst eo
     show wpAny _ _ _ _ _ _
     refine wpAny_pure ?_
     show wpAny _ _ (ret Value.none) _ _ _
     obtain ⟨o', es', ep', t', z1, z2, z3, z4, z5, z6, z7, z8⟩ := hS'
     exact wpAny_pure ⟨rfl, h', tk', ks, rfl, ⟨o', es', ep', t', z1, z2, z3, z4, z5, z6, z7, fun e he => (z8 e he).1⟩, hK, fun b o e => h0 b o e⟩
   ·cases r₂ with
    | error e => exact hr₂
    | ok fl₂ =>
     cases fl₂ with
     | ret r =>
      obtain ⟨rfl, h', tk, ks, rfl, hS', hK', hk'⟩ := hr₂
      repeat (any_goals (first | assumption | wp_step))
      exact h _ _ _ hS' hK' hk'
     | _ => exact hr₂.elim
  | _ => exact hr.elim
end
end ST
namespace SL
open PySem PySem.Spec PyProof.Rows L2 CL DL SD ST
section
variable {X : Cx} {pins : List (Addr × Obj)} {σ : L2.St} {H : Hp} {s : Shared}
theorem zC3 (I : Inv X pins σ H s) {b : Addr} {k : List Int} (h : SqT X.K H b (k.map V.int)) : TK X.prog X.w s.heap k b := by
 obtain ⟨its, rv, it, hz⟩ := I.tuple h
 obtain ⟨o, h1, h2, n, h3⟩ := it
 refine ⟨o, its.toArray, n, h1, h2, h3, ?_⟩
 show ItemsAre (intKind X.prog X.w) k its
 clear h h3 h1 h2 hz
 generalize hxs : k.map V.int = xs at rv
 induction rv generalizing k with
 | nil =>
  cases k with
  | nil => exact .nil
  | cons _ _ => simp at hxs
 | @cons x u xs us r t ih =>
  cases k with
  | nil => simp at hxs
  | cons i k =>
   rw [List.map_cons, List.cons.injEq] at hxs
   obtain ⟨e1, e2⟩ := hxs
   subst e1
   obtain ⟨tk, rfl⟩ := r
   exact .cons (intKind_is _ _ _ _) (ih e2)
abbrev KsK := List (List Int) -> Hp -> Prop
abbrev TSt := L2.St -> Hp -> KsK -> Prop
noncomputable def StP (X : Cx) (pins : List (Addr × Obj)) (σ : L2.St) (Q : KsK) (u : Value) (s' : Shared) : Prop :=
 ∃ a o ks H', u = .ref a /\ Inv X ((a, o) :: pins) σ H' s' /\ SetT X.prog X.w (fun v => ∃ b, ∃ xs : List Int, v = .ref b /\ SqT X.K H' b (xs.map V.int)) s'.heap a ks /\ (∀ p ∈ pins, p.1 ≠ a) /\ Q ks H'
noncomputable def PSt (X : Cx) (e : Expr) (t : TSt) : Prop :=
 ∀ (pins : List (Addr × Obj)) (s : Shared) (σ : L2.St) (H : Hp) (Q : KsK), Inv X pins σ H s -> t σ H Q -> wpAny (model X.prog X.w) X.A (eval e X.env) (StP X pins σ Q) X.xe s
noncomputable def tSet (K : PySem.W.Frag) (t : TA) : TSt := fun σ H Q => t σ H fun vs H1 => ∃ (a : Addr) (xs : List V) (kl : List (List Int)), vs = [.ref a] /\ (SqL K H1 a xs ∨ SqT K H1 a xs) /\ xs.length <= 75 /\ xs.length = kl.length /\ (∀ (i : Nat) (x : V), xs[i]? = some x -> ∃ b, x = .ref b /\ SqT K H1 b ((kl.getD i []).map V.int)) /\ ∀ ks : List (List Int), ks.Nodup -> (∀ k, k ∈ ks ↔ k ∈ kl) -> Q ks H1
theorem zDP {x : Str} {e : Expr} {p pos : Pos} {t : TA} (hc : X.calm = true) (hu : X.A.units + 64 < cLine) (hg : Gl X x) (hm : X.mg x = none) (hv : bootBuiltins x = some (.type "set")) (ha : PA X [e] t) (hn : x ≠ "__name__" := by decide) (hdb : (x == ("__debug__" : Str)) = false := by decide)
  (he : starEach [e] X.env = (false, eval e X.env) :: starEach [] X.env := by rfl) (hpl : (backTo pos (starEach [] X.env)).any (·.1) = false := by rfl) :
  PSt X (.Call (.Name x p) [e] [] pos) (tSet X.K t) := by
 intro pins s σ H Q I h
 refine wpAny_Call_Name_kw (zBP I hg hm hv ?_ hn hdb)
 refine PyProof.Rows.callWith_type1 (thn (ha pos pins s σ H _ I h) fun us s1 ⟨vs, H1, I1, r1, q1⟩ => ?_) he hpl
 obtain ⟨a, xs, kl, rfl, hq, h75, hlen, hks, q⟩ := q1
 obtain ⟨u, rfl, ru⟩ := zBj r1
 cases ru
 have go : ∀ its : List Value, Vals xs its -> (∀ (kl' : List (List Int)) (Q' : Value -> Shared -> Prop), (∀ i v, its.toArray[i]? = some v -> (∃ b, ∃ xs : List Int, v = .ref b /\ SqT X.K H1 b (xs.map V.int)) /\ ∃ b, v = .ref b /\ TK X.prog X.w s1.heap (kl'.getD i []) b) ->
   its.toArray.size <= 75 -> (∀ (h' : Heap) (tk : Nat) ks, SetT X.prog X.w (fun v => ∃ b, ∃ xs : List Int, v = .ref b /\ SqT X.K H1 b (xs.map V.int)) h' s1.heap.objs.size ks -> Keys ks (fun i => kl'.getD i []) its.toArray.size ->
   (∀ b o, s1.heap.get? b = some o -> h'.get? b = some o) -> Q' (.ref s1.heap.objs.size) { s1 with heap := h', toks := tk }) -> wpAny (model X.prog X.w) X.A (call (.type "set") [.ref a]) Q' X.xe s1) ->
   wpAny (model X.prog X.w) X.A (call (.type "set") [.ref a]) (StP X pins σ Q) X.xe s1 := by
  intro its rv cs
  have hsz : its.toArray.size = kl.length := by rw [List.size_toArray, <- rv.length, hlen]
  refine cs kl _ (fun i v hv => ?_) (by rw [hsz]; omega) fun h' tk ks S' K' keep => ?_
  ·have hv' : its[i]? = some v := by simpa using hv
   have hi : i < xs.length := by
    have := (List.getElem?_eq_some_iff.mp hv').1
    rw [rv.length]; exact this
   obtain ⟨u, e1, e2⟩ := Vals.get rv (List.getElem?_eq_getElem hi)
   rw [hv'] at e1
   cases e1
   obtain ⟨b, e3, e4⟩ := hks i _ (List.getElem?_eq_getElem hi)
   rw [e3] at e2
   cases e2
   exact ⟨⟨b, _, rfl, e4⟩, b, rfl, zC3 I1 e4⟩
  ·obtain ⟨o, es, ep, t, z1, z2, z3, z4, z5, z6, z7, z8⟩ := S'
   have I2 : Inv X pins σ H1 { s1 with heap := h', toks := tk } := I1.kept keep
   have I3 : Inv X ((s1.heap.objs.size, o) :: pins) σ H1 { s1 with heap := h', toks := tk } := by
    refine I2.pins_of fun p hp => ?_
    rcases List.mem_cons.mp hp with rfl | hp
    ·refine ⟨z1, I1.hok.fresh (Nat.le_refl _), Nat.ne_of_gt I1.lt, I1.nofs (Nat.le_refl _), fun v hv => ?_⟩
     rw [z3] at hv
     exact nomatch hv
    ·exact I2.pin p (List.mem_append_right _ hp)
   refine ⟨_, o, ks, H1, rfl, I3, ⟨o, es, ep, t, z1, z2, z3, z4, z5, z6, z7, z8⟩, fun p hp => Nat.ne_of_lt (Heap.lt_size (I1.pin p (List.mem_append_right _ hp)).1), q ks z7 fun k => (K' k).trans ?_⟩
   rw [hsz]
   constructor
   ·rintro ⟨j, hj, rfl⟩
    show kl.getD j [] ∈ kl
    rw [List.getD_eq_getElem?_getD, List.getElem?_eq_getElem hj]
    exact List.getElem_mem hj
   ·intro hk
    obtain ⟨j, hj⟩ := List.getElem?_of_mem hk
    refine ⟨j, (List.getElem?_eq_some_iff.mp hj).1, ?_⟩
    show kl.getD j [] = k
    rw [List.getD_eq_getElem?_getD, hj]
    rfl
 rcases hq with hq | hq
 ·obtain ⟨its, rv, pl, _⟩ := I1.list hq
  exact go its rv fun kl' Q' h1 h2 h3 => zKV (kl := kl') (I1.ok.hd hc) (by omega) pl.isList h1 h2 h3
 ·obtain ⟨its, rv, it, hz⟩ := I1.tuple hq
  exact go its rv fun kl' Q' h1 h2 h3 => zKS (kl := kl') (I1.ok.hd hc) (by omega) it h1 h2 h3
end
noncomputable def zCC : List D -> Option (List (List Int))
 | [] => some []
 | .tuple ds :: r => (zAC ds).bind fun is => (zCC r).bind fun rs => some (is :: rs)
 | _ => none
theorem zHY {K : PySem.W.Frag} {F : Addr -> Prop} {H : Hp} : ∀ {ds : List D} {vs : List V} {kl : List (List Int)}, Reps K F H ds vs -> zCC ds = some kl -> ds.length = kl.length /\ ∀ (i : Nat) (x : V), vs[i]? = some x -> ∃ b, x = .ref b /\ SqT K H b ((kl.getD i []).map V.int) := by
 intro ds
 induction ds with
 | nil => intro vs kl r h; cases r; cases h; exact ⟨rfl, fun i x e => by simp at e⟩
 | cons d ds ih =>
  intro vs kl r h
  cases r with
  | cons r0 r =>
   cases d with
   | tuple xs =>
    cases r0 with
    | tup h1 r1 =>
     obtain ⟨is, e1, h⟩ := bnd h
     obtain ⟨rs, e2, h⟩ := bnd h
     cases h
     obtain ⟨q1, q2⟩ := ih r e2
     refine ⟨by simp [q1], fun i x e => ?_⟩
     cases i with
     | zero =>
      cases e
      refine ⟨_, rfl, ?_⟩
      rw [zDE r1 e1] at h1
      exact h1
     | succ i => exact q2 i x (by simpa using e)
   | _ => cases h
noncomputable def tDSt (K : PySem.W.Frag) (g : Rho -> Option (List (List Int))) : TSt := fun σ H Q => ∃ (F : Addr -> Prop) (H₀ : Hp) (ρ : Rho) (kl : List (List Int)), StOk K F H H₀ σ ρ /\ g ρ = some kl /\ ∀ F' H' (ks : List (List Int)), Ext F F' H H' -> ks.Nodup -> (∀ k, k ∈ ks ↔ k ∈ kl) -> Q ks H'
noncomputable def DSt (X : Cx) (e : Expr) (g : Rho -> Option (List (List Int))) : Prop := PSt X e (tDSt X.K g)
noncomputable def setD : List D -> Option (List (List Int))
 | [.list xs] => if xs.length <= 75 then zCC xs else none
 | [.tuple xs] => if xs.length <= 75 then zCC xs else none
 | _ => none
noncomputable def eSet (gr : Rho -> Option (List D)) : Rho -> Option (List (List Int)) := fun ρ => (gr ρ).bind setD
noncomputable def dd : List (List Int) -> List (List Int)
 | [] => []
 | k :: r => if k ∈ r then dd r else k :: dd r
theorem zEf : ∀ {l : List (List Int)} {k : List Int}, k ∈ dd l ↔ k ∈ l
 | [], k => by simp [dd]
 | x :: r, k => by
  unfold dd
  split
  ·rename_i h
   rw [zEf, List.mem_cons]
   constructor
   ·exact .inr
   ·rintro (rfl | h')
    ·exact h
    ·exact h'
  ·rw [List.mem_cons, List.mem_cons, zEf]
theorem zFI : ∀ l : List (List Int), (dd l).Nodup
 | [] => List.nodup_nil
 | x :: r => by
  unfold dd
  split
  ·exact zFI r
  ·rename_i h
   exact List.nodup_cons.mpr ⟨fun q => h (zEf.mp q), zFI r⟩
section
variable {X : Cx} {e : Expr} {p pos : Pos} {gr : Rho -> Option (List D)} {g : Rho -> Option (List (List Int))}
theorem ps_mono {e : Expr} {t t' : TSt} (h : PSt X e t) (m : ∀ σ H Q, t' σ H Q -> t σ H Q) : PSt X e t' := fun pins s σ H Q I q => h pins s σ H Q I (m σ H Q q)
theorem zMl {x : Str} (hc : X.calm = true) (hu : X.A.units + 64 < cLine) (hg : Gl X x) (hm : X.mg x = none) (hv : bootBuiltins x = some (.type "set")) (ha : DA X [e] gr) (hn : x ≠ "__name__" := by decide) (hdb : (x == ("__debug__" : Str)) = false := by decide)
  (he : starEach [e] X.env = (false, eval e X.env) :: starEach [] X.env := by rfl) (hpl : (backTo pos (starEach [] X.env)).any (·.1) = false := by rfl) :
  DSt X (.Call (.Name x p) [e] [] pos) (eSet gr) :=
 ps_mono (zDP hc hu hg hm hv ha hn hdb he hpl) fun σ H Q zz => by
  obtain ⟨F, H₀, ρ, kl, S, q, k⟩ := zz
  obtain ⟨ds, e1, q⟩ := bnd q
  refine ⟨F, H₀, ρ, ds, S, e1, fun F1 H1 vs E1 R1 => ?_⟩
  unfold setD at q
  split at q
  ·rename_i xs
   by_cases c : xs.length <= 75
   ·rw [if_pos c] at q
    cases R1 with
    | cons R2 R3 =>
     cases R3
     cases R2 with
     | @lst a us _ h1 r1 =>
      obtain ⟨z1, z2⟩ := zHY r1 q
      exact ⟨a, us, kl, rfl, .inl h1.sq, by rw [<- r1.length]; exact c, by rw [<- r1.length, z1], z2, fun ks hn hk => k F1 H1 ks E1 hn hk⟩
   ·rw [if_neg c] at q; cases q
  ·rename_i xs
   by_cases c : xs.length <= 75
   ·rw [if_pos c] at q
    cases R1 with
    | cons R2 R3 =>
     cases R3
     cases R2 with
     | @tup a us _ h1 r1 =>
      obtain ⟨z1, z2⟩ := zHY r1 q
      exact ⟨a, us, kl, rfl, .inr h1, by rw [<- r1.length]; exact c, by rw [<- r1.length, z1], z2, fun ks hn hk => k F1 H1 ks E1 hn hk⟩
   ·rw [if_neg c] at q; cases q
  ·cases q
end
end SL
namespace PySem.F
theorem set_iter_entry : entryFor table "set.__iter__" = some Builtin.«frozenset.__iter__» :=
 entryFor_alias (id' := "frozenset.__iter__") (by kernel_rfl) rfl (by decide +kernel) (by kernel_rfl)
theorem zFZ : Manifest.owners.lookup (String.ofList ['r', 'o', 't', 'a', 'r', 'e', 't', 'i', '_', 't', 'e', 's'].reverse) = some Manifest.sig_set_iterator := by kernel_rfl
theorem si_next : Slot "set_iterator" "__next__" "set_iterator.__next__" :=
 .of (owner := "set_iterator") (n := "__next__") (by rw [typeLookup_type, builtinLookup_eq_fast]; kernel_rfl) (by decide +kernel) (by decide +kernel) (by decide +kernel)
  (.inl (by decide +kernel)) (by rw [isSubtype_type]; kernel_rfl)
theorem si_iter : Slot "set_iterator" "__iter__" "set_iterator.__iter__" :=
 .of (owner := "set_iterator") (n := "__iter__") (by rw [typeLookup_type, builtinLookup_eq_fast]; kernel_rfl) (by decide +kernel) (by decide +kernel) (by decide +kernel)
  (.inl (by decide +kernel)) (by rw [isSubtype_type]; kernel_rfl)
theorem si_iter_entry : entryFor table "set_iterator.__iter__" = some Builtin.«dict_keyiterator.__iter__» :=
 entryFor_alias (id' := "dict_keyiterator.__iter__") (by kernel_rfl) rfl (by decide +kernel) (by kernel_rfl)
theorem si_iter_args (a : Value) : argsOk "set_iterator.__iter__" ⟨[a], []⟩ := by
 unfold argsOk; rw [signature?_of (id := "set_iterator.__iter__") (n := ['_', '_', 'r', 'e', 't', 'i', '_', '_']) (o := ['r', 'o', 't', 'a', 'r', 'e', 't', 'i', '_', 't', 'e', 's']) (by kernel_rfl) zFZ]; kernel_rfl
theorem si_next_entry : entryFor table "set_iterator.__next__" = some Builtin.«set_iterator.__next__» := entryFor_of_tree (by kernel_rfl)
theorem si_next_args (a : Value) : argsOk "set_iterator.__next__" ⟨[a], []⟩ := by
 unfold argsOk; rw [signature?_of (id := "set_iterator.__next__") (n := ['_', '_', 't', 'x', 'e', 'n', '_', '_']) (o := ['r', 'o', 't', 'a', 'r', 'e', 't', 'i', '_', 't', 'e', 's']) (by kernel_rfl) zFZ]; kernel_rfl
end PySem.F
namespace ST
open PySem PySem.SetTable PyProof.Rows
theorem zHy {α : Type} (next : Nat -> Nat) : ∀ (fuel k : Nat) (left : List α) (out : Array α), left.length = fuel -> List.Perm (pickOrder.go next fuel k left out).toList (out.toList ++ left)
 | 0, k, left, out, h => by
  have : left = [] := List.length_eq_zero_iff.mp h
  subst this
  rw [List.append_nil]
  exact .refl _
 | fuel + 1, k, left, out, h => by
  have hl : next k % left.length < left.length := Nat.mod_lt _ (by omega)
  unfold pickOrder.go
  rw [List.getElem?_eq_getElem hl]
  dsimp only
  refine (zHy next fuel (k + 1) _ _ (by rw [List.length_eraseIdx_of_lt hl]; omega)).trans ?_
  rw [Array.toList_push, List.append_assoc]
  refine List.Perm.append_left _ ?_
  rw [List.eraseIdx_eq_take_drop_succ]
  have e : left = left.take (next k % left.length) ++ left[next k % left.length] :: left.drop (next k % left.length + 1) := by
   rw [<- List.drop_eq_getElem_cons hl, List.take_append_drop]
  refine List.Perm.trans ?_ (.of_eq e.symm)
  show List.Perm (left[next k % left.length] :: (left.take (next k % left.length) ++ left.drop (next k % left.length + 1))) _
  exact List.perm_middle.symm
noncomputable def ordW (w : World) (a ep : Nat) (es : Array (Int × Value)) : Array (Int × Value) := if w.params.followText "set-order" = true then pickOrder (w.params.setOrder a ep) es else es
theorem zFw (w : World) (a ep : Nat) (es : Array (Int × Value)) : List.Perm (ordW w a ep es).toList es.toList := by
 unfold ordW
 split
 ·exact (zHy _ es.size 0 es.toList #[] (by simp)).trans (by simp)
 ·exact .refl _
theorem zDK (w : World) (a ep : Nat) (es : Array (Int × Value)) : (ordW w a ep es).size = es.size := by
 have := (zFw w a ep es).length_eq
 simpa using this
theorem zOl (xs : Array Nat) (s : Up xs.toList) : below xs 0 = 0 := by
 obtain ⟨h1, h2, h3⟩ := zDA xs s 0
 by_cases c : below xs 0 = 0
 ·exact c
 ·have hl : 0 < xs.toList.length := by rw [Array.length_toList]; omega
  have := h2 0 _ (List.getElem?_eq_getElem hl) (by omega)
  omega
theorem zOP (xs : Array Nat) (s : Up xs.toList) {i j : Nat} (h : xs.toList[i]? = some j) : below xs (j + 1) = i + 1 := by
 obtain ⟨h1, h2, h3⟩ := zDA xs s (j + 1)
 have hi := (List.getElem?_eq_some_iff.mp h).1
 rw [Array.length_toList] at hi
 by_cases a : below xs (j + 1) <= i
 ·have := h3 i j h a
  omega
 ·by_cases b : below xs (j + 1) = i + 1
  ·exact b
  ·have hl : i + 1 < xs.toList.length := by rw [Array.length_toList]; omega
   have e := List.getElem?_eq_getElem hl
   have := h2 _ _ e (by omega)
   have := s.at h e (by omega)
   omega
structure zBk (w : World) (h : Heap) (a : Addr) (o : Obj) (es : Array (Int × Value)) (ep : Nat) (t : SetTable) : Prop where
 get : h.get? a = some o
 ex : o.ExactSet
 data : o.data = .set es ep t
 fits : t.fits es.size = true
 up : Up t.place.toList
 plain : t.plain = true
 led : t.led = ledW w
theorem zBk.at {w : World} {h h' : Heap} {a : Addr} {o : Obj} {es : Array (Int × Value)} {ep : Nat} {t : SetTable} (S : zBk w h a o es ep t) (e : h'.get? a = some o) : zBk w h' a o es ep t := ⟨e, S.ex, S.data, S.fits, S.up, S.plain, S.led⟩
noncomputable def zCx (h : Heap) (I a : Addr) (slot i n ep : Nat) : Prop := ∃ o, h.get? I = some o /\ o.cls = .type "set_iterator" /\ o.data = .fields #[.int slot 0, .int i 0, .ref a, .int n 0, .int ep 0]
section
variable {prog : Program} {w : World} {A : Around} {E : Value -> Shared -> Prop} {s : Shared} {I a : Addr} {o : Obj} {es : Array (Int × Value)} {ep slot i : Nat} {t : SetTable}
theorem zCx.typeIs {n : Nat} (h : zCx s.heap I a slot i n ep) : s.TypeIs (.ref I) "set_iterator" := by
 obtain ⟨o, h1, h2, _⟩ := h
 exact ⟨o, h1, h2⟩
theorem zFf {Q : Bool -> Shared -> Prop} (h : Q (w.params.followText "set-order") s) : wpAny (model prog w) A setsByText Q E s := by
 unfold setsByText
 exact wpAny_bind (wpAny_askSetting (wpAny_pure h))
theorem zJl {Q : Array (Int × Value) -> Shared -> Prop} (S : zBk w s.heap a o es ep t) (h : Q (ordW w a ep es) s) : wpAny (model prog w) A (setWalk a) Q E s := by
 unfold setWalk
 refine wpAny_bind (wpAny_setState_of S.get S.data S.fits ?_)
 dsimp only
 refine wpAny_bind (zFf ?_)
 unfold ordW at h
 cases c : w.params.followText "set-order" with
 | true =>
  rw [c, if_pos rfl] at h
  rw [if_pos rfl]
  exact wpAny_bind (wpAny_askSetting (wpAny_pure h))
 | false =>
  rw [c, if_neg Bool.false_ne_true] at h
  rw [if_neg Bool.false_ne_true]
  have hd : (!t.plain && decide (es.size > 1)) = false := by rw [S.plain]; rfl
  have hl : (!t.led && decide (es.size > 1)) = false := by rw [S.led, ledW, c]; rfl
  show wpAny _ _ (if (!t.plain && decide (es.size > 1)) = true then _ else _) _ _ s
  rw [hd, if_neg Bool.false_ne_true]
  refine wpAny_bind ?_
  show wpAny _ _ (if (!t.led && decide (es.size > 1)) = true then _ else _) _ _ s
  rw [hl, if_neg Bool.false_ne_true]
  exact wpAny_pure (wpAny_pure h)
theorem zGy {Q : Option (Value × Nat) -> Shared -> Prop} (S : zBk w s.heap a o es ep t) (hb : w.params.followText "set-order" = false -> below t.place slot = i)
  (h1 : ∀ x next, (ordW w a ep es)[i]? = some x -> (w.params.followText "set-order" = false -> below t.place next = i + 1) -> Q (some (x.2, next)) s) (h2 : es.size <= i -> Q none s) :
  wpAny (model prog w) A (setNext a slot i ep) Q E s := by
 unfold setNext
 refine wpAny_bind (wpAny_setState_of S.get S.data S.fits ?_)
 dsimp only
 refine wpAny_bind (zFf ?_)
 cases c : w.params.followText "set-order" with
 | true =>
  rw [if_pos rfl, if_neg (by simp)]
  refine wpAny_bind (zJl S (wpAny_pure ?_))
  by_cases l : i < es.size
  ·have l' : i < (ordW w a ep es).size := by rw [zDK]; exact l
   rw [Array.getElem?_eq_getElem l']
   exact h1 _ _ (Array.getElem?_eq_getElem l') fun e => by rw [c] at e; cases e
  ·rw [Array.getElem?_eq_none (by rw [zDK]; omega)]
   exact h2 (by omega)
 | false =>
  rw [if_neg Bool.false_ne_true]
  have hd : (!t.plain && decide (es.size > 1)) = false := by rw [S.plain]; rfl
  have hl : (!t.led && !es.isEmpty) = false := by rw [S.led, ledW, c]; rfl
  show wpAny _ _ (if (!t.plain && decide (es.size > 1)) = true then _ else _) _ _ s
  rw [hd, if_neg Bool.false_ne_true]
  refine wpAny_bind ?_
  show wpAny _ _ (if (!t.led && !es.isEmpty) = true then _ else _) _ _ s
  rw [hl, if_neg Bool.false_ne_true]
  refine wpAny_pure (wpAny_pure ?_)
  have hps : t.place.size = es.size := by
   have := S.fits
   unfold SetTable.fits at this
   rw [Bool.and_eq_true, beq_iff_eq] at this
   exact this.1
  rw [hb c]
  have ho : ordW w a ep es = es := by unfold ordW; rw [c, if_neg Bool.false_ne_true]
  rw [ho] at h1
  by_cases l : i < es.size
  ·have l' : i < t.place.size := by omega
   rw [Array.getElem?_eq_getElem l, Array.getElem?_eq_getElem l']
   refine h1 _ _ (Array.getElem?_eq_getElem l) fun _ => zOP _ S.up ?_
   rw [Array.getElem?_toList, Array.getElem?_eq_getElem l']
  ·rw [Array.getElem?_eq_none (by omega)]
   exact h2 (by omega)
theorem zKr {Q : Value -> Shared -> Prop} (S : zBk w s.heap a o es ep t)
  (h : Q (.ref s.heap.objs.size) { s with heap := s.heap.push { cls := .type "set_iterator", data := .fields #[.int 0 0, .int 0 0, .ref a, .int (es.size : Nat) 0, .int (ep : Nat) 0] } }) : wpAny (model prog w) A (pyIter (.ref a)) Q E s := by
 have hT : s.TypeIs (.ref a) "set" := ⟨o, S.get, S.ex.1⟩
 refine wpAny_pyIter_slot hT F.slot_set_iter (wpAny_call_entry F.slot_set_iter hT F.set_iter_entry ?_ (F.args_set_iter_1 _))
 unfold Builtin.«frozenset.__iter__» Builtin.Frozenset.slot0 slotArgs
 simp only [List.isEmpty_nil, Bool.not_true, Bool.false_eq_true, ↓reduceIte, bind_assoc, List.length_nil, bne_self_eq_false]
 unfold Builtin.Frozenset.addrOf Builtin.Frozenset.sizeOf
 refine wpAny_bind (wpAny_pure ?_)
 refine wpAny_bind (wpAny_pure ?_)
 refine wpAny_bind (wpAny_bind (wpAny_setEntries_of S.get S.data S.fits (wpAny_pure ?_)))
 unfold setDrawn
 refine wpAny_bind (wpAny_bind (wpAny_setState_of S.get S.data S.fits ?_))
 dsimp only
 refine wpAny_bind (zFf ?_)
 refine wpAny_pure ?_
 have hd : (!(w.params.followText "set-order") && (!t.plain && decide (es.size > 1))) = false := by rw [S.plain]; simp
 show wpAny _ _ (if (!(w.params.followText "set-order") && (!t.plain && decide (es.size > 1))) = true then _ else _) _ _ s
 rw [hd, if_neg Bool.false_ne_true]
 refine wpAny_bind (wpAny_pure ?_)
 unfold setEpoch
 refine wpAny_bind (wpAny_bind (wpAny_setState_of S.get S.data S.fits (wpAny_pure ?_)))
 exact wpAny_bind (wpAny_newObj_type (wpAny_pure ⟨_, rfl, "set_iterator", _, ⟨_, Heap.get?_push_size _ rfl, rfl⟩, F.si_next.lookup, h⟩))
theorem zMd {Q : Option Value -> Shared -> Prop} (hit : zCx s.heap I a slot i es.size ep) (S : zBk w s.heap a o es ep t) (hb : w.params.followText "set-order" = false -> below t.place slot = i) (hi : i < es.size)
  (hQ : ∀ x h' next, (ordW w a ep es)[i]? = some x -> (w.params.followText "set-order" = false -> below t.place next = i + 1) -> zCx h' I a next (i + 1) es.size ep -> Heap.SameBut I s.heap h' -> Q (some x.2) { s with heap := h' }) :
  wpAny (model prog w) A (pyNext (.ref I)) Q E s := by
 obtain ⟨oi, hoi, hc, hd⟩ := id hit
 unfold pyNext
 refine wpAny_bind (wpAny_attempt (wpAny_callSpecial?_slot (name := Str.ofString "__next__") hit.typeIs F.si_next
  (wpAny_call_entry F.si_next hit.typeIs F.si_next_entry ?_ (F.si_next_args _))))
 show wpAny _ _ (fieldsOf (.ref I) >>= _) _ _ s
 refine wpAny_bind (wpAny_fieldsOf hoi hd ?_)
 dsimp only
 refine wpAny_bind (wpAny_setEntries_of S.get S.data S.fits ?_)
 rw [if_neg (by simp)]
 refine wpAny_bind (zGy (i := i) (slot := slot) S hb (fun x next h1 h2 => ?_) fun h => absurd hi (by omega))
 dsimp only
 refine wpAny_bind (wpAny_setField hoi hd (by simp) ?_)
 have h1g := Heap.get?_update_self (Obj.mapFields (·.setIfInBounds 0 (rawInt next))) hoi (Obj.isFreed_of_fields (Obj.data_mapFields hd _))
 have h1d := Obj.data_mapFields hd (fun x => x.setIfInBounds 0 (rawInt next))
 refine wpAny_bind (wpAny_setField h1g h1d (by simp) (wpAny_pure ⟨_, rfl, wpAny_pure (hQ x _ next h1 h2 ?_ ((Heap.SameBut.update ..).trans (Heap.SameBut.update ..)))⟩))
 refine ⟨_, Heap.get?_update_self _ h1g (Obj.isFreed_of_fields (Obj.data_mapFields h1d _)), ((Obj.cls_mapFields ..).trans (Obj.cls_mapFields ..)).trans hc, ?_⟩
 rw [Obj.data_mapFields h1d]
 simp [rawInt]
theorem zMh {Q : Option Value -> Shared -> Prop} (hh : A.handled = none) (hit : zCx s.heap I a slot es.size es.size ep) (S : zBk w s.heap a o es ep t) (hb : w.params.followText "set-order" = false -> below t.place slot = es.size)
  (hQ : ∀ h', Heap.ExtBut I s.heap h' -> Q none { s with heap := h' }) :
  wpAny (model prog w) A (pyNext (.ref I)) Q E s := by
 obtain ⟨oi, hoi, hc, hd⟩ := id hit
 unfold pyNext
 refine wpAny_bind (wpAny_attempt (wpAny_callSpecial?_slot (name := Str.ofString "__next__") hit.typeIs F.si_next
  (wpAny_call_entry F.si_next hit.typeIs F.si_next_entry ?_ (F.si_next_args _))))
 show wpAny _ _ (fieldsOf (.ref I) >>= _) _ _ s
 refine wpAny_bind (wpAny_fieldsOf hoi hd ?_)
 dsimp only
 refine wpAny_bind (wpAny_setEntries_of S.get S.data S.fits ?_)
 rw [if_neg (by simp)]
 refine wpAny_bind (zGy (i := es.size) (slot := slot) S hb (fun x next h1 h2 => ?_) fun _ => ?_)
 ·rw [Array.getElem?_eq_none (by rw [zDK]; exact Nat.le_refl _)] at h1
  cases h1
 dsimp only
 refine wpAny_bind (wpAny_setField hoi hd (by simp) ?_)
 show wpAny _ _ (newExc (.type "StopIteration") [] >>= _) _ _ _
 refine wpAny_bind ?_
 simp only [newExc, newTuple]
 refine wpAny_bind (wpAny_newObj_type ?_ (by size_fits))
 refine wpAny_bind (m := firstArgMember _ _) (wpAny_of_eq (a := Value.none) (by first | rfl | (simp only [firstArgMember]; rfl)) ?_)
 refine wpAny_newObj_type ?_ (by size_fits)
 simp only [raiseNew]
 refine wpAny_bind (wpAny_handled ?_)
 first | rw [show A.in1.handled = none from hh] | rw [hh]
 refine wpAny_bind (wpAny_pure (wpAny_throw ?_))
 refine wpAny_bind (wpAny_isInstance (T := "StopIteration") (b := true) ⟨_, Heap.get?_push_size _ rfl, rfl⟩ isSubtype_stop ?_)
 exact wpAny_pure (hQ _ (((Heap.SameBut.update ..).extBut.push _).push _))
theorem Walks.set {prog : Program} {w : World} {A : Around} (hh : A.handled = none) (I a : Addr) (hne : a ≠ I) (o : Obj) (es : Array (Int × Value)) (ep : Nat) (t : SetTable) :
  Walks prog w A I [I, a] [I] es.size (fun i v => ∃ x, (ordW w a ep es)[i]? = some x /\ v = x.2) (fun i h => ∃ slot, (w.params.followText "set-order" = false -> below t.place slot = i) /\ zCx h I a slot i es.size ep /\ zBk w h a o es ep t) where
 sub := fun b hb => by simp at hb; simp [hb]
 frame := fun _ _ _ ⟨slot, h1, ⟨oi, h2, h3, h4⟩, S⟩ hk => ⟨slot, h1, ⟨oi, hk I (by simp) _ h2, h3, h4⟩, S.at (hk a (by simp) _ S.get)⟩
 item := fun i s Q E hi ⟨slot, h1, hit, S⟩ hQ =>
  zMd hit S h1 hi fun x h' next e1 e2 e3 e4 => hQ _ h' s.toks ⟨x, e1, rfl⟩ ⟨next, e2, e3, S.at ((e4.2 a hne).trans S.get)⟩ fun b o hb e => e4.extBut b o (fun h => hb (by simp [h])) e
 done := fun s Q E ⟨slot, h1, hit, S⟩ hQ => zMh hh hit S h1 fun h' he' => hQ h' s.toks fun b o hb e => he' b o (fun h => hb (by simp [h])) e
 self := fun i s Q E zz hQ => by
  obtain ⟨slot, h1, hit, S⟩ := zz
  refine wpAny_pyIter_slot hit.typeIs F.si_iter (wpAny_call_entry F.si_iter hit.typeIs F.si_iter_entry ?_ (F.si_iter_args _))
  show wpAny _ _ (ret (.ref I)) _ _ s
  exact wpAny_pure ⟨_, rfl, "set_iterator", _, hit.typeIs, F.si_next.lookup, hQ⟩
end
end ST
namespace ST
open PySem PySem.SetTable PyProof.Rows
section
variable {prog : Program} {w : World} {A : Around} {E : Value -> Shared -> Prop} {s : Shared}
theorem zKM {r : Addr} {Q : Bool -> Shared -> Prop} (hT : s.TypeIs (.ref r) "set") (h : Q false s) : wpAny (model prog w) A (Builtin.List.listLengthHint (.ref r)) Q E s := by
 unfold Builtin.List.listLengthHint
 refine wpAny_bind (wpAny_specialOf hT PySem.F.slot_set_len.lookup ?_)
 generalize hid : ("set.__len__" : String) = id0
 wp_delta
 rw [show splitId id0 = some ("set", "__len__") from by subst hid; decide +kernel]
 subst hid
 refine wpAny_bind (wpAny_isInstance (T := "set") (b := true) hT (by rw [isSubtype_type]; kernel_rfl) ?_)
 refine wpAny_ite_split (fun z => absurd z (by decide)) fun _ => wpAny_ite_split (fun _ => ?_) fun z => absurd (by decide +kernel) z
 exact wpAny_bind (wpAny_typeOf hT (wpAny_pure h))
theorem zLJ (a : Addr) (o : Obj) (es : Array (Int × Value)) (ep : Nat) (t : SetTable) : PySem.W.KdlSrc prog w "set" a a es.size (fun i v => ∃ x, (ordW w a ep es)[i]? = some x /\ v = x.2) (fun h => zBk w h a o es ep t) where
 type := fun s S => ⟨o, S.get, S.ex.1⟩
 there := fun h S => ⟨Heap.lt_size S.get, Heap.lt_size S.get⟩
 keep := fun h h' S hk => S.at (hk a (.inl rfl) o S.get)
 notList := by decide
 notTuple := by decide
 hint := fun A E s Q S h => zKM ⟨o, S.get, S.ex.1⟩ h
 iter := fun A s hh S => ⟨_, _, fun E Q hQ => zKr S hQ, Walks.set hh _ a (Nat.ne_of_lt (Heap.lt_size S.get)) o es ep t, ⟨0, fun _ => zOl _ S.up, ⟨_, Heap.get?_push_size _ rfl, rfl, rfl⟩, S.at (Heap.get?_push_of_some _ S.get)⟩⟩
theorem zK1 {w : World} {a : Addr} {ep : Nat} {es : Array (Int × Value)} {acc : Array Value} (h : ItemsOf (fun i v => ∃ x, (ordW w a ep es)[i]? = some x /\ v = x.2) acc es.size) : acc.toList = (ordW w a ep es).toList.map (·.2) := by
 refine List.ext_getElem? fun i => ?_
 rw [List.getElem?_map, Array.getElem?_toList, Array.getElem?_toList]
 by_cases l : i < es.size
 ·have l' : i < acc.size := by rw [h.1]; exact l
  obtain ⟨x, e1, e2⟩ := h.2 i _ (Array.getElem?_eq_getElem l')
  rw [e1, Array.getElem?_eq_getElem l', e2]
  rfl
 ·rw [Array.getElem?_eq_none (by rw [h.1]; omega), Array.getElem?_eq_none (by rw [zDK]; omega)]
  rfl
theorem Ents.perm {h : Heap} {es es' : List (Int × Value)} (p : List.Perm es es') : ∀ {ks : List (List Int)}, Ents prog w h es ks -> ∃ ks', Ents prog w h es' ks' /\ List.Perm ks' ks := by
 induction p with
 | nil => intro ks X; exact ⟨ks, X, .refl _⟩
 | cons x _ ih =>
  intro ks X
  cases X with
  | cons h1 r =>
   obtain ⟨ks', X', q⟩ := ih r
   exact ⟨_, .cons h1 X', q.cons _⟩
 | swap x y l =>
  intro ks X
  cases X with
  | cons h1 r => cases r with
   | cons h2 r => exact ⟨_, .cons h2 (.cons h1 r), .swap _ _ _⟩
 | trans _ _ ih1 ih2 =>
  intro ks X
  obtain ⟨k1, X1, q1⟩ := ih1 X
  obtain ⟨k2, X2, q2⟩ := ih2 X1
  exact ⟨k2, X2, q2.trans q1⟩
theorem ItemsAre.unique : ∀ {k k' : List Int} {vs : List Value}, ItemsAre (intKind prog w) k vs -> ItemsAre (intKind prog w) k' vs -> k = k'
 | _, _, _, .nil, h => by cases h; rfl
 | _, _, _, .cons h1 r1, h => by
  cases h with
  | cons h2 r2 =>
   obtain ⟨t1, e1⟩ := Value.isInt_shape h1
   obtain ⟨t2, e2⟩ := Value.isInt_shape h2
   rw [e1] at e2
   cases e2
   rw [ItemsAre.unique r1 r2]
theorem TK.unique {h : Heap} {k k' : List Int} {a : Addr} (x : TK prog w h k a) (y : TK prog w h k' a) : k = k' := by
 obtain ⟨o, items, n, ho, _, hd, hi⟩ := x
 obtain ⟨o', items', n', ho', _, hd', hi'⟩ := y
 rw [ho] at ho'
 cases ho'
 rw [hd] at hd'
 cases hd'
 exact ItemsAre.unique hi hi'
noncomputable def SetV (prog : Program) (w : World) (V : Value -> Prop) (h : Heap) (a : Addr) (o : Obj) (ks : List (List Int)) : Prop :=
 ∃ es ep t, zBk w h a o es ep t /\ Ents prog w h es.toList ks /\ ks.Nodup /\ ∀ e ∈ es.toList, V e.2
end
end ST
namespace SL
open PySem PySem.Spec PyProof.Rows L2 CL DL SD ST
noncomputable def tupI (k : List Int) : D := .tuple (k.map PyData.int)
section
variable {X : Cx} {pins : List (Addr × Obj)} {σ : L2.St} {H : Hp} {s : Shared}
abbrev VT (K : PySem.W.Frag) (H : Hp) (v : Value) : Prop := ∃ b, ∃ xs : List Int, v = .ref b /\ SqT K H b (xs.map V.int)
noncomputable def StV (X : Cx) (pins : List (Addr × Obj)) (σ : L2.St) (Q : KsK) (u : Value) (s' : Shared) : Prop :=
 ∃ a o ks H', u = .ref a /\ Inv X ((a, o) :: pins) σ H' s' /\ SetV X.prog X.w (VT X.K H') s'.heap a o ks /\ Q ks H'
noncomputable def PSv (X : Cx) (e : Expr) (t : TSt) : Prop :=
 ∀ (pins : List (Addr × Obj)) (s : Shared) (σ : L2.St) (H : Hp) (Q : KsK), Inv X pins σ H s -> t σ H Q -> wpAny (model X.prog X.w) X.A (eval e X.env) (StV X pins σ Q) X.xe s
noncomputable def DSv (X : Cx) (e : Expr) (g : Rho -> Option (List (List Int))) : Prop := PSv X e (tDSt X.K g)
theorem zK7 {e : Expr} {t : TSt} (h : PSt X e t) : PSv X e t := fun pins s σ H Q I q => thn (h pins s σ H Q I q) fun u s1 zz => by
 obtain ⟨a, o, ks, H1, eu, I1, S, _, q⟩ := zz
 obtain ⟨o', es, ep, t, z1, z2, z3, z4, z5, z6, z7, z8⟩ := S
 have e : s1.heap.get? a = some o := (I1.pin (a, o) (List.mem_append_right _ List.mem_cons_self)).1
 rw [z1] at e
 cases e
 exact ⟨a, o, ks, H1, eu, I1, ⟨es, ep, t, ⟨z1, z2, z3, z4.fits (by simp), z4.up, z5.1, z5.2⟩, z6, z7, z8⟩, q⟩
theorem zNQ {e : Expr} {g : Rho -> Option (List (List Int))} (h : DSt X e g) : DSv X e g := zK7 h
theorem zHx {F : Addr -> Prop} (I : Inv X pins σ H s) : ∀ {es : List (Int × Value)} {ks : List (List Int)}, Ents X.prog X.w s.heap es ks -> (∀ e ∈ es, VT X.K H e.2) -> ∃ vs : List V, Reps X.K F H (ks.map tupI) vs /\ Vals vs (es.map (·.2))
 | _, _, .nil, _ => ⟨[], .nil, .nil⟩
 | _, _, .cons (k := k) (b := b) h1 r, hv => by
  obtain ⟨vs, r1, r2⟩ := zHx (F := F) I r fun e he => hv e (List.mem_cons_of_mem _ he)
  obtain ⟨b', xs, e1, e2⟩ := hv _ List.mem_cons_self
  cases e1
  have : k = xs := h1.unique (zC3 I e2)
  subst this
  exact ⟨.ref b :: vs, .cons (.tup e2 (zDz k)) r1, .cons rfl r2⟩
end
theorem zOe {d0 : List D} {ds ds' : List D} (p : List.Perm ds ds') : ∀ {l : List KD}, zAT d0 ds = some l -> ∃ l', zAT d0 ds' = some l' /\ List.Perm l' l := by
 induction p with
 | nil => intro l h; exact ⟨l, h, .refl _⟩
 | cons x _ ih =>
  intro l h
  obtain ⟨k, e1, h⟩ := bnd h
  obtain ⟨r, e2, h⟩ := bnd h
  cases h
  obtain ⟨l', q1, q2⟩ := ih e2
  exact ⟨(k, x) :: l', by unfold zAT; rw [e1, q1]; rfl, q2.cons _⟩
 | swap x y l0 =>
  intro l h
  obtain ⟨k, e1, h⟩ := bnd h
  obtain ⟨r, e2, h⟩ := bnd h
  cases h
  obtain ⟨k2, e3, h⟩ := bnd e2
  obtain ⟨r2, e4, h⟩ := bnd h
  cases h
  exact ⟨(k2, x) :: (k, y) :: r2, by unfold zAT; rw [e3]; unfold zAT; rw [e1, e4]; rfl, .swap _ _ _⟩
 | trans _ _ ih1 ih2 =>
  intro l h
  obtain ⟨l1, q1, q2⟩ := ih1 h
  obtain ⟨l2, q3, q4⟩ := ih2 q1
  exact ⟨l2, q3, q4.trans q2⟩
theorem zOU {d0 : List D} {ds ds' : List D} {l l' : List KD} (h : zAT d0 ds = some l) (h' : zAT d0 ds' = some l') (p : List.Perm l' l) : zAQ l' = zAQ l := by
 refine zEQ (((zCR l').trans p).trans (zCR l).symm) (zCX l') (zCX l) fun a ha b hb e => ?_
 have r := (zFs h').2
 have h1 := r a ((zCR l').mem_iff.mp ha)
 have h2 := r b ((zCR l').mem_iff.mp hb)
 rw [e] at h1
 exact Prod.ext e (zC4 h1 h2)
noncomputable def zDV (g : Rho -> Option (List (List Int))) : Rho -> Option D := fun ρ => (g ρ).bind fun kl => zCf [.list ((dd kl).map tupI)]
section
variable {X : Cx} {e : Expr} {p pos : Pos} {g : Rho -> Option (List (List Int))}
theorem zL4 {x : Str} (hc : X.calm = true) (hu : X.A.units + 66 < cLine) (hg : Gl X x) (hm : X.mg x = none) (hv : bootBuiltins x = some (.builtin "sorted")) (ha : DSv X e g) (hn : x ≠ "__name__" := by decide) (hdb : (x == ("__debug__" : Str)) = false := by decide)
  (he : starEach [e] X.env = (false, eval e X.env) :: starEach [] X.env := by rfl) (hpl : (backTo pos (starEach [] X.env)).any (·.1) = false := by rfl) :
  DE X (.Call (.Name x p) [e] [] pos) (zDV g) := by
 intro pins s σ H Q I ⟨F, H₀, ρ, d, S, q, k⟩
 obtain ⟨kl, e1, q⟩ := bnd q
 refine wpAny_Call_Name_kw (zBP I hg hm hv ?_ hn hdb)
 refine PyProof.Rows.callWith_builtin1 (Q := ?_) ?_ he hpl
 rw [he]
 show wpAny _ _ (spliced ((false, eval e X.env) :: backTo pos (starEach [] X.env))) _ _ s
 refine Calls.spliced_cons (thn (ha pins s σ H (fun ks H1 => ks.Nodup /\ (∀ k, k ∈ ks ↔ k ∈ kl) /\ ∃ F1, Ext F F1 H H1) I ⟨F, H₀, ρ, kl, S, e1, fun F1 H1 ks E1 n1 m1 => ⟨n1, m1, F1, E1⟩⟩) fun u s1 ⟨a, o, ks, H1, eu, I1, ⟨es, ep, t, S1, X1, n1, v1⟩, _, m1, F1, E1⟩ => ?_)
 refine Calls.spliced_nil ?_
 subst eu
 refine Calls.call_function_entry kind_sorted plain_sorted entry_sorted (args_sorted1 _) ?_
 unfold Builtin.«sorted»
 have pk : List.Perm ks (dd kl) := (List.perm_ext_iff_of_nodup n1 (zFI kl)).mpr fun k => (m1 k).trans zEf.symm
 have hlen : es.size = (dd kl).length := by rw [<- Array.length_toList, X1.length, pk.length_eq]
 have l64 : (dd kl).length < 64 := by
  cases c : dd kl with
  | nil => decide
  | cons k0 kr =>
   rw [c] at q
   have q' : (if (kr.map tupI).length < 63 then _ else none) = some d := q
   by_cases z : (kr.map tupI).length < 63
   ·rw [List.length_map] at z; simp; omega
   ·rw [if_neg z] at q'; cases q'
 refine wpAny_bind (m := checkCount "sorted" 1 1 _) (wpAny_pure (wpAny_bind (PySem.W.kdu_collect (zLJ a o es ep t) (by simp [I1.ok.hd hc]) S1 (zA8 (by omega)) fun h' tk acc hk hacc => ?_)))
 have I2 : Inv X pins σ H1 { s1 with heap := h', toks := tk } := (I1.pins_of fun p hp => I1.pin p (List.mem_append_right _ (List.mem_cons_of_mem _ hp))).kept hk
 obtain ⟨ks', X2, p2⟩ := (X1.mono fun k b x => x.at fun o e => hk b o e).perm (zFw X.w a ep es).symm
 obtain ⟨vs, r1, r2⟩ := zHx (F := F1) I2 X2 fun e he => v1 e ((zFw X.w a ep es).mem_iff.mp he)
 rw [<- zK1 hacc] at r2
 have form : ∃ d0 l, zAT d0 ((dd kl).map tupI) = some l /\ d = .list ((zAQ l).map (·.2)) := by
  cases c : dd kl with
  | nil => rw [c] at q; cases q; exact ⟨[], [], rfl, rfl⟩
  | cons k0 kr =>
   rw [c] at q
   have q' : (if (kr.map tupI).length < 63 then (zAT (k0.map PyData.int) ((k0 :: kr).map tupI)).bind fun l => some (PyData.list ((zAQ l).map (·.2))) else none) = some d := q
   by_cases z : (kr.map tupI).length < 63
   ·rw [if_pos z] at q'
    obtain ⟨l, e2, q'⟩ := bnd q'
    cases q'
    exact ⟨_, l, e2, rfl⟩
   ·rw [if_neg z] at q'; cases q'
 obtain ⟨d0, l, f1, rfl⟩ := form
 obtain ⟨l', f2, f3⟩ := zOe ((p2.trans pk).map tupI).symm f1
 refine zI4 hu I2 r2 r1 f2 (by rw [List.length_map, (p2.trans pk).length_eq]; exact l64) fun p vs' hp r' _ => ?_
 rw [zOU f1 f2 f3] at r'
 exact k _ _ _ (E1.trans (Ext.frozen hp)) (Rep.newLst hp r')
end
end SL
namespace SL
open PySem PySem.Spec PyProof.Rows L2 CL DL SD
section
variable {X : Cx} {e st : Expr} {p2 pos : Pos}
end
end SL
namespace TL
open PySem PySem.Spec PyProof.Rows L2 HT
theorem zNw : fillsNumberSlot (.type "tuple") "mul" = pure false :=
 PySem.fillsNumberSlot_seq (id := "tuple.__mul__") (r := some (.builtin "tuple.__rmul__")) PySem.F.slot_tuple_mul.lookup (by decide +kernel) PySem.F.slot_tuple_rmul.lookup (by decide +kernel)
theorem zKs : seqRepeat? (.type "tuple") = pure (some (.builtin "tuple.__mul__")) := by
 unfold seqRepeat?
 rw [PySem.seqSlot_of (T := "tuple") (name := "__mul__") (id := "tuple.__mul__") PySem.F.slot_tuple_mul.lookup (by decide +kernel), PySem.seqSlot_of (T := "tuple") (name := "__rmul__") (id := "tuple.__rmul__") PySem.F.slot_tuple_rmul.lookup (by decide +kernel)]
 rfl
theorem zNj (a : Int) (t : Tok) (l : Addr) (items : Array Value) (n : Nat) (dd : Option Addr) (sl : Array (Option Value)) :
  Meets (Builtin.«int.__rmul__» ⟨[.int a t, .ref l], []⟩) (fun _ R s => s.heap.get? l = some { cls := .type "tuple", dict := dd, data := .seq items n, slots := sl } /\ R (.ok (.ret Value.notImplemented)) s) :=
 .of_wp fun prog w A R s h => by
  obtain ⟨hp, g, d, tk, os⟩ := s
  obtain ⟨hl, h⟩ := h
  wp_walk
  exact ⟨_, rfl, h⟩
theorem zLr (t : Tok) (l : Addr) (items : Array Value) (n : Nat) (dd : Option Addr) (sl : Array (Option Value)) (hne : items.isEmpty = false) (hsz : items.size + items.size <= 16777216) :
  Meets (Builtin.«tuple.__mul__» ⟨[.ref l, .int 2 t], []⟩) (fun _ R s => s.heap.get? l = some { cls := .type "tuple", dict := dd, data := .seq items n, slots := sl } /\ R (.ok (.ret (Value.ref s.heap.objs.size))) { s with heap := s.heap.push { cls := Value.type "tuple", data := Data.seq (items ++ items) }, toks := s.toks }) :=
 .of_wp fun prog w A R s h => by
  obtain ⟨hp, g, d, tk, os⟩ := s
  obtain ⟨hl, h⟩ := h
  have f1 := AutoSeq1.idx_int
  have c1 : (items.isEmpty || (2 : Int) == 1) = false := by rw [hne]; rfl
  have c2 : (decide ((2 : Int) <= 0) || items.isEmpty) = false := by rw [hne]; rfl
  have c3 : ¬ ((items.size : Int) * 2 > (2 ^ 63 - 1) / 8) := by
   have : ((2 : Int) ^ 63 - 1) / 8 = 1152921504606846975 := by decide
   omega
  have c4 : Builtin.Tuple.tupleTooMany ((items.size : Int) * 2) = false := by
   unfold Builtin.Tuple.tupleTooMany
   rw [sizeLine_eq]
   exact decide_eq_false (by omega)
  have c5 : (List.replicate ((2 : Int).toNat) items).foldl (fun x y => x ++ y) #[] = items ++ items := by
   show (#[] ++ items) ++ items = items ++ items
   simp
  have c6 : sizeOk (.seq (items ++ items)) := by
   show (items ++ items).size <= sizeLine
   rw [Array.size_append, sizeLine_eq]; exact hsz
  unfold Builtin.«tuple.__mul__»
  wp_walk using wpAny_loadPart' hl
  rw [if_neg c3]
  dsimp only
  rw [c4, if_neg Bool.false_ne_true, c5]
  exact wpAny_bind (m := Builtin.Tuple.tupleExact _) (wpAny_newObj_type (wpAny_pure ⟨_, rfl, h⟩) c6)
section
variable {prog : Program} {w : World} {A : Around} {E : Value -> Shared -> Prop} {s : Shared}
theorem zOq {t : Addr} {vs : List Value} {u : Tok} {Q : Value -> Shared -> Prop} (ht : IsTup s.heap t vs.toArray) (hv : vs ≠ []) (hz : vs.length + vs.length <= 16777216)
  (h : Q (.ref s.heap.objs.size) { s with heap := s.heap.push { cls := .type "tuple", data := .seq (vs ++ vs).toArray } }) : wpAny (model prog w) A (binaryOp .Mult (.ref t) (.int 2 u)) Q E s := by
 obtain ⟨⟨cls, dd, data, sl⟩, ho, hc, n, hd⟩ := id ht
 simp only at hc hd
 subst hc hd
 have hne : vs.toArray.isEmpty = false := by cases vs with
  | nil => exact absurd rfl hv
  | cons _ _ => rfl
 have e : vs.toArray ++ vs.toArray = (vs ++ vs).toArray := by simp
 refine wpAny_binaryOp_repeat_ref (T := "tuple") (U := "int") (by decide) ⟨_, ho, rfl⟩ (fun s' => typeIs_int s' 2 u) zNw PySem.F.fills_int_mul PySem.F.slot_int_rmul zKs PySem.F.slot_int_index.lookup
  (call_meets PySem.F.slot_int_rmul (typeIs_int s 2 u) PySem.F.entry_int_rmul (PySem.F.args_int_rmul_2 _ _) (zNj 2 u t vs.toArray n dd sl)
   ⟨ho, rfl, ⟨_, ho, rfl⟩, call_meets PySem.F.slot_tuple_mul ⟨_, ho, rfl⟩ PySem.F.entry_tuple_mul (PySem.F.args_tuple_mul_2 _ _) (zLr u t vs.toArray n dd sl hne (by simpa using hz)) ⟨ho, ?_⟩⟩)
 rw [e]
 exact h
theorem zLH {t b : Addr} {ws : List Value} {Q : Value -> Shared -> Prop} (ht : IsTup s.heap t #[]) (hb : IsTup s.heap b ws.toArray) (h : Q (.ref b) s) : wpAny (model prog w) A (binaryOp .Add (.ref t) (.ref b)) Q E s := by
 obtain ⟨⟨cls, dd, data, sl⟩, ho, hc, n, hd⟩ := id ht
 obtain ⟨⟨cls2, dd2, data2, sl2⟩, ho2, hc2, n2, hd2⟩ := id hb
 simp only at hc hd hc2 hd2
 subst hc hd hc2 hd2
 exact concat_meets ⟨_, ho, rfl⟩ ⟨_, ho2, rfl⟩ noFill_tuple_add seq_tuple_add PySem.F.slot_tuple_add PySem.F.entry_tuple_add (PySem.F.args_tuple_add_2 _ _) (tuple_addW0 t b #[] ws.toArray n n2 dd dd2 sl sl2 rfl) ⟨ho, ho2, h⟩
theorem zLx {t b : Addr} {vs ws : List Value} {Q : Value -> Shared -> Prop} (ht : s.heap.IsList t vs.toArray) (hb : s.heap.IsList b ws.toArray) (hz : vs.length + ws.length <= sizeLine)
  (h : Q (.ref s.heap.objs.size) { s with heap := s.heap.push { cls := .type "list", data := .seq (vs ++ ws).toArray } }) : wpAny (model prog w) A (binaryOp .Add (.ref t) (.ref b)) Q E s := by
 obtain ⟨⟨cls, dd, data, sl⟩, ho, hc, n, hd⟩ := id ht
 obtain ⟨⟨cls2, dd2, data2, sl2⟩, ho2, hc2, n2, hd2⟩ := id hb
 simp only at hc hd hc2 hd2
 subst hc hd hc2 hd2
 have e : vs.toArray ++ ws.toArray = (vs ++ ws).toArray := by simp
 refine concat_meets ⟨_, ho, rfl⟩ ⟨_, ho2, rfl⟩ noFill_list_add seq_list_add PySem.F.slot_list_add PySem.F.entry_list_add (PySem.F.args_list_add_2 _ _) (list_addW t b vs.toArray ws.toArray n n2 dd dd2 sl sl2 (by simpa using hz)) ⟨ho, ho2, ?_⟩
 rw [e]
 exact h
end
end TL
namespace SL
open PySem PySem.Spec PyProof.Rows L2 CL DL SD TL
section
variable {X : Cx} {e st : Expr} {p2 pos : Pos}
theorem zLD : OpR X (binaryOp .Mult) (fun x y H Q => ∃ a xs, x = .ref a /\ y = .int 2 /\ SqT X.K H a xs /\ xs ≠ [] /\ xs.length <= 1000 /\ ∀ p, H p = none -> Q (.ref p) (upd H p (.tup (xs ++ xs)))) := by
 intro pins s σ H x y v u Q I rx ry h
 obtain ⟨a, xs, rfl, rfl, ha, hx, hz, q⟩ := h
 cases rx
 obtain ⟨t, rfl⟩ := ry
 obtain ⟨its, r1, p1, _⟩ := I.tuple ha
 refine zOq p1 (fun z => hx (r1.nil_iff.mp z)) (by rw [<- r1.length]; omega) ?_
 refine ⟨.ref s.heap.objs.size, _, I.laid (t' := s.toks) (o := .tup (xs ++ xs)) (fun b ob q => Heap.get?_push_of_some _ q) (Nat.le_refl _) ?_, rfl, q _ (I.hok.fresh (Nat.le_refl _))⟩
 exact ⟨by rw [List.length_append, sizeLine_eq]; omega, _, r1.append r1, IsTup.new _ _⟩
theorem zM8 : OpR X (binaryOp .Add) (fun x y H Q => ∃ a b ys, x = .ref a /\ y = .ref b /\ SqT X.K H a [] /\ SqT X.K H b ys /\ Q (.ref b) H) := by
 intro pins s σ H x y v u Q I rx ry h
 obtain ⟨a, b, ys, rfl, rfl, ha, hb, q⟩ := h
 cases rx
 cases ry
 obtain ⟨its, r1, p1, _⟩ := I.tuple ha
 obtain ⟨its2, r2, p2, _⟩ := I.tuple hb
 cases r1
 exact zLH p1 p2 ⟨.ref b, H, I, rfl, q⟩
theorem zJ9 : OpR X (binaryOp .Add) (fun x y H Q => ∃ a b xs ys, x = .ref a /\ y = .ref b /\ SqL X.K H a xs /\ SqL X.K H b ys /\ xs.length + ys.length <= 1000 /\ ∀ p, H p = none -> Q (.ref p) (upd H p (.lst (xs ++ ys)))) := by
 intro pins s σ H x y v u Q I rx ry h
 obtain ⟨a, b, xs, ys, rfl, rfl, ha, hb, hz, q⟩ := h
 cases rx
 cases ry
 obtain ⟨its, r1, p1, _⟩ := I.list ha
 obtain ⟨its2, r2, p2, _⟩ := I.list hb
 refine zLx p1.isList p2.isList (by rw [<- r1.length, <- r2.length]; exact zA8 hz) ?_
 refine ⟨.ref s.heap.objs.size, _, I.laid (t' := s.toks) (o := .lst (xs ++ ys)) (fun b ob q => Heap.get?_push_of_some _ q) (Nat.le_refl _) ?_, rfl, q _ (I.hok.fresh (Nat.le_refl _))⟩
 exact ⟨by rw [List.length_append]; exact zA8 hz, _, 0, r1.append r2, Heap.get?_push_size _ rfl⟩
noncomputable def dSl2 : D -> Option Int -> Option Int -> Option D
 | .list xs, lo, hi => some (.list (DL.cutD xs lo hi))
 | .tuple xs, lo, hi => some (.tuple (DL.cutD xs lo hi))
 | _, _, _ => none
noncomputable def eSl2 (ga : Rho -> Option D) (gl gh : Rho -> Option (Option Int)) : Rho -> Option D := fun ρ => (ga ρ).bind fun d => (gl ρ).bind fun l => (gh ρ).bind fun h => dSl2 d l h
noncomputable def zAu : D -> D -> Option D
 | .int i, .int j => some (.int (i + j))
 | .tuple xs, .tuple ys => if xs.length + ys.length <= 1000 then some (.tuple (xs ++ ys)) else none
 | .list xs, .list ys => if xs.length + ys.length <= 1000 then some (.list (xs ++ ys)) else none
 | _, _ => none
theorem zEr {α β : Type} {xs : List α} {ys : List β} (h : xs.length = ys.length) (e : ys = []) : xs = [] := by subst e; exact List.eq_nil_of_length_eq_zero h
theorem zAK : OpR X (binaryOp .Add) (rD2 X.K zAu) := zCF (zL9.or (zKe.or (zM8.or zJ9))) fun x y H Q zz => by
 obtain ⟨F, d, e, q, z, R1, R2, hq, k⟩ := zz
 unfold zAu at hq
 split at hq
 ·cases hq
  cases R1
  cases R2
  exact .inl ⟨_, _, rfl, rfl, k F H _ (Ext.refl F H) (.int _)⟩
 ·rename_i xs ys
  by_cases c : xs.length + ys.length <= 1000
  ·rw [if_pos c] at hq
   cases hq
   cases R1 with
   | @tup a vs _ h1 r1 =>
    cases R2 with
    | @tup b us _ h2 r2 =>
     by_cases n : vs = []
     ·subst n
      have : xs = [] := zEr r1.length rfl
      subst this
      exact .inr (.inr (.inl ⟨a, b, us, rfl, rfl, h1, h2, k F H _ (Ext.refl F H) (.tup h2 r2)⟩))
     ·refine .inr (.inl ⟨a, b, vs, us, rfl, rfl, h1, h2, n, zA8 (by rw [<- r1.length, <- r2.length]; exact c), fun e => ?_, fun e p hp => ?_⟩)
      ·have : ys = [] := zEr r2.length e
       subst this
       rw [List.append_nil] at k
       exact k F H _ (Ext.refl F H) (.tup h1 r1)
      ·exact k F _ _ (Ext.fresh hp) (Rep.newTup hp (r1.append r2))
  ·rw [if_neg c] at hq; cases hq
 ·rename_i xs ys
  by_cases c : xs.length + ys.length <= 1000
  ·rw [if_pos c] at hq
   cases hq
   cases R1 with
   | @lst a vs _ h1 r1 =>
    cases R2 with
    | @lst b us _ h2 r2 =>
     exact .inr (.inr (.inr ⟨a, b, vs, us, rfl, rfl, h1.sq, h2.sq, by rw [<- r1.length, <- r2.length]; exact c, fun p hp => k _ _ _ (Ext.frozen hp) (Rep.newLst hp (r1.append r2))⟩))
  ·rw [if_neg c] at hq; cases hq
 ·cases hq
noncomputable def zAz : D -> D -> Option D
 | .int i, .int j => if zBI i j = true then some (.int (i * j)) else none
 | .tuple xs, .int j => if j = 2 /\ xs ≠ [] /\ xs.length <= 500 then some (.tuple (xs ++ xs)) else none
 | _, _ => none
theorem zBg : OpR X (binaryOp .Mult) (rD2 X.K zAz) := zCF ((zJs (X := X)).or zLD) fun x y H Q zz => by
 obtain ⟨F, d, e, q, z, R1, R2, hq, k⟩ := zz
 unfold zAz at hq
 split at hq
 ·exact .inl ⟨F, _, _, q, z, R1, R2, hq, k⟩
 ·rename_i xs j
  by_cases c : j = 2 /\ xs ≠ [] /\ xs.length <= 500
  ·rw [if_pos c] at hq
   cases hq
   obtain ⟨rfl, c1, c2⟩ := c
   cases R2
   cases R1 with
   | @tup a vs _ h1 r1 =>
    exact .inr ⟨a, vs, rfl, rfl, h1, fun e => c1 (zEr r1.length e), by rw [<- r1.length]; omega, fun p hp => k F _ _ (Ext.fresh hp) (Rep.newTup hp (r1.append r1))⟩
  ·rw [if_neg c] at hq; cases hq
 ·cases hq
noncomputable def dLt2 : D -> D -> Option D
 | .int i, .int j => some (.bool (decide (i < j)))
 | .tuple xs, .tuple ys => (zAC xs).bind fun a => (zAC ys).bind fun b => some (.bool (HT.lexLt a b))
 | _, _ => none
theorem zGU (hu : X.A.units + 64 < cLine) : OpR X (compareOp .Lt) (rD2 X.K dLt2) := zCF (op_lt.or (zMC (by omega))) fun x y H Q zz => by
 obtain ⟨F, d, e, q, z, R1, R2, hq, k⟩ := zz
 unfold dLt2 at hq
 split at hq
 ·cases hq
  cases R1
  cases R2
  exact .inl ⟨_, _, rfl, rfl, k F H _ (Ext.refl F H) (.bl _)⟩
 ·obtain ⟨a, e1, hq⟩ := bnd hq
  obtain ⟨b, e2, hq⟩ := bnd hq
  cases hq
  cases R1 with
  | @tup u vs _ h1 r1 =>
   cases R2 with
   | @tup u' us _ h2 r2 =>
    rw [zDE r1 e1] at h1
    rw [zDE r2 e2] at h2
    exact .inr ⟨u, u', a, b, rfl, rfl, h1, h2, k F H _ (Ext.refl F H) (.bl _)⟩
 ·cases hq
end
end SL
namespace EL
open PySem PySem.Spec PyProof.Rows L2 DL ZL
open AutoSeq1 (wpAny_loadPart')
theorem zJH (l : Addr) (items : Array Value) (n : Nat) (dct : Option Addr) (sl : Array (Option Value)) :
  Meets (Builtin.«enumerate.__new__» ⟨[.type "enumerate", .ref l], []⟩) (fun _ R s => s.heap.get? l = some { cls := .type "tuple", dict := dct, data := .seq items n, slots := sl } /\
   R (.ok (.ret (.ref (s.heap.push { cls := .type "tuple_iterator", data := .fields #[.ref l, .int 0 0] }).objs.size)))
    { s with heap := (s.heap.push { cls := .type "tuple_iterator", data := .fields #[.ref l, .int 0 0] }).push { cls := .type "enumerate", data := .fields #[.none, .bool false, .ref s.heap.objs.size, rawInt 0, .none, .none] } }) :=
 .of_wp fun prog w A R s h => by
  obtain ⟨hp, g, d, tk, os⟩ := s
  obtain ⟨hl, h⟩ := h
  have hsub := sub_enumerate
  have hT : Heap.IsTuple (Shared.heap ⟨hp, g, d, tk, os⟩) l items := ⟨_, hl, rfl, n, rfl⟩
  wp_walk using wpAny_loadPart' hl
  refine wpAny_stack_any fun st => wpAny_pure ?_
  split
  ·rename_i c _ _ _ _ _
   cases (c == Value.type "enumerate") <;> (wp_walk using wpAny_loadPart' hl, wpAny_pyIter_tuple hT; exact ⟨_, rfl, h⟩)
  ·wp_walk using wpAny_loadPart' hl, wpAny_pyIter_tuple hT
   exact ⟨_, rfl, h⟩
section
variable {prog : Program} {w : World} {A : Around} {E : Value -> Shared -> Prop} {s : Shared}
theorem zNB {l : Addr} {items : Array Value} {Q : Value -> Shared -> Prop} (hT : s.heap.IsTuple l items)
  (h : ∀ h', IsEnum h' (s.heap.objs.size + 1) s.heap.objs.size 0 .none -> h'.IsTupleIter s.heap.objs.size l 0 -> h'.objs.size = s.heap.objs.size + 2 ->
   (∀ b o, s.heap.get? b = some o -> h'.get? b = some o) -> Q (.ref (s.heap.objs.size + 1)) { s with heap := h' }) :
  wpAny (model prog w) A (call (.type "enumerate") [.ref l]) Q E s := by
 obtain ⟨⟨c, dct, dt, sl⟩, hl, hc, n, hd⟩ := hT
 replace hc : c = .type "tuple" := hc
 replace hd : dt = .seq items n := hd
 subst hc hd
 refine callType_new F.called_enumerate (by decide) (F.typeCall_enumerate_1 _) (F.newCall_enumerate_1 _) (fun obj => F.args_object_init_2 obj _) F.entry_enumerate_new
  (zJH l items n dct sl) ⟨hl, ?_⟩
 have hz : (s.heap.push { cls := .type "tuple_iterator", data := .fields #[.ref l, .int 0 0] }).objs.size = s.heap.objs.size + 1 := Heap.size_push ..
 show _ /\ _
 rw [hz]
 have he : IsEnum ((s.heap.push { cls := .type "tuple_iterator", data := .fields #[.ref l, .int 0 0] }).push
   { cls := .type "enumerate", data := .fields #[.none, .bool false, .ref s.heap.objs.size, rawInt 0, .none, .none] }) (s.heap.objs.size + 1) s.heap.objs.size 0 .none := by
  have := Heap.get?_push_size (s.heap.push { cls := .type "tuple_iterator", data := .fields #[.ref l, .int 0 0] })
   (o := { cls := .type "enumerate", data := .fields #[.none, .bool false, .ref s.heap.objs.size, rawInt 0, .none, .none] }) rfl
  rw [hz] at this; exact this
 exact ⟨⟨_, he, rfl⟩, h _ he ⟨_, Heap.get?_push_of_some _ (Heap.get?_push_size _ rfl), rfl, rfl⟩ (by rw [Heap.size_push, hz]) fun b o x => Heap.get?_push_of_some _ (Heap.get?_push_of_some _ x)⟩
theorem zMi {it t : Addr} {i : Nat} {items : Array Value} {x : Value} {Q : Value -> Shared -> Prop} (hit : s.heap.IsTupleIter it t i) (ht : s.heap.IsTuple t items) (hx : items[i]? = some x)
  (hQ : ∀ h', h'.IsTupleIter it t (i + 1) -> Heap.SameBut it s.heap h' -> Q x { s with heap := h' }) : wpAny (model prog w) A (Builtin.SmallTypes.nextOf (.ref it)) Q E s := by
 obtain ⟨o, ho, hc, hd⟩ := id hit
 obtain ⟨ol, hol, _, nl, hdl⟩ := ht
 unfold Builtin.SmallTypes.nextOf
 refine wpAny_bind (wpAny_callSpecial?_slot (name := Str.ofString "__next__") hit.typeIs F.slot_tuple_iterator_next
  (wpAny_call_entry F.slot_tuple_iterator_next hit.typeIs F.entry_tuple_iterator_next ?_ (F.args_tuple_iterator_next_1 _)))
 show wpAny _ _ (field (.ref it) 0 >>= _) _ _ s
 refine wpAny_bind (wpAny_field ho hd (x := .ref t) rfl ?_)
 show wpAny _ _ (if (Value.ref t == Value.none) = true then _ else _) _ _ s
 rw [if_neg (show ¬ ((Value.ref t == Value.none) = true) from Bool.false_ne_true)]
 show wpAny _ _ (field (.ref it) 1 >>= _) _ _ s
 refine wpAny_bind (wpAny_field ho hd (x := .int i 0) rfl ?_)
 show wpAny _ _ (seqItems? (.ref t) >>= _) _ _ s
 refine wpAny_bind (wpAny_seqItems hol hdl ?_)
 simp only [Int.toNat_natCast, hx]
 refine wpAny_bind (wpAny_setField ho hd (by simp) (wpAny_pure ⟨x, rfl, wpAny_pure (hQ _ ?_ (Heap.SameBut.update ..))⟩))
 refine ⟨_, Heap.get?_update_self _ ho (Obj.isFreed_of_fields (Obj.data_mapFields hd _)), (Obj.cls_mapFields ..).trans hc, ?_⟩
 rw [Obj.data_mapFields hd]
 simp [rawInt]
theorem zIA {it t : Addr} {i : Nat} {items : Array Value} {Q : Value -> Shared -> Prop} (hh : A.handled = none) (hit : s.heap.IsTupleIter it t i) (ht : s.heap.IsTuple t items) (hx : items[i]? = none)
  (hE : ∀ h' e, Heap.ExtBut it s.heap h' -> (∃ o, h'.get? e = some o /\ o.cls = .type "StopIteration") -> E (.ref e) { s with heap := h' }) : wpAny (model prog w) A (Builtin.SmallTypes.nextOf (.ref it)) Q E s := by
 obtain ⟨o, ho, hc, hd⟩ := id hit
 obtain ⟨ol, hol, _, nl, hdl⟩ := ht
 unfold Builtin.SmallTypes.nextOf
 refine wpAny_bind (wpAny_callSpecial?_slot (name := Str.ofString "__next__") hit.typeIs F.slot_tuple_iterator_next
  (wpAny_call_entry F.slot_tuple_iterator_next hit.typeIs F.entry_tuple_iterator_next ?_ (F.args_tuple_iterator_next_1 _)))
 show wpAny _ _ (field (.ref it) 0 >>= _) _ _ s
 refine wpAny_bind (wpAny_field ho hd (x := .ref t) rfl ?_)
 show wpAny _ _ (if (Value.ref t == Value.none) = true then _ else _) _ _ s
 rw [if_neg (show ¬ ((Value.ref t == Value.none) = true) from Bool.false_ne_true)]
 show wpAny _ _ (field (.ref it) 1 >>= _) _ _ s
 refine wpAny_bind (wpAny_field ho hd (x := .int i 0) rfl ?_)
 show wpAny _ _ (seqItems? (.ref t) >>= _) _ _ s
 refine wpAny_bind (wpAny_seqItems hol hdl ?_)
 simp only [Int.toNat_natCast, hx]
 refine wpAny_bind (wpAny_rule (wpAny_bind (wpAny_setField ho hd (by simp) ?_)))
 show wpAny _ _ (newExc (.type "StopIteration") [] >>= _) _ _ _
 refine wpAny_bind ?_
 simp only [newExc, newTuple]
 refine wpAny_bind (wpAny_newObj_type ?_ (by size_fits))
 refine wpAny_bind (m := firstArgMember _ _) (wpAny_of_eq (a := Value.none) (by first | rfl | (simp only [firstArgMember]; rfl)) ?_)
 refine wpAny_newObj_type ?_ (by size_fits)
 simp only [raiseNew]
 refine wpAny_bind (wpAny_handled ?_)
 first | rw [show A.in1.handled = none from hh] | rw [hh]
 refine wpAny_bind (wpAny_pure (wpAny_throw ?_))
 exact hE _ _ (((Heap.SameBut.update ..).extBut.push _).push _) ⟨_, Heap.get?_push_size _ rfl, rfl⟩
end
theorem zM7 {prog : Program} {w : World} {A : Around} (hh : A.handled = none) (it t : Addr) (hne : t ≠ it) (items : Array Value) :
  Draws prog w A it [it, t] items.size (fun i v => items[i]? = some v) (fun i h => h.IsTupleIter it t i /\ h.IsTuple t items) where
 live := fun _ _ st => let ⟨o, ho, _⟩ := st.1; ⟨o, ho⟩
 frame := fun _ _ _ st hk => ⟨st.1.at fun o e => hk it (by simp) o e, st.2.at fun o e => hk t (by simp) o e⟩
 item := fun i s Q E hi st hQ => zMi st.1 st.2 (x := items[i]) (by simp [hi]) fun h' hit' hs' => hQ _ h' s.toks (by simp [hi]) ⟨hit', st.2.extBut hs'.extBut hne⟩ hs'
 done := fun s Q E st hE => zIA hh st.1 st.2 (by simp) hE
noncomputable def Ite (SQ : Hp -> List V -> Prop) : It :=
 ⟨fun i H => ∃ xs x, SQ H xs /\ xs[i]? = some x,
  fun i H v H' => ∃ p, H p = none /\ v = .ref p /\ ∃ x, H' = upd H p (.tup [.int i, x]) /\ ∀ xs, SQ H xs -> xs[i]? = some x,
  fun i H => ∃ xs, SQ H xs /\ xs.length <= i⟩
structure ESrc (P : Program) (w : World) (K : PySem.W.Frag) (SQ : Hp -> List V -> Prop) (a it : Addr) (IT : Nat -> Heap -> Prop) (IS : Heap -> Array Value -> Prop) : Prop where
 sq : ∀ (X : Cx) (pins : List (Addr × Obj)) (σ : L2.St) (H : Hp) (s : Shared) (xs : List V), X.K = K -> L2.Inv X pins σ H s -> SQ H xs -> (∃ its, Vals xs its /\ IS s.heap its.toArray) /\ ∀ ys, SQ H ys -> ys = xs
 ob : ∀ i h, IT i h -> ∃ o, h.get? it = some o /\ ∀ v, o.data ≠ .cell v
 kp : ∀ i h h', IT i h -> (∀ o, h.get? it = some o -> h'.get? it = some o) -> IT i h'
 D : ∀ (A : Around) (items : Array Value), A.handled = none -> Draws P w A it [it, a] items.size (fun i v => items[i]? = some v) (fun i h => IT i h /\ IS h items)
 Z : ∀ (A : Around) (items : Array Value) (i : Nat), A.handled = none -> items.size <= i -> Draws P w A it [it, a] i (fun _ _ => False) (fun j h => j = i /\ IT i h /\ IS h items)
theorem zGr {P : Program} {w : World} {K : PySem.W.Frag} {elts : List Expr} {x1} {tpos : Pos} {SQ : Hp -> List V -> Prop} (a e it : Addr) (hei : e ≠ it) (hea : e ≠ a) {IT : Nat -> Heap -> Prop} {IS : Heap -> Array Value -> Prop} (Z : ESrc P w K SQ a it IT IS) :
  Turn P w K (.Tuple elts x1 tpos) (Ite SQ) [e, it] e (fun i h => (∃ old, IsEnum h e it i old) /\ IT i h) where
 mem := by simp
 obj := fun i h st c hc => by
  obtain ⟨⟨old, h1⟩, h2⟩ := st
  rcases List.mem_cons.mp hc with rfl | hc
  ·exact ⟨_, h1, fun v z => by have z' : Data.fields _ = Data.cell v := z; cases z'⟩
  ·rw [List.mem_singleton.mp hc]; exact Z.ob i h h2
 keep := fun i h h' st k => by
  obtain ⟨⟨old, h1⟩, h2⟩ := st
  exact ⟨⟨old, k e (by simp) _ h1⟩, Z.kp i h h' h2 fun o q => k it (by simp) o q⟩
 item := by
  intro X hP hw hK hc i pins s σ H E I hf st hg
  subst hP hw
  obtain ⟨xs, x, ha, hx⟩ := hg
  obtain ⟨⟨old, h1⟩, h2⟩ := st
  obtain ⟨⟨its, rv, pl⟩, inj⟩ := Z.sq X pins σ H s xs hK I ha
  obtain ⟨xu, ex, rx⟩ := rv.get hx
  have hlt : i < its.toArray.size := by
   have := (List.getElem?_eq_some_iff.mp ex).1
   simpa using this
  have hef : e ∉ [it, a] := by simp only [List.mem_cons, List.not_mem_nil, or_false, not_or]; exact ⟨hei, hea⟩
  refine wpAny_pyNext_enum_itemD (Z.D X.A.in1 its.toArray (by simp [I.ok.hd hc])) h1 ⟨h2, pl⟩ hlt hei hef fun x' h' tk hP ho hst hT hsz hk => ⟨_, rfl, ?_⟩
  have ex' : its[i]? = some x' := by simpa using hP
  rw [ex] at ex'
  cases ex'
  refine wpAny_letOwnedTupleGo_enum ho fun h'' z1 sb => ?_
  have hn : H s.heap.objs.size = none := I.hok.fresh (Nat.le_refl _)
  have old' : ∀ c o, s.heap.get? c = some o -> c ≠ s.heap.objs.size := fun c o q => Nat.ne_of_lt (Heap.lt_size q)
  have eT : s.heap.objs.size ≠ e := (old' e _ h1).symm
  obtain ⟨oi, hoi, _⟩ := Z.ob i _ h2
  have kk : ∀ c o, c ∉ [e, it] -> s.heap.get? c = some o -> h''.get? c = some o := fun c o nc q =>
   sb.extBut c o (fun q => nc (by simp [q])) (hk c o (fun q => nc (by simp [q])) (fun q => nc (by simp [q])) q)
  have nfp : ∀ c o, H c = some o -> c ∉ [e, it] := fun c o q hc' => by
   have := (hf c hc').1
   rw [this] at q; cases q
  have hok : HOk X.prog X.w (upd H s.heap.objs.size (.tup [.int i, x])) h'' := fun c o q => by
   by_cases hcT : c = s.heap.objs.size
   ·subst hcT
    rw [zA1] at q; cases q
    exact ⟨zA8 (by simp), [.int i tk, xu], .cons ⟨tk, rfl⟩ (.cons rx .nil), ⟨_, sb.extBut _ _ eT hT, rfl, 0, rfl⟩⟩
   ·rw [zAl hcT] at q
    refine (I.hok c o q).stay (fun d v hd q => kk d v ?_ q) (fun d q => by rw [zAl (zA5 q hn)]; exact q) fun d xs q => by rw [zAl (zA5 q hn)]; exact q
    rcases hd with rfl | hd
    ·exact nfp _ _ q
    ·exact nfp _ _ hd
  refine ⟨.ref s.heap.objs.size, _, zDD (s := s) (h' := h'') (tk := tk + 1) I hf kk (fun c o q => zAl (old' c o q)) (fun c o q => by rw [zAl (zA5 q hn)]; exact q) hok, rfl, ⟨_, hn, rfl, x, rfl, fun ys hy => by rw [inj ys hy]; exact hx⟩, ⟨⟨_, by simpa using z1⟩, Z.kp _ _ _ hst.1 fun o q => sb.extBut it o (Ne.symm hei) q⟩, fun c hc' => ?_⟩
  have q := (hf c hc').1
  have nT : c ≠ s.heap.objs.size := by
   rcases List.mem_cons.mp hc' with rfl | hc'
   ·exact old' _ _ h1
   ·rw [List.mem_singleton.mp hc']; exact old' _ _ hoi
  rw [zAl nT]; exact q
 done := by
  intro X hP hw hK hc i pins s σ H E I hf st hg
  subst hP hw
  obtain ⟨xs, ha, hend⟩ := hg
  obtain ⟨⟨old, h1⟩, h2⟩ := st
  obtain ⟨⟨its, rv, pl⟩, inj⟩ := Z.sq X pins σ H s xs hK I ha
  have l1 := rv.length
  refine wpAny_pyNext_enum_endD (Z.Z X.A.in1 its.toArray i (by simp [I.ok.hd hc]) (by rw [List.size_toArray]; omega)) h1 ⟨rfl, h2, pl⟩ fun h' hx => ⟨rfl, ?_⟩
  have kk : ∀ c o, c ∉ [e, it] -> s.heap.get? c = some o -> h'.get? c = some o := fun c o nc q => hx c o (fun q => nc (by simp [q])) q
  have nfp : ∀ c o, H c = some o -> c ∉ [e, it] := fun c o q hc' => by
   have := (hf c hc').1
   rw [this] at q; cases q
  refine zDD (s := s) (h' := h') (tk := s.toks) I hf kk (fun _ _ _ => rfl) (fun _ _ q => q) fun c o q => ?_
  refine (I.hok c o q).stay (fun d v hd q => kk d v ?_ q) (fun d q => q) fun d xs q => q
  rcases hd with rfl | hd
  ·exact nfp _ _ q
  ·exact nfp _ _ hd
 self := fun _ _ _ _ _ st h => by
  obtain ⟨⟨old, h1⟩, _⟩ := st
  exact wpAny_pyIter_enum h1 h
theorem esrcT {P : Program} {w : World} {K : PySem.W.Frag} (a it : Addr) (hne : a ≠ it) : ESrc P w K (fun H xs => SqT K H a xs) a it (fun i h => h.IsTupleIter it a i) (fun h items => h.IsTuple a items) where
 sq := fun X pins σ H s xs hK I ha => by
  subst hK
  obtain ⟨its, rv, pl, _⟩ := I.tuple ha
  exact ⟨⟨its, rv, pl⟩, fun ys hy => I.tuple_inj hy ha⟩
 ob := fun i h ⟨o, ho, _, hd⟩ => ⟨o, ho, fun v z => by rw [hd] at z; cases z⟩
 kp := fun i h h' hi k => hi.at k
 D := fun A items hh => zM7 hh it a hne items
 Z := fun A items i hh hle =>
  {live := fun _ _ ⟨_, ⟨o, ho, _⟩, _⟩ => ⟨o, ho⟩
   frame := fun _ _ _ ⟨e, st, st2⟩ hk => ⟨e, st.at fun o q => hk it (by simp) o q, st2.at fun o q => hk a (by simp) o q⟩
   item := fun j s Q E hj ⟨e, _⟩ _ => absurd e (Nat.ne_of_lt hj)
   done := fun s Q E ⟨_, st, st2⟩ hE => zIA hh st st2 (Array.getElem?_eq_none hle) hE }
theorem esrcL {P : Program} {w : World} {K : PySem.W.Frag} (a it : Addr) (hne : a ≠ it) : ESrc P w K (fun H xs => SqL K H a xs) a it (fun i h => h.IsListIter it a i) (fun h items => h.IsList a items) where
 sq := fun X pins σ H s xs hK I ha => by
  subst hK
  obtain ⟨its, rv, pl, _⟩ := I.list ha
  exact ⟨⟨its, rv, pl.isList⟩, fun ys hy => I.list_inj hy ha⟩
 ob := fun i h ⟨o, ho, _, hd⟩ => ⟨o, ho, fun v z => by rw [hd] at z; cases z⟩
 kp := fun i h h' hi k => hi.at k
 D := fun A items hh => Draws.list hh it a hne items
 Z := fun A items i hh hle =>
  {live := fun _ _ ⟨_, ⟨o, ho, _⟩, _⟩ => ⟨o, ho⟩
   frame := fun _ _ _ ⟨e, st, st2⟩ hk => ⟨e, st.at fun o q => hk it (by simp) o q, st2.at fun o q => hk a (by simp) o q⟩
   item := fun j s Q E hj ⟨e, _⟩ _ => absurd e (Nat.ne_of_lt hj)
   done := fun s Q E ⟨_, st, st2⟩ hE => wpAny_nextOf_list_end hh st st2 (Array.getElem?_eq_none hle) hE }
noncomputable def zDv (K : PySem.W.Frag) (ta : TA) : TI := fun σ H R => ta σ H fun vs H1 => ∃ a, vs = [.ref a] /\ (((∃ xs, SqL K H1 a xs) /\ R (Ite fun H xs => SqL K H a xs) H1) ∨ ((∃ xs, SqT K H1 a xs) /\ R (Ite fun H xs => SqT K H a xs) H1))
theorem zOo {X : Cx} {elts : List Expr} {x1} {tpos : Pos} {a : Expr} {ta : TA} {p pos : Pos} (hg : Gl X "enumerate") (hm : X.mg "enumerate" = none) (ha : PA X [a] ta) (hs : starEach [a] X.env = [(false, eval a X.env)] := by rfl) :
  PI X (.Tuple elts x1 tpos) (.Call (.Name "enumerate" p) [a] [] pos) (zDv X.K ta) := by
 intro pins s σ H R I h
 refine Call_ (zBP I hg hm boot_enumerate (PyProof.Rows.callWith_type1 (thn (ha pos pins s σ H _ I h) fun us s1 ⟨vs, H1, I1, r1, q1⟩ => ?_) (by rw [hs]; rfl) (by rfl)))
 obtain ⟨a', e, q⟩ := q1
 subst e
 obtain ⟨u, rfl, ru⟩ := zBj r1
 cases ru
 have fin : ∀ c ∈ [s1.heap.objs.size + 1, s1.heap.objs.size], FpOk X pins H1 c := fun c hc => by
  have lc : s1.heap.objs.size <= c := by
   rcases List.mem_cons.mp hc with rfl | hc
   ·exact Nat.le_add_right _ _
   ·rw [List.mem_singleton.mp hc]; exact Nat.le_refl _
  exact I1.fpOk lc (I1.hok.fresh lc)
 rcases q with ⟨⟨xs, hx⟩, q⟩ | ⟨⟨xs, hx⟩, q⟩
 ·obtain ⟨its, rv, pl, _⟩ := I1.list hx
  refine call_enumerate_list pl.isList fun h' a1 a2 a3 hk => ?_
  have la : a' < s1.heap.objs.size := by obtain ⟨_, e, _⟩ := pl.isList; exact Heap.lt_size e
  have I2 : L2.Inv X pins σ H1 { s1 with heap := h' } := I1.kept (t' := s1.toks) hk
  refine wpAny_pyIter_enum (s := { s1 with heap := h' }) a1 ?_
  exact ⟨_, [s1.heap.objs.size + 1, s1.heap.objs.size], _, _, H1, rfl, I2, zGr a' (s1.heap.objs.size + 1) s1.heap.objs.size (Nat.succ_ne_self _) (Nat.ne_of_gt (Nat.lt_succ_of_lt la)) (esrcL a' s1.heap.objs.size (Nat.ne_of_lt la)), ⟨⟨_, a1⟩, a2⟩, fin, q⟩
 ·obtain ⟨its, rv, pl, _⟩ := I1.tuple hx
  refine zNB pl fun h' a1 a2 a3 hk => ?_
  have la : a' < s1.heap.objs.size := by obtain ⟨_, e, _⟩ := pl; exact Heap.lt_size e
  have I2 : L2.Inv X pins σ H1 { s1 with heap := h' } := I1.kept (t' := s1.toks) hk
  refine wpAny_pyIter_enum (s := { s1 with heap := h' }) a1 ?_
  exact ⟨_, [s1.heap.objs.size + 1, s1.heap.objs.size], _, _, H1, rfl, I2, zGr a' (s1.heap.objs.size + 1) s1.heap.objs.size (Nat.succ_ne_self _) (Nat.ne_of_gt (Nat.lt_succ_of_lt la)) (esrcT a' s1.heap.objs.size (Nat.ne_of_lt la)), ⟨⟨_, a1⟩, a2⟩, fin, q⟩
end EL
namespace SL
open PySem PySem.Spec PyProof.Rows L2 CL DL SD EL
noncomputable def numbered (n : Nat) : List D -> List D
 | [] => []
 | x :: xs => .tuple [.int n, x] :: numbered (n + 1) xs
theorem zHh : ∀ (xs : List D) (n i : Nat), (numbered n xs)[i]? = (xs[i]?).map fun x => .tuple [.int ((n + i : Nat) : Int), x]
 | [], n, i => by simp [numbered]
 | x :: xs, n, 0 => by simp [numbered]
 | x :: xs, n, i + 1 => by
  show (numbered (n + 1) xs)[i]? = _
  rw [zHh xs (n + 1) i, show n + 1 + i = n + (i + 1) by omega]
  rfl
theorem zF7 : ∀ (xs : List D) (n : Nat), (numbered n xs).length = xs.length
 | [], _ => rfl
 | x :: xs, n => by show (numbered (n + 1) xs).length + 1 = _; rw [zF7 xs]; rfl
noncomputable def zFP : List D -> Option (List D)
 | [.list xs] => some (numbered 0 xs)
 | [.tuple xs] => some (numbered 0 xs)
 | _ => none
theorem it_enum {K : PySem.W.Frag} {F : Addr -> Prop} {H : Hp} {SQ : Hp -> List V -> Prop} {vs : List V} {ds : List D} (h1 : ∀ F2 H2, Stay K F F2 H H2 -> SQ H2 vs) (r1 : Reps K F H ds vs) : ItD K F H (numbered 0 ds) (Ite SQ) := fun F2 H2 T z i => by
 have g1 := h1 F2 H2 T
 have s1 := r1.stay T
 refine ⟨fun d hd => ?_, fun hl => ⟨vs, g1, ?_⟩⟩
 ·rw [zHh] at hd
  cases e1 : ds[i]? with
  | none => rw [e1] at hd; cases hd
  | some x =>
   rw [e1] at hd
   cases hd
   obtain ⟨v, e3, R1⟩ := s1.get e1
   refine ⟨⟨vs, v, g1, e3⟩, fun w H3 yy => ?_⟩
   obtain ⟨p, hp, rfl, x', rfl, q1⟩ := yy
   have q3 := q1 vs g1
   rw [e3] at q3; cases q3
   refine ⟨F2, Ext.fresh hp, Rep.newTup hp (.cons ?_ (.cons R1 .nil))⟩
   rw [Nat.zero_add]
   exact .int _
 ·rw [zF7] at hl
  rw [<- s1.length]
  exact hl
theorem zJY {X : Cx} {elts : List Expr} {x1} {tpos : Pos} {a : Expr} {gr : Rho -> Option (List D)} {p pos : Pos} (hg : Gl X "enumerate") (hm : X.mg "enumerate" = none) (ha : DA X [a] gr) (hs : starEach [a] X.env = [(false, eval a X.env)] := by rfl) :
  DI X (.Tuple elts x1 tpos) (.Call (.Name "enumerate" p) [a] [] pos) (fun ρ => (gr ρ).bind zFP) :=
 zEK (zOo hg hm ha hs) fun σ H R zz => by
  obtain ⟨F, H₀, ρ, ds, S, q, k⟩ := zz
  obtain ⟨xs, e1, q⟩ := bnd q
  unfold zFP at q
  split at q
  ·cases q
   refine ⟨F, H₀, ρ, _, S, e1, fun F1 H1 vs E1 R1 => ?_⟩
   cases R1 with
   | cons r rs =>
    cases rs
    cases r with
    | @lst a' vs' _ h1 r1 => exact ⟨a', rfl, .inl ⟨⟨_, h1.sq⟩, k F1 H1 _ E1 (it_enum (fun F2 H2 T => (h1.stay T).sq) r1)⟩⟩
  ·cases q
   refine ⟨F, H₀, ρ, _, S, e1, fun F1 H1 vs E1 R1 => ?_⟩
   cases R1 with
   | cons r rs =>
    cases rs
    cases r with
    | @tup a' vs' _ h1 r1 => exact ⟨a', rfl, .inr ⟨⟨_, h1⟩, k F1 H1 _ E1 (it_enum (fun F2 H2 T => T.tp _ _ h1) r1)⟩⟩
  ·cases q
end SL
namespace SL
open PySem PySem.Spec PyProof.Rows L2 CL DL SD
noncomputable def boolsD : List D -> Option (List Bool)
 | [] => some []
 | .bool b :: r => (boolsD r).bind fun bs => some (b :: bs)
 | _ => none
theorem bools_rep {K : PySem.W.Frag} {F : Addr -> Prop} {H : Hp} : ∀ {ds : List D} {vs : List V} {bs : List Bool}, Reps K F H ds vs -> boolsD ds = some bs -> vs = bs.map V.bl := by
 intro ds
 induction ds with
 | nil => intro vs bs r h; cases r; cases h; rfl
 | cons d ds ih =>
  intro vs bs r h
  cases r with
  | cons r1 r2 =>
   cases d with
   | bool b =>
    cases r1
    obtain ⟨js, e, h⟩ := bnd h
    cases h
    rw [ih r2 e]; rfl
   | _ => cases h
theorem zFT : ∀ {bs : List Bool} {us : List Value}, Vals (bs.map V.bl) us -> us = bs.map Value.bool
 | [], _, h => by cases h; rfl
 | b :: bs, _, h => by
  cases h with
  | cons r t =>
   rw [zFT t]
   cases (show _ = Value.bool b from r)
   rfl
theorem zK9 (bs : List Bool) : (List.range bs.length).all (fun i => bs.getD i false) = bs.all id := by
 rw [Bool.eq_iff_iff, List.all_eq_true, List.all_eq_true]
 constructor
 ·intro h b hb
  obtain ⟨i, hi⟩ := List.getElem?_of_mem hb
  have := h i (List.mem_range.mpr (List.getElem?_eq_some_iff.mp hi).1)
  rw [List.getD_eq_getElem?_getD, hi] at this
  exact this
 ·intro h i hi
  have hi := List.mem_range.mp hi
  rw [List.getD_eq_getElem?_getD, List.getElem?_eq_getElem hi]
  exact h _ (List.getElem_mem hi)
section
variable {X : Cx}
theorem zNh {P : Program} {w : World} {A : Around} {bs : List Bool} : TruthOf P w A (fun i v => (bs.map Value.bool).toArray[i]? = some v) (fun i => bs.getD i false) := fun i v s Q E hP hQ => by
 have hP : (List.map Value.bool bs).toArray[i]? = some v := hP
 have hQ : Q (bs.getD i false) s := hQ
 rw [List.getElem?_toArray, List.getElem?_map] at hP
 cases e : bs[i]? with
 | none => rw [e] at hP; cases hP
 | some b =>
  rw [e] at hP
  cases hP
  rw [List.getD_eq_getElem?_getD, e] at hQ
  exact wpAny_pure hQ
theorem zMj (hc : X.calm = true) : zAJ X (.builtin "all") (fun xs H Q => ∃ (a : Addr) (bs : List Bool), xs = [.ref a] /\ SqL X.K H a (bs.map V.bl) /\ Q (.bl (bs.all id)) H) := by
 intro pins s σ H xs us Q I rv h
 obtain ⟨a, bs, rfl, ha, q⟩ := h
 obtain ⟨u, rfl, ru⟩ := zBj rv
 cases ru
 obtain ⟨its, r, pl, _⟩ := I.list ha
 have e := zFT r
 subst e
 have la : a < s.heap.objs.size := by obtain ⟨_, e, _⟩ := pl.isList; exact Heap.lt_size e
 refine call_all_walk (wpAny_pyIter_list pl.isList ⟨s.heap.objs.size, _, _, _, _, _, _, rfl, Walks.list (by simp [I.ok.hd hc]) s.heap.objs.size a (Nat.ne_of_lt la) (bs.map Value.bool).toArray, ⟨⟨_, Heap.get?_push_size _ rfl, rfl, rfl⟩, pl.isList.push _⟩, zNh, fun h' tk hk => ?_⟩)
 rw [List.size_toArray, List.length_map, zK9]
 exact ⟨.bl _, H, I.kept fun b o e => hk b o (fun z => absurd (Heap.lt_size e) (by rw [List.mem_singleton.mp z]; exact Nat.lt_irrefl _)) (Heap.get?_push_of_some _ e), rfl, q⟩
noncomputable def dAll : List D -> Option D
 | [.list xs] => (boolsD xs).bind fun bs => some (.bool (bs.all id))
 | _ => none
theorem zJp (hc : X.calm = true) : zAJ X (.builtin "all") (rDA X.K dAll) := zCQ (zMj hc) fun xs H Q zz => by
 obtain ⟨F, ds, q, z, R, hq, k⟩ := zz
 unfold dAll at hq
 split at hq
 ·obtain ⟨bs, e1, hq⟩ := bnd hq
  cases hq
  cases R with
  | cons R1 R2 =>
   cases R2
   cases R1 with
   | @lst a vs _ h1 r1 =>
    rw [bools_rep r1 e1] at h1
    exact ⟨a, bs, rfl, h1.sq, k F H _ (Ext.refl F H) (.bl _)⟩
 ·cases hq
theorem boot_all : bootBuiltins "all" = some (.builtin "all") := by decide +kernel
end
open AutoSeq1 (wpAny_loadPart')
theorem zNt (l : Addr) (items : Array Value) (n : Nat) (b : Addr) (items2 : Array Value) (n2 : Nat) (dd : Option Addr) (sl : Array (Option Value)) (hc0 : (!items.isEmpty && Builtin.List.listTooLong (items.size + items2.size)) = false) (hc1 : items.size <= sizeLine) (hs2 : items.size + items2.size <= sizeLine + 1) :
  Meets (Builtin.«list.extend» ⟨[.ref l, .ref b], []⟩) (fun _ R s => s.heap.get? l = some { cls := .type "list", dict := none, data := .seq items n, slots := #[] } /\ s.heap.get? b = some { cls := .type "list", dict := dd, data := .seq items2 n2, slots := sl } /\ R (.ok (.ret Value.none)) { s with heap := s.heap.update l (Obj.mapSeq fun x => x ++ items2), toks := s.toks }) :=
 .of_wp fun prog w A R s h => by
  obtain ⟨hp, g, d, tk, os⟩ := s
  obtain ⟨hl, hb, h⟩ := h
  have f1 := AutoSeq1.idx_int
  have f2 := AutoSeq1.sub_tuple_tuple
  have f3 := AutoSeq1.sub_list_list
  have f4 := AutoSeq1.sub_tuple_list
  have f5 := AutoSeq1.sub_list_tuple
  have hz' : (items ++ items2).size <= sizeLine + 1 := by rw [Array.size_append]; exact hs2
  wp_walk using (wpAny_updateSeq hl rfl (hz := hc1) (_hz' := hz')), wpAny_loadPart' hl, wpAny_loadPart' hb
  exact ⟨_, rfl, h⟩
section
variable {X : Cx}
theorem zJP : MtM X "list.extend" (fun x vs H Q => ∃ l b xs zs, x = .ref l /\ vs = [.ref b] /\ H l = some (.lst xs) /\ SqL X.K H b zs /\ xs.length + zs.length <= 1000 /\ Q .non (upd H l (.lst (xs ++ zs)))) := by
 intro pins s σ H x vs v us Q I rx rv h
 obtain ⟨l, b, xs, zs, rfl, rfl, hH, hB, hz, q⟩ := h
 cases rx
 obtain ⟨u, rfl, ru⟩ := rv.one
 cases ru
 obtain ⟨z, its, n, r, hl, e⟩ := I.lstM hH
 obtain ⟨its2, r2, ⟨⟨c2, dd, dt, sl⟩, n2, e2, hc2, hd2, hs2⟩, _⟩ := I.list hB
 simp only at hc2 hd2 hs2
 subst hc2 hd2 hs2
 have l1 := r.length
 have l2 := r2.length
 have hsz : its.toArray.size + its2.toArray.size <= sizeLine := by rw [List.size_toArray, List.size_toArray]; exact zA8 (by omega)
 refine call_meets F.slot_list_extend ⟨_, e, rfl⟩ F.entry_list_extend (F.args_list_extend_2 _ _)
  (zNt l its.toArray n b its2.toArray n2 _ _ (by rw [zOK hsz, Bool.and_false]) (by omega) (by omega)) ⟨e, e2, ?_⟩
 refine ⟨.non, _, I.lset (its' := its ++ its2) hH e (by simp) (r.append r2) ?_, rfl, q⟩
 rw [List.length_append]
 exact zA8 (by omega)
noncomputable def sExt (i : Nat) (g : Rho -> Option D) : Rho -> Option Out := fun ρ => match ρ[i]? with
 | some (.own ds) => (g ρ).bind fun d => match d with
  | .list es => if ds.length + es.length <= 1000 then some (.nx (ρ.set i (.own (ds ++ es)))) else none
  | _ => none
 | _ => none
variable {e : Expr} {p pos : Pos} {ga : Rho -> Option D}
theorem zHM {i : Nat} {x : Str} {apos pos' : Pos} (ha : DE X e ga) (hN : X.N[i]? = some x := by rfl) (hv : Vis X.env.scope x := by first | exact Or.inl rfl | exact Or.inr (Or.inl rfl) | exact Or.inr (Or.inr rfl)) (hd : (x == ("__debug__" : Str)) = false := by decide)
  (hcd : (x == ("__classdict__" : Str)) = false := by decide) (hse : starEach [e] X.env = (false, eval e X.env) :: starEach [] X.env := by rfl)
  (hbase : attributeBase (.Name x p) "extend" X.env (eval (.Name x p) X.env) = eval (.Name x p) X.env := by rfl)
  (hfew : ((backTo pos' (starEach [e] X.env)).all (fun x => !x.1) && (backToKw pos' (keywordEach [] X.env)).all (fun x => x.1.isSome)
   && decide ([e].length + ([] : List Keyword).length + (if ([] : List Keyword).isEmpty then 0 else 1) < 30)) = true := by rfl)
  (hline : (apos.endLine == pos'.line) = true := by rfl) (hplain : (backTo pos' (starEach [] X.env)).any (·.1) = false := by rfl) (hsw : swapsWith (.Call (.Attribute (.Name x p) "extend" apos) [e] [] pos') none pos.line X.env = pure false := by rfl) :
  DS X (.Expr (.Call (.Attribute (.Name x p) "extend" apos) [e] [] pos') pos) (sExt i ga) :=
 DL.ps_mono (zHu (zCz PySem.F.plainAttrs_list PySem.F.slot_list_extend PySem.F.type_list_extend zJP (zEV hN hv hd hcd) (zBa ha zBA hse) hbase hfew hline hse hplain) hsw) fun W σ H zz => by
 obtain ⟨F₀, H₀, F, ρ, o, E, S, q, k⟩ := zz
 unfold sExt at q
 split at q
 ·rename_i ds e0
  obtain ⟨d, e1, q⟩ := bnd q
  split at q
  ·rename_i es
   by_cases hl : ds.length + es.length <= 1000
   ·rw [if_pos hl] at q
    cases q
    obtain ⟨l, vs, q1, q2, q3, q4, q5⟩ := S.own e0
    refine ⟨_, q1, .inl ⟨rfl, _, SqL.of q2⟩, F, H₀, ρ, _, S, e1, fun F' H' v E' R' => ?_⟩
    have S' := S.ext E'
    obtain ⟨l', vs', g1, g2, g3, g4, g5⟩ := S'.own e0
    rw [q1] at g1; cases g1
    cases R' with
    | @lst b us _ h1 r1 =>
     refine ⟨l, b, vs', us, rfl, rfl, g2, h1.sq, by rw [<- g5.length, <- r1.length]; exact hl, ?_⟩
     obtain ⟨S2, T⟩ := S'.turn e0 q1 g2 g3 (g5.append r1)
     exact k F' _ σ ((E.trans E').turn q4) (E'.stay.trans T) S2
   ·rw [if_neg hl] at q; cases q
  ·cases q
 ·cases q
theorem zLb {x : Str} {i : Int} (hg : Gl X x) (hm : ∃ t, X.mg x = some (.int i t)) (hd : (x == ("__debug__" : Str)) = false := by decide) : DE X (.Name x pos) (eC (.int i)) := by
 obtain ⟨t, h⟩ := hm
 exact zOC hg h hd
end
noncomputable def zHm : Expr -> Bool
 | .Starred .. => false
 | _ => true
theorem zOt (e : Expr) (es : List Expr) (env : Env) (h : zHm e = true) : starEach (e :: es) env = (false, eval e env) :: starEach es env := by
 cases e <;> first | rfl | cases h
theorem zAb {X : Cx} {e : Expr} {es : List Expr} {ga : Rho -> Option D} {gr : Rho -> Option (List D)} (ha : DE X e ga) (hr : DA X es gr) (h : zHm e = true := by rfl) : DA X (e :: es) (zAa ga gr) := zKI ha hr (zOt e es X.env h)
end SL
namespace ST
open PySem PySem.SetTable PyProof.Rows
section
variable {t : SetTable} {hs : List Int} {hashAt : Nat -> Int} {h : Int} {n : Nat}
end
section
variable {prog : Program} {w : World} {A : Around} {E : Value -> Shared -> Prop} {s : Shared}
end
end ST
namespace ST
open PySem PySem.SetTable PyProof.Rows
section
variable {prog : Program} {w : World} {A : Around} {E : Value -> Shared -> Prop} {s : Shared} {V : Value -> Prop}
end
end ST
namespace ST
open PySem PySem.SetTable PyProof.Rows
section
variable {prog : Program} {w : World} {A : Around} {E : Value -> Shared -> Prop} {s : Shared} {V : Value -> Prop}
end
end ST
namespace ST
open PySem PySem.SetTable PyProof.Rows
section
variable {prog : Program} {w : World} {A : Around} {E : Value -> Shared -> Prop} {s : Shared} {V : Value -> Prop}
end
end ST
namespace ST
open PySem PySem.SetTable PyProof.Rows
section
variable {prog : Program} {w : World} {A : Around} {E : Value -> Shared -> Prop} {s : Shared} {V : Value -> Prop}
end
end ST
namespace ST
open PySem PySem.SetTable PyProof.Rows
section
variable {prog : Program} {w : World} {A : Around} {E : Value -> Shared -> Prop} {s : Shared} {V : Value -> Prop}
end
end ST
namespace SL
open PySem PySem.Spec PyProof.Rows L2 CL DL SD ST
section
variable {X : Cx} {a b : Expr} {pos : Pos} {g1 g2 : Rho -> Option (List (List Int))}
end
end SL
namespace DC
open PySem PyProof.Rows
theorem zK8 : typeLookup (.type "list") "keys" = pure none := by rw [typeLookup_type, builtinLookup_eq_fast]; kernel_rfl
section
variable {prog : Program} {w : World} {A : Around} {E : Value -> Shared -> Prop} {s : Shared}
theorem zJK {a : Addr} {o : Obj} {xs : Array Value} {k : Nat} {Q : Option Value -> Shared -> Prop} (hx : s.heap.get? a = some o) (hc : o.cls = .type "list") (hdat : o.data = .seq xs k) (hd : o.dict = none) (hA : A.handled = none)
  (h : ∀ h' tk, (∀ b ob, s.heap.get? b = some ob -> h'.get? b = some ob) -> Q none { s with heap := h', toks := tk }) : wpAny (model prog w) A (getAttr? (.ref a) "keys") Q E s := by
 obtain ⟨c, dct, dat, sl⟩ := o
 simp only at hc hdat hd
 subst hc hdat hd
 obtain ⟨hp, g, d, tk, os⟩ := s
 have hT : ∀ tk', (⟨hp, g, d, tk', os⟩ : Shared).TypeIs (.ref a) "list" := fun _ => ⟨_, hx, rfl⟩
 have f1 := sub_AttributeError
 have f3 := F.slot_list_getattribute.lookup
 have f4 := F.slot_list_getattribute.bind (.ref a)
 have f5 := am_list_getattr_none
 unfold getAttr? getAttrBy? getAttrBy
 repeat (any_goals (first | assumption | exact hT _ | ((with_reducible show wpAny _ _ (call (Value.builtin "list.__getattribute__") _ _) _ _ _); refine call_meets F.slot_list_getattribute (hT _) am_entry_list_getattribute (F.args_list_getattribute_2 _ _) (meets_getattribute_miss_list a xs k sl "keys" _ zK8 (by decide +kernel)) ⟨hx, hA, fun h' tk' e hx' => ?_⟩) | wp_step))
 obtain ⟨t', u', he⟩ := hx'.there
 show wpAny _ _ (getattributeRaised _ _ _ _ _ _ _) _ _ _
 unfold getattributeRaised
 repeat (any_goals (first | assumption | wp_step))
 exact h _ _ hx'.keeps
end
theorem zIf : entryFor table "dict.update.loop" = some Builtin.«dict.update.loop» := entryFor_of_tree (by kernel_rfl)
theorem zD2 : plainId "dict.update.loop" = true := by decide +kernel
section
variable {κ : Type} [DecidableEq κ]
noncomputable def zBf (key : Nat -> κ) (kad : Nat -> Addr) (val : Nat -> Value) : Nat -> List (κ × Addr × Value)
 | 0 => []
 | i + 1 => storedH (zBf key kad val i) (key i) (kad i) (val i)
variable {key : Nat -> κ} {kad : Nat -> Addr} {val : Nat -> Value}
theorem zEY : ∀ i, (zBf key kad val i).length <= i
 | 0 => Nat.le_refl _
 | i + 1 => by
  have := zEY i
  unfold zBf storedH
  split
  ·rw [List.length_map]; omega
  ·rw [List.length_append, List.length_singleton]; omega
theorem zE4 : ∀ i, ∀ x ∈ zBf key kad val i, ∃ j, j < i /\ x.1 = key j /\ x.2.1 = kad j
 | 0, x, h => nomatch h
 | i + 1, x, h => by
  unfold zBf storedH at h
  split at h
  ·obtain ⟨y, hy, rfl⟩ := List.mem_map.mp h
   obtain ⟨j, hj, e1, e2⟩ := zE4 i y hy
   refine ⟨j, by omega, ?_⟩
   unfold putAt
   split
   ·exact ⟨e1, e2⟩
   ·exact ⟨e1, e2⟩
  ·rcases List.mem_append.mp h with h | h
   ·obtain ⟨j, hj, e⟩ := zE4 i x h
    exact ⟨j, by omega, e⟩
   ·rw [List.mem_singleton] at h
    subst h
    exact ⟨i, by omega, rfl, rfl⟩
end
section
variable {prog : Program} {w : World} {κ : Type} [DecidableEq κ] {knd : HeapKind prog w κ} {A : Around} {R : Result -> Shared -> Prop} {I : Addr} {fp wr : List Addr} {G : Array GenState -> Array GenState -> Prop} {n : Nat} {Pv : Nat -> Value -> Prop} {St : Nat -> Shared -> Prop}
theorem zLQ (W : WalksS prog w A.in1 I fp wr G n Pv St) (S : Addr) (hSf : S ∉ fp) (hu : knd.room A.in1) (key : Nat -> κ) (kad : Nat -> Addr) (val : Nat -> Value) (s0 : Heap) (res : Value)
  (hmono : ∀ (h h' : Heap) k b, knd.is h k b -> (∀ b o, h.get? b = some o -> h'.get? b = some o) -> knd.is h' k b)
  (hold : ∀ b o, s0.get? b = some o -> b ≠ S /\ b ∉ wr) (hval : ∀ i v, i < n -> Pv i v -> ∃ b, v = .ref b /\ s0.IsTuple b #[.ref (kad i), val i]) (hkey : ∀ i, i < n -> knd.is s0 (key i) (kad i)) (hb : n <= 1000) :
  ∀ (k i : Nat) (s : Shared) (c : Int) (t : Tok), n - i = k -> i <= n -> St i s -> (∀ b o, s0.get? b = some o -> s.heap.get? b = some o) ->
   s.heap.DictOfH knd S (zBf key kad val i) ->
   (∀ s', Moved (S :: wr) G s s' -> (∀ b o, s0.get? b = some o -> s'.heap.get? b = some o) -> s'.heap.DictOfH knd S (zBf key kad val n) -> R (.ok (.ret res)) s') ->
   codeAny (model prog w) A (.builtin "dict.update.loop" ⟨[.ref S, .ref I, .int c t, res], []⟩) R s := by
 have hSw : S ∉ wr := fun h => hSf (W.sub _ h)
 have hsub : ∀ b ∈ wr, b ∈ S :: wr := fun b hb => List.mem_cons_of_mem _ hb
 have hmv : ∀ (s s' : Shared) i, i <= n -> Moved wr G s s' -> (∀ b o, s0.get? b = some o -> s'.heap.get? b = some o) -> s.heap.DictOfH knd S (zBf key kad val i) -> s'.heap.DictOfH knd S (zBf key kad val i) := fun s s' i hi hm h0 hS => by
  obtain ⟨o, es, ep, ho, hex, hd, he, his, hnd⟩ := hS
  refine ⟨o, es, ep, hm.heap S _ hSw ho, hex, hd, he, fun x hx => ?_, hnd⟩
  obtain ⟨j, hj, e1, e2⟩ := zE4 i x hx
  rw [e1, e2]
  exact hmono _ _ _ _ (hkey j (by omega)) h0
 intro k
 induction k with
 | zero =>
  intro i s c t hk hi hst h0 hS hR
  have hin : i = n := by omega
  subst hin
  refine codeAny_builtin zIf ?_
  rw [Around.under_plainId zD2 _]
  show wpAny _ A.in1 (pyNext (.ref I) >>= _) _ _ s
  refine wpAny_bind (W.done s _ _ hst fun s' hm => ?_)
  show wpAny _ A.in1 (Builtin.Dict.addKeywords S [] >>= fun _ => ret res) _ _ s'
  have h0' : ∀ b o, s0.get? b = some o -> s'.heap.get? b = some o := fun b o e => hm.heap b o (hold b o e).2 (h0 b o e)
  exact wpAny_bind (wpAny_pure (wpAny_pure (hR s' (hm.mono hsub) h0' (hmv s s' i (Nat.le_refl _) hm h0' hS))))
 | succ k ih =>
  intro i s c t hk hi hst h0 hS hR
  have hlt : i < n := by omega
  refine codeAny_builtin zIf ?_
  rw [Around.under_plainId zD2 _]
  show wpAny _ A.in1 (pyNext (.ref I) >>= _) _ _ s
  refine wpAny_bind (W.item i s _ _ hlt hst fun v s' hP hst' hm => ?_)
  obtain ⟨b, rfl, ot, hot, hct, nt, hdt⟩ := hval i v hlt hP
  have h0' : ∀ b o, s0.get? b = some o -> s'.heap.get? b = some o := fun b o e => hm.heap b o (hold b o e).2 (h0 b o e)
  have hS' := hmv s s' i (by omega) hm h0' hS
  have hk1 : knd.is s'.heap (key i) (kad i) := hmono _ _ _ _ (hkey i hlt) h0'
  refine wpAny_bind (wpAny_holding (wpAny_bind (wpAny_tryCatch ?_)))
  unfold Builtin.Dict.pairItems
  refine wpAny_bind (wpAny_typeOf (T := "tuple") ⟨ot, h0' _ _ hot, hct⟩ ?_)
  rw [if_pos (by decide)]
  refine wpAny_bind (wpAny_seqItems (h0' _ _ hot) hdt (wpAny_pure ?_))
  show wpAny _ A.in1 (holding [Value.ref (kad i), val i] (dictSet S (.ref (kad i)) (val i))) _ _ s'
  refine wpAny_holding (wpAny_dictSet_heap hu hk1 hS' (fun h' hd' hsb => ?_) (Nat.le_trans (zEY i) (by rw [sizeLine]; omega)))
  have hmoved : Moved (S :: wr) G s { s' with heap := h', toks := s'.toks + knd.draws (key i) } :=
   (hm.mono hsub).then_heap (Nat.le_add_right _ _) fun b o hb e => by rw [hsb.2 b (fun h : b = S => hb (by rw [h]; exact List.mem_cons_self))]; exact e
  refine wpAny_pure ⟨plainId_quiet zD2 _, ih (i + 1) _ (c + 1) 0 (by omega) hlt (W.frame _ s' _ _ hst' (Nat.le_add_right _ _) fun b hb o e => ?_) (fun b o e => ?_) hd' fun s'' hm'' h0'' hS'' => ?_⟩
  ·rw [hsb.2 b (fun h : b = S => hSf (by rw [<- h]; exact hb))]; exact e
  ·show h'.get? b = some o
   rw [hsb.2 b (hold b o e).1]; exact h0' b o e
  ·exact hR s'' (Moved.trans W.gtrans hmoved hm'') h0'' hS''
end
end DC
namespace DC
open PySem PyProof.Rows
section
variable {prog : Program} {w : World} {κ : Type} [DecidableEq κ] {knd : HeapKind prog w κ} {A : Around} {E : Value -> Shared -> Prop} {s : Shared}
theorem zMo {l : Addr} {items : Array Value} {nl : Nat} {sl : Array (Option Value)} {Q : Value -> Shared -> Prop} (key : Nat -> κ) (kad : Nat -> Addr) (val : Nat -> Value)
  (hmono : ∀ (h h' : Heap) k b, knd.is h k b -> (∀ b o, h.get? b = some o -> h'.get? b = some o) -> knd.is h' k b)
  (hh : A.handled = none) (hu : ∀ B : Around, B.units <= A.units + 8 -> knd.room B) (hl : s.heap.get? l = some { cls := .type "list", dict := none, data := .seq items nl, slots := sl })
  (hi : ∀ i v, items[i]? = some v -> ∃ b, v = .ref b /\ s.heap.IsTuple b #[.ref (kad i), val i]) (hk : ∀ i, i < items.size -> knd.is s.heap (key i) (kad i)) (hb : items.size <= 1000)
  (h : ∀ (h' : Heap) (tk : Nat), h'.DictOfH knd s.heap.objs.size (zBf key kad val items.size) -> (∀ b o, s.heap.get? b = some o -> h'.get? b = some o) -> Q (.ref s.heap.objs.size) { s with heap := h', toks := tk }) :
  wpAny (model prog w) A (call (.type "dict") [.ref l]) Q E s := by
 refine callType_codes (Q₁ := fun obj s₁ => obj = .ref s.heap.objs.size /\ s₁ = { s with heap := s.heap.push { cls := .type "dict", data := .dict #[] } }) F.kt_called_dict (F.kt_typeCall_dict_1 _) F.entry_dict_init (kt_code_dict_new _ ⟨rfl, rfl⟩) ?_
 rintro obj s₁ ⟨rfl, rfl⟩
 have hnew : (s.heap.push { cls := .type "dict", data := .dict #[] }).DictOfH knd s.heap.objs.size [] := Heap.DictOfH.new s.heap
 have hl' : (s.heap.push { cls := .type "dict", data := .dict #[] }).get? l = some { cls := .type "list", dict := none, data := .seq items nl, slots := sl } := Heap.get?_push_of_some _ hl
 refine ⟨hnew.typeIs, F.args_dict_init_2 _ _, ?_⟩
 unfold Builtin.«dict.__init__»
 refine wpAny_bind ?_
 unfold Builtin.Dict.selfAndRest
 refine wpAny_bind (wpAny_notOrdered_dict hnew.typeIs ?_)
 show wpAny _ _ (pure (s.heap.objs.size, [Value.ref l])) _ _ _
 refine wpAny_pure ?_
 show wpAny _ _ (Builtin.Dict.updateFrom "dict.__init__" s.heap.objs.size (.ref l) [] .none) _ _ _
 unfold Builtin.Dict.updateFrom
 refine wpAny_bind (wpAny_typeOf (T := "list") ⟨_, hl', rfl⟩ ?_)
 rw [if_pos (by decide)]
 refine wpAny_bind (zJK hl' rfl rfl rfl (by first | exact hh | simp [hh]) fun h₂ tk₂ keep₂ => ?_)
 rw [if_pos (by decide)]
 have hl2 : h₂.IsList l items := ⟨_, keep₂ _ _ hl', rfl, nl, rfl⟩
 refine wpAny_bind (wpAny_rule (wpAny_bind (wpAny_pyIter_list (s := { s with heap := h₂, toks := tk₂ }) hl2 ?_)))
 refine wpAny_pure ⟨plainId_quiet zD2 _, ?_⟩
 have hS2 : h₂.get? s.heap.objs.size = some { cls := .type "dict", data := .dict #[] } := keep₂ _ _ (Heap.get?_push_size _ rfl)
 have hSlt : s.heap.objs.size < h₂.objs.size := Heap.lt_size hS2
 have hlS : l < s.heap.objs.size := Heap.lt_size hl
 have hneI : l ≠ h₂.objs.size := Nat.ne_of_lt (Nat.lt_trans hlS hSlt)
 have hh2 : A.in1.in1.handled = none := by simp [hh]
 have hkeep : ∀ b o, s.heap.get? b = some o -> (h₂.push { cls := Value.type "list_iterator", data := Data.fields #[Value.ref l, Value.int 0 0] }).get? b = some o := fun b o e =>
  Heap.get?_push_of_some _ (keep₂ b o (Heap.get?_push_of_some _ e))
 refine zLQ (knd := knd) ((Walks.list hh2 h₂.objs.size l hneI items).toS) s.heap.objs.size ?hSf (hu _ (by show A.units + 1 + 1 <= _; omega)) key kad val s.heap .none hmono ?hold (fun i v _ hv => hi i v hv) (fun i hi' => hk i hi') hb (items.size - 0) 0 _ 0 0 (by omega) (Nat.zero_le _)
  ⟨⟨_, Heap.get?_push_size _ rfl, rfl, rfl⟩, hl2.push _⟩ hkeep ?hS0 ?hR
 case hSf =>
  simp only [List.mem_cons, List.mem_singleton, List.not_mem_nil, or_false, not_or]
  exact ⟨Nat.ne_of_lt hSlt, Nat.ne_of_gt hlS⟩
 case hold =>
  intro b o e
  have hlt : b < s.heap.objs.size := Heap.lt_size e
  refine ⟨Nat.ne_of_lt hlt, fun hm => ?_⟩
  have hb' : b = h₂.objs.size := List.mem_singleton.mp hm
  rw [hb'] at hlt
  exact absurd (Nat.lt_trans hlt hSlt) (Nat.lt_irrefl _)
 case hS0 => exact ⟨_, #[], 0, Heap.get?_push_of_some _ hS2, ⟨rfl, rfl, rfl⟩, rfl, rfl, fun _ hx => by simp [zBf] at hx, List.nodup_nil⟩
 case hR =>
  intro s' hm h0 hS'
  obtain ⟨h', g', d', tk', os'⟩ := s'
  have eg : g' = s.gens := hm.gens
  have ed : d' = s.drawn := hm.drawn
  have eo : os' = s.os := hm.os
  subst eg; subst ed; subst eo
  exact ⟨rfl, h h' tk' hS' h0⟩
end
end DC
namespace DC
open PySem PySem.Spec PyProof.Rows L2 DL ST SL
noncomputable def decT : D -> Option (List Int)
 | .tuple ds => zAC ds
 | _ => none
theorem zGe : ∀ ks : List Int, zAC (ks.map PyData.int) = some ks
 | [] => rfl
 | k :: ks => by show (zAC (ks.map PyData.int)).bind _ = _; rw [zGe ks]; rfl
theorem zL8 (ks : List Int) : decT (encT ks) = some ks := zGe ks
theorem zFg {K : PySem.W.Frag} {H : Hp} {k : DKey} {b : Addr} {ks : List Int} (h : zCu K H k b) : decT (encK k) = some ks ↔ k = .inl ks := by
 cases k with
 | inl js =>
  show decT (encT js) = some ks ↔ _
  rw [zL8]
  constructor
  ·intro e; cases e; rfl
  ·intro e; cases e; rfl
 | inr kss =>
  obtain ⟨n, _⟩ := h
  cases kss with
  | nil => exact absurd rfl n
  | cons x xs =>
   constructor
   ·intro e; cases e
   ·intro e; cases e
theorem zG8 {K : PySem.W.Frag} {F : Addr -> Prop} {H : Hp} {d : D} {v : V} {ks : List Int} (r : Rep K F H d v) (h : decT d = some ks) : ∃ b, v = .ref b /\ SqT K H b (ks.map V.int) := by
 cases r with
 | @tup a vs ds h1 r1 =>
  rw [zDE r1 (show zAC ds = some ks from h)] at h1
  exact ⟨a, rfl, h1⟩
 | _ => cases h
noncomputable def hasD (kvs : List (D × D)) (k : List Int) : Bool := kvs.any fun p => decT p.1 == some k
noncomputable def putD (kvs : List (D × D)) (k : List Int) (v : D) : List (D × D) := if hasD kvs k = true then kvs.map fun p => if (decT p.1 == some k) = true then (p.1, v) else p else kvs ++ [(encT k, v)]
abbrev Ent := DKey × Addr × V
noncomputable def hasE (es : List Ent) (k : List Int) : Bool := es.any fun e => decide (e.1 = .inl k)
noncomputable def putE (es : List Ent) (k : List Int) (b : Addr) (v : V) : List Ent := if hasE es k = true then es.map fun e => if e.1 = .inl k then (e.1, e.2.1, v) else e else es ++ [(.inl k, b, v)]
theorem zE3 {K : PySem.W.Frag} {H : Hp} {k : DKey} {b : Addr} {ks : List Int} (h : zCu K H k b) : (decT (encK k) == some ks) = decide (k = .inl ks) := by
 by_cases c : k = .inl ks
 ·rw [decide_eq_true c, (zFg h).mpr c, beq_self_eq_true]
 ·rw [decide_eq_false c]
  exact beq_eq_false_iff_ne.mpr fun e => c ((zFg h).mp e)
section
variable {K : PySem.W.Frag} {F : Addr -> Prop} {H : Hp}
theorem DReps.has : ∀ {kvs : List (D × D)} {es : List Ent} (k : List Int), DReps K F H kvs es -> hasD kvs k = hasE es k
 | _, _, _, .nil => rfl
 | _, _, k, .cons h r t => by
  have := DReps.has k t
  unfold hasD hasE at this ⊢
  rw [List.any_cons, List.any_cons, this, zE3 h]
theorem DReps.append : ∀ {kvs kvs' : List (D × D)} {es es' : List Ent}, DReps K F H kvs es -> DReps K F H kvs' es' -> DReps K F H (kvs ++ kvs') (es ++ es')
 | _, _, _, _, .nil, s => s
 | _, _, _, _, .cons h r t, s => .cons h r (DReps.append t s)
theorem DReps.repl {k : List Int} {d : D} {v : V} (hv : Rep K F H d v) : ∀ {kvs : List (D × D)} {es : List Ent}, DReps K F H kvs es ->
  DReps K F H (kvs.map fun p => if (decT p.1 == some k) = true then (p.1, d) else p) (es.map fun e => if e.1 = .inl k then (e.1, e.2.1, v) else e)
 | _, _, .nil => .nil
 | _, _, @DReps.cons _ _ _ k' b d' v' _ _ h r t => by
  rw [List.map_cons, List.map_cons]
  by_cases c : k' = .inl k
  ·rw [if_pos (by rw [zE3 h, decide_eq_true c]), if_pos c]
   exact .cons h hv (DReps.repl hv t)
  ·rw [if_neg (by rw [zE3 h, decide_eq_false c]; decide), if_neg c]
   exact .cons h r (DReps.repl hv t)
theorem DReps.put {k : List Int} {b : Addr} {d : D} {v : V} {kvs : List (D × D)} {es : List Ent} (t : DReps K F H kvs es) (hk : SqT K H b (k.map V.int)) (hv : Rep K F H d v) : DReps K F H (putD kvs k d) (putE es k b v) := by
 unfold putD putE
 rw [DReps.has k t]
 by_cases c : hasE es k = true
 ·rw [if_pos c, if_pos c]; exact DReps.repl hv t
 ·rw [if_neg c, if_neg c]; exact DReps.append t (.cons (k := .inl k) hk hv .nil)
noncomputable def zBM (kvs : List (D × D)) : Bool := kvs.all fun p => (decT p.1).isSome
theorem DReps.flat : ∀ {kvs : List (D × D)} {es : List Ent}, DReps K F H kvs es -> zBM kvs = true -> ∀ e ∈ es, ∃ ks, e.1 = .inl ks /\ SqT K H e.2.1 (ks.map V.int)
 | _, _, .nil, _, e, he => nomatch he
 | _, _, .cons h r t, f, e, he => by
  unfold zBM at f
  rw [List.all_cons, Bool.and_eq_true] at f
  rcases List.mem_cons.mp he with rfl | he
  ·obtain ⟨ks, q⟩ := Option.isSome_iff_exists.mp f.1
   have := (zFg h).mp q
   refine ⟨ks, this, ?_⟩
   dsimp only at this ⊢
   subst this
   exact h
  ·exact DReps.flat t f.2 e he
end
abbrev Raw := List Int × Addr × Value
abbrev ER : Ent -> Raw -> Prop := fun e x => e.1 = .inl x.1 /\ e.2.1 = x.2.1 /\ RelV e.2.2 x.2.2
theorem zEt (k : List Int) : ∀ {es : List Ent} {xs : List Raw}, Paired ER es xs -> hasE es k = (atKey xs k).isSome
 | _, _, .nil => rfl
 | _, _, @Paired.cons _ _ _ e x es xs h t => by
  have ih := zEt k t
  unfold hasE at ih ⊢
  rw [List.any_cons, ih]
  by_cases c : x.1 = k
  ·have a : atKey (x :: xs) k = some x.2 := by simp [atKey, List.find?_cons, c]
   rw [a, decide_eq_true (by rw [h.1, c])]; rfl
  ·have a : atKey (x :: xs) k = atKey xs k := by simp [atKey, List.find?_cons, c]
   rw [a, decide_eq_false (by rw [h.1]; intro z; cases z; exact c rfl)]; rfl
theorem zIG {k : List Int} {v : V} {u : Value} (hv : RelV v u) : ∀ {es : List Ent} {xs : List Raw}, Paired ER es xs -> Paired ER (es.map fun e => if e.1 = .inl k then (e.1, e.2.1, v) else e) (xs.map (putAt k u))
 | _, _, .nil => .nil
 | _, _, @Paired.cons _ _ _ e x es xs h t => by
  rw [List.map_cons, List.map_cons]
  refine .cons ?_ (zIG hv t)
  unfold putAt
  by_cases c : x.1 = k
  ·rw [if_pos c, if_pos (by rw [h.1, c])]; exact ⟨h.1, h.2.1, hv⟩
  ·rw [if_neg c, if_neg (by rw [h.1]; intro z; cases z; exact c rfl)]; exact h
theorem zK3 {k : List Int} {b : Addr} {v : V} {u : Value} (hv : RelV v u) {es : List Ent} {xs : List Raw} (t : Paired ER es xs) : Paired ER (putE es k b v) (storedH xs k b u) := by
 unfold putE storedH
 rw [zEt k t]
 by_cases c : (atKey xs k).isSome = true
 ·rw [if_pos c, if_pos c]; exact zIG hv t
 ·rw [if_neg c, if_neg c]; exact Paired.snoc t ⟨rfl, rfl, hv⟩
theorem zET : ∀ {es : List Ent} {xs : List Raw}, Paired ER es xs -> es.map (·.1) = (xs.map (·.1)).map Sum.inl
 | _, _, .nil => rfl
 | _, _, .cons h t => by rw [List.map_cons, List.map_cons, List.map_cons, zET t, h.1]
theorem zMW {l : List (List Int)} (h : l.Nodup) : (l.map (Sum.inl : List Int -> DKey)).Nodup := by
 rw [List.Nodup, List.pairwise_map]
 exact List.Pairwise.imp (fun n e => n (Sum.inl.inj e)) h
theorem zLo {l : List (List Int)} (h : (l.map (Sum.inl : List Int -> DKey)).Nodup) : l.Nodup := by
 rw [List.Nodup, List.pairwise_map] at h
 exact List.Pairwise.imp (fun n e => n (by rw [e])) h
abbrev TKd (P : Program) (w : World) : HeapKind P w (List Int) := tupleKind (intKind P w)
theorem zKi {X : Cx} {pins : List (Addr × Obj)} {σ : L2.St} {H : Hp} {s : Shared} {a : Addr} {es : List Ent} {ep : Nat} (I : Inv X pins σ H s) (h : H a = some (DctO a es ep)) (hf : ∀ e ∈ es, ∃ ks, e.1 = .inl ks /\ SqT X.K H e.2.1 (ks.map V.int)) (hn : (es.map (·.1)).Nodup) :
  (a == sysModules) = false /\ ∃ xs : List Raw, s.heap.DictOfH (TKd X.prog X.w) a xs /\ Paired ER es xs := by
 obtain ⟨⟨lo, o, raw, h1, h2, h3, h4⟩, _⟩ := (show zA0 X.prog X.w H s.heap a (DctO a es ep) from I.hok a _ h)
 have mk : ∀ {l : List Ent} {r : List DictEntry}, Paired (fun (e : DKey × Addr × V) (r : DictEntry) => r.hash = zIp e.1 /\ r.key = .ref e.2.1 /\ RelV e.2.2 r.val) l r -> (∀ e ∈ l, ∃ ks, e.1 = .inl ks /\ SqT X.K H e.2.1 (ks.map V.int)) ->
   ∃ xs : List Raw, r = xs.map (entryOfKey (TKd X.prog X.w)) /\ Paired ER l xs /\ ∀ x ∈ xs, (TKd X.prog X.w).is s.heap x.1 x.2.1 := by
  intro l r q
  induction q with
  | nil => exact fun _ => ⟨[], rfl, .nil, fun x hx => nomatch hx⟩
  | @cons e r l rs h t ih =>
   intro hf
   obtain ⟨xs, q1, q2, q3⟩ := ih fun e he => hf e (List.mem_cons_of_mem _ he)
   obtain ⟨ks, e1, e2⟩ := hf e List.mem_cons_self
   refine ⟨(ks, e.2.1, r.val) :: xs, ?_, .cons ⟨e1, rfl, h.2.2⟩ q2, fun x hx => ?_⟩
   ·rw [List.map_cons, <- q1]
    congr 1
    obtain ⟨rh, rk, rv⟩ := r
    obtain ⟨z1, z2, z3⟩ := h
    dsimp only at z1 z2 ⊢
    subst z1 z2
    rw [e1]
    rfl
   ·rcases List.mem_cons.mp hx with rfl | hx
    ·exact zC3 I e2
    ·exact q3 x hx
 obtain ⟨xs, q1, q2, q3⟩ := mk h4 hf
 refine ⟨lo, xs, ⟨o, raw, ep, h1, h2, h3, q1, q3, ?_⟩, q2⟩
 rw [zET q2] at hn
 exact zLo hn
theorem zMM {P : Program} {w : World} {H : Hp} {h : Heap} {a : Addr} {es : List Ent} {xs : List Raw} (lo : (a == sysModules) = false) (d : h.DictOfH (TKd P w) a xs) (r : Paired ER es xs) : ∃ ep, zA0 P w H h a (DctO a es ep) := by
 obtain ⟨o, raw, ep, h1, h2, h3, h4, h5, h6⟩ := d
 clear h5 h6
 refine ⟨ep, ⟨lo, o, raw, h1, h2, h3, ?_⟩, ⟨o, h1⟩, fun h1' h2' ⟨lo, o, raw, g1, g2⟩ k => ⟨lo, o, raw, k _ g1, g2⟩⟩
 rw [h4]
 clear h1 h2 h3 h4
 induction r with
 | nil => exact .nil
 | @cons e x es xs h t ih =>
  rw [List.map_cons]
  refine .cons ⟨?_, ?_, h.2.2⟩ ih
  ·rw [h.1]; rfl
  ·rw [h.2.1]; rfl
end DC
namespace DC
open PySem PySem.Spec PyProof.Rows L2 DL ST SL
section
variable {X : Cx}
noncomputable def dIn2 (neg : Bool) (d e : D) : Option D := match e with
 | .dict kvs => (decT d).bind fun k => if zBM kvs = true then some (.bool (if neg then !hasD kvs k else hasD kvs k)) else none
 | e => dIn neg d e
theorem zJd {neg : Bool} {d r : D} {kvs : List (D × D)} (h : dIn2 neg d (.dict kvs) = some r) : ∃ k, decT d = some k /\ zBM kvs = true /\ r = .bool (if neg then !hasD kvs k else hasD kvs k) := by
 obtain ⟨k, e1, q⟩ := bnd (show ((decT d).bind fun k => if zBM kvs = true then some (PyData.bool (if neg then !hasD kvs k else hasD kvs k)) else none) = some r from h)
 by_cases c : zBM kvs = true
 ·rw [if_pos c] at q; cases q; exact ⟨k, e1, c, rfl⟩
 ·rw [if_neg c] at q; cases q
theorem zMr (hu : X.A.units + 65 < cLine) : OpR X (compareOp .In) (rD2 X.K (dIn2 false)) := fun pins s σ H x y v u Q I rx ry zz => by
 obtain ⟨F, d, e, q, z, R1, R2, hq, k⟩ := zz
 cases R2 with
 | @dct a es kvs ep f h n l t =>
  obtain ⟨ks, e1, fl, rfl⟩ := zJd hq
  obtain ⟨b, rfl, hb⟩ := zG8 R1 e1
  cases rx
  cases ry
  obtain ⟨lo, xs, dd, er⟩ := zKi I h (DReps.flat t fl) n
  refine wpAny_in_heap (knd := TKd X.prog X.w) (k := ks) (show X.A.in1.units < cLine from by show X.A.units + 1 < cLine; omega) (zC3 I hb) lo dd ?_
  rw [<- zEt ks er, <- DReps.has ks t]
  exact ⟨.bl _, H, I.tok _, rfl, k F H _ (Ext.refl F H) (.bl _)⟩
 | exn f h n =>
  obtain ⟨ks, e1, fl, _⟩ := zJd hq
  cases fl
 | tup h r => exact zFd hu pins s σ H _ _ v u Q I rx ry ⟨F, d, _, q, z, R1, .tup h r, hq, k⟩
 | lst h r => exact zFd hu pins s σ H _ _ v u Q I rx ry ⟨F, d, _, q, z, R1, .lst h r, hq, k⟩
 | non => cases hq
 | bl _ => cases hq
 | int _ => cases hq
 | str _ => cases hq
end
end DC
namespace DC
open PySem PySem.Spec PyProof.Rows L2 DL ST SL
noncomputable def zDQ : D -> Option (List Int × D)
 | .tuple [k, v] => (decT k).bind fun ks => some (ks, v)
 | _ => none
noncomputable def zCB : List D -> Option (List (List Int × D))
 | [] => some []
 | d :: r => (zDQ d).bind fun p => (zCB r).bind fun ps => some (p :: ps)
noncomputable def zC9 (ps : List (List Int × D)) : List (D × D) := ps.foldl (fun kvs p => putD kvs p.1 p.2) []
noncomputable def zFu : List D -> Option D
 | [.list ds] => if ds.length <= 1000 then (zCB ds).bind fun ps => some (.dict (zC9 ps)) else none
 | _ => none
structure Tr where
 k : List Int
 b : Addr
 v : V
 d : D
noncomputable def TrOk (K : PySem.W.Frag) (F : Addr -> Prop) (H : Hp) (x : V) (t : Tr) : Prop := ∃ b, x = .ref b /\ SqT K H b [.ref t.b, t.v] /\ SqT K H t.b (t.k.map V.int) /\ Rep K F H t.d t.v
theorem zLC {K : PySem.W.Frag} {F : Addr -> Prop} {H : Hp} {d : D} {x : V} {p : List Int × D} (r : Rep K F H d x) (h : zDQ d = some p) : ∃ t, p = (t.k, t.d) /\ TrOk K F H x t := by
 cases r with
 | @tup a vs ds h1 r1 =>
  unfold zDQ at h
  split at h
  ·rename_i k v e
   cases e
   obtain ⟨ks, e1, h⟩ := bnd h
   cases h
   cases r1 with
   | cons rk r2 =>
    cases r2 with
    | cons rv r3 =>
     cases r3
     obtain ⟨b, rfl, hb⟩ := zG8 rk e1
     exact ⟨⟨ks, b, _, v⟩, rfl, a, rfl, h1, hb, rv⟩
  ·cases h
 | _ => cases h
theorem zGw {K : PySem.W.Frag} {F : Addr -> Prop} {H : Hp} : ∀ {ds : List D} {vs : List V} {ps : List (List Int × D)}, Reps K F H ds vs -> zCB ds = some ps -> ∃ ts : List Tr, ps = ts.map (fun t => (t.k, t.d)) /\ Paired (TrOk K F H) vs ts
 | _, _, _, .nil, h => by cases h; exact ⟨[], rfl, .nil⟩
 | _, _, _, .cons r rs, h => by
  obtain ⟨p, e1, h⟩ := bnd h
  obtain ⟨ps, e2, h⟩ := bnd h
  cases h
  obtain ⟨t, rfl, q⟩ := zLC r e1
  obtain ⟨ts, rfl, q2⟩ := zGw rs e2
  exact ⟨t :: ts, rfl, .cons q q2⟩
theorem Paired.atR {α β : Type} {R : α -> β -> Prop} : ∀ {l : List α} {m : List β} {i : Nat} {b : β}, Paired R l m -> m[i]? = some b -> ∃ a, l[i]? = some a /\ R a b
 | _, _, _, _, .nil, e => by simp at e
 | _, _, 0, _, .cons h _, e => by simp at e; subst e; exact ⟨_, rfl, h⟩
 | _, _, i + 1, _, .cons _ t, e => by
  obtain ⟨b, h1, h2⟩ := Paired.atR t (by simpa using e)
  exact ⟨b, by simpa using h1, h2⟩
theorem pick {P : Nat -> Value -> Prop} (n : Nat) (h : ∀ i, i < n -> ∃ u, P i u) : ∃ f : Nat -> Value, ∀ i, i < n -> P i (f i) := by
 classical
 refine ⟨fun i => if c : i < n then Classical.choose (h i c) else .none, fun i hi => ?_⟩
 show P i (if c : i < n then Classical.choose (h i c) else .none)
 rw [dif_pos hi]
 exact Classical.choose_spec (h i hi)
noncomputable def Tr0 : Tr := ⟨[], 0, .non, .none⟩
theorem zHg {K : PySem.W.Frag} {F : Addr -> Prop} {H : Hp} (ts : List Tr) (val : Nat -> Value) (hk : ∀ t ∈ ts, SqT K H t.b (t.k.map V.int) /\ Rep K F H t.d t.v) (hv : ∀ (i : Nat) t, ts[i]? = some t -> RelV t.v (val i)) :
  ∀ i, i <= ts.length -> ∃ es, DReps K F H (zC9 ((ts.map fun t => (t.k, t.d)).take i)) es /\ Paired ER es (zBf (fun i => (ts.getD i Tr0).k) (fun i => (ts.getD i Tr0).b) val i)
 | 0, _ => ⟨[], .nil, .nil⟩
 | i + 1, hi => by
  obtain ⟨es, h1, h2⟩ := zHg ts val hk hv i (by omega)
  have hlt : i < ts.length := hi
  have hg : ts[i]? = some ts[i] := by simp [hlt]
  have hD : ts.getD i Tr0 = ts[i] := by simp [List.getD, hlt]
  have hm := hk ts[i] (List.getElem_mem hlt)
  refine ⟨putE es ts[i].k ts[i].b ts[i].v, ?_, ?_⟩
  ·have e : (ts.map fun t => (t.k, t.d)).take (i + 1) = (ts.map fun t => (t.k, t.d)).take i ++ [(ts[i].k, ts[i].d)] := by
    rw [List.take_succ, List.getElem?_map, hg]; rfl
   rw [e]
   unfold zC9
   rw [List.foldl_append]
   exact DReps.put h1 hm.1 hm.2
  ·show Paired ER _ (storedH _ (ts.getD i Tr0).k (ts.getD i Tr0).b (val i))
   rw [hD]
   exact zK3 (hv i _ hg) h2
section
variable {X : Cx}
theorem boot_dict : bootBuiltins "dict" = some (.type "dict") := by decide +kernel
theorem zMx {P : Program} {w : World} (h h' : Heap) (k : List Int) (b : Addr) (x : (TKd P w).is h k b) (e : ∀ b o, h.get? b = some o -> h'.get? b = some o) : (TKd P w).is h' k b := TK.at x fun o ho => e b o ho
theorem zJW {pins : List (Addr × Obj)} {σ : L2.St} {H : Hp} {s : Shared} (I : Inv X pins σ H s) : sysModules < s.heap.objs.size := by
 have h : mainGlobals < s.heap.objs.size := (I.mod.glob.keeps I.bk).lt
 exact Nat.lt_trans (by decide) h
noncomputable def rDict (K : PySem.W.Frag) : List V -> Hp -> VK -> Prop := fun xs H Q => ∃ (F : Addr -> Prop) (ds : List D) (ps : List (List Int × D)), (∀ a, F a -> H a ≠ none) /\ Reps K F H [.list ds] xs /\ ds.length <= 1000 /\ zCB ds = some ps /\
 ∀ p es ep, H p = none -> DReps K F H (zC9 ps) es -> (es.map (·.1)).Nodup -> es.length <= 1000 -> Q (.ref p) (upd H p (DctO p es ep))
theorem zME (hc : X.calm = true) (hu : X.A.units + 66 < cLine) : zAJ X (.type "dict") (rDict X.K) := fun pins s σ H xs us Q I rv zz => by
 obtain ⟨F, ds, ps, z, R, hl, e1, k⟩ := zz
 cases R with
 | cons R1 R2 =>
  cases R2
  cases R1 with
  | @lst a vs _ h1 r1 =>
   obtain ⟨u, rfl, ru⟩ := zBj rv
   cases ru
   obtain ⟨its, rvs, ⟨o, nl, g1, g2, g3, g4⟩, _⟩ := I.list h1.sq
   obtain ⟨ts, rfl, pr⟩ := zGw r1 e1
   have hlen : its.length = ts.length := by rw [<- rvs.length]; exact Paired.length pr
   have hts : ts.length <= 1000 := by rw [<- Paired.length pr, <- r1.length]; exact hl
   obtain ⟨val, hval⟩ := pick (P := fun i u => ∀ t, ts[i]? = some t -> RelV t.v u /\ ∀ v, its[i]? = some v -> ∃ b, v = .ref b /\ s.heap.IsTuple b #[.ref t.b, u]) ts.length fun i hi => by
    have hg : ts[i]? = some ts[i] := by simp [hi]
    obtain ⟨x, hx, b, rfl, t1, t2, t3⟩ := Paired.atR pr hg
    obtain ⟨jts, rj, itp, _⟩ := I.tuple t1
    cases rj with
    | @cons _ u1 _ us1 ra rb =>
     cases rb with
     | @cons _ u2 _ us2 rc rd =>
      cases rd
      cases ra
      refine ⟨u2, fun t ht => ?_⟩
      rw [hg] at ht; cases ht
      refine ⟨rc, fun v hv => ?_⟩
      obtain ⟨w', ew, rw'⟩ := rvs.get hx
      rw [hv] at ew; cases ew
      cases rw'
      exact ⟨b, rfl, itp⟩
   obtain ⟨oc, od, odt, osl⟩ := o
   have hob : s.heap.get? a = some { cls := .type "list", dict := none, data := .seq its.toArray nl, slots := osl } := by
    rw [g1]; simp only at g2 g3 g4; rw [g2, g3, g4]
   refine zMo (knd := TKd X.prog X.w) (fun i => (ts.getD i Tr0).k) (fun i => (ts.getD i Tr0).b) val zMx (I.ok.hd hc) (fun B hB => show B.units < cLine by omega) hob (fun i v hv => ?_) (fun i hi => ?_) (by rw [List.size_toArray, hlen]; exact hts) fun h' tk dd keep => ?_
   ·have hv' : its[i]? = some v := by simpa using hv
    have hi : i < ts.length := by rw [<- hlen]; exact (List.getElem?_eq_some_iff.mp hv').1
    have hg : ts[i]? = some ts[i] := by simp [hi]
    have hD : ts.getD i Tr0 = ts[i] := by simp [List.getD, hi]
    obtain ⟨b, e, it⟩ := (hval i hi _ hg).2 v hv'
    exact ⟨b, e, by rw [hD]; exact it⟩
   ·have hi' : i < ts.length := by rw [<- hlen]; simpa using hi
    have hg : ts[i]? = some ts[i] := by simp [hi']
    have hD : ts.getD i Tr0 = ts[i] := by simp [List.getD, hi']
    obtain ⟨x, hx, b, _, t1, t2, t3⟩ := Paired.atR pr hg
    show TK X.prog X.w s.heap (ts.getD i Tr0).k (ts.getD i Tr0).b
    rw [hD]
    exact zC3 I t2
   ·obtain ⟨es, f1, f2⟩ := zHg (K := X.K) (F := F) (H := H) ts val (fun t ht => by
     obtain ⟨i, hi⟩ := List.mem_iff_getElem?.mp ht
     obtain ⟨x, hx, b, _, t1, t2, t3⟩ := Paired.atR pr hi
     exact ⟨t2, t3⟩) (fun i t ht => (hval i (List.getElem?_eq_some_iff.mp ht).1 t ht).1) ts.length (Nat.le_refl _)
    rw [List.take_of_length_le (by simp)] at f1
    have hsz : its.toArray.size = ts.length := by rw [List.size_toArray, hlen]
    rw [hsz] at dd
    have lo : (s.heap.objs.size == sysModules) = false := beq_eq_false_iff_ne.mpr (Ne.symm (Nat.ne_of_lt (zJW I)))
    have hp : H s.heap.objs.size = none := I.hok.fresh (Nat.le_refl _)
    obtain ⟨ep, oo⟩ := zMM (H := H) lo dd f2
    refine ⟨.ref s.heap.objs.size, upd H s.heap.objs.size (DctO s.heap.objs.size es ep), I.laid keep (Nat.le_refl _) oo, rfl, k _ es ep hp f1 ?_ ?_⟩
    ·obtain ⟨_, _, _, _, _, _, _, _, hn⟩ := dd
     rw [zET f2]; exact zMW hn
    ·rw [Paired.length f2]; exact Nat.le_trans (zEY _) hts
theorem zJT (hc : X.calm = true) (hu : X.A.units + 66 < cLine) : zAJ X (.type "dict") (rDA X.K zFu) := zCQ (zME hc hu) fun xs H Q zz => by
 obtain ⟨F, ds, q, z, R, hq, k⟩ := zz
 unfold zFu at hq
 split at hq
 ·rename_i ds'
  by_cases hl : ds'.length <= 1000
  ·rw [if_pos hl] at hq
   obtain ⟨ps, e1, hq⟩ := bnd hq
   cases hq
   exact ⟨F, ds', ps, z, R, hl, e1, fun p es ep hp r n l => k _ _ _ (Ext.frozen hp) (.dct (.inr rfl) zA1 n l (r.stay (Ext.frozen hp).stay))⟩
  ·rw [if_neg hl] at hq; cases hq
 ·cases hq
end
end DC
namespace DC
open PySem PySem.Spec PyProof.Rows L2 DL ST SL EL
noncomputable def iSeq (ga : Rho -> Option D) : Rho -> Option (List D) := fun ρ => (ga ρ).bind seqD
noncomputable def zAR (gr : Rho -> Option (List D)) : Rho -> Option (List D) := fun ρ => (gr ρ).bind rng1
noncomputable def zDv (gr : Rho -> Option (List D)) : Rho -> Option (List D) := fun ρ => (gr ρ).bind zFP
section
variable {X : Cx} {tg e a b : Expr} {es : List Expr} {ga : Rho -> Option D} {gr : Rho -> Option (List D)} {p pos : Pos}
theorem zCk (ha : DE X e ga) : DI X tg e (iSeq ga) := zML ha
theorem zB2 (hg : Gl X "range") (hm : X.mg "range" = none) (ha : DA X [a] gr) (hs : starEach [a] X.env = [(false, eval a X.env)] := by rfl) : DI X tg (.Call (.Name "range" p) [a] [] pos) (zAR gr) := zM5 hg hm ha hs
theorem zOG {elts : List Expr} {x1} {tpos : Pos} (hg : Gl X "enumerate") (hm : X.mg "enumerate" = none) (ha : DA X [a] gr) (hs : starEach [a] X.env = [(false, eval a X.env)] := by rfl) :
  DI X (.Tuple elts x1 tpos) (.Call (.Name "enumerate" p) [a] [] pos) (zDv gr) := zJY hg hm ha hs
end
end DC
namespace DL
open PySem PySem.Spec PyProof.Rows L2
end DL
namespace DC
open PySem PySem.Spec PyProof.Rows L2 DL ST SL EL
section
variable {X : Cx} {e k v : Expr} {es : List Expr} {gr : Rho -> Option (List D)} {gk gv : Rho -> Option D} {p pos : Pos}
end
end DC
namespace DC
open PySem PySem.Spec PyProof.Rows L2 DL ST SL EL
section
variable {P : Program} {w : World} {A : Around} {E : Value -> Shared -> Prop} {s : Shared} {d it : Addr} {raw : Array DictEntry} {ep i : Nat}
end
end DC
namespace DC
open PySem PySem.Spec PyProof.Rows L2 DL ST SL EL
end DC
namespace DL
open PySem PySem.Spec PyProof.Rows L2
section
variable {X : Cx} {a b : Expr} {ga : Rho -> Option (List D)} {pos : Pos}
end
end DL
namespace EX
open PySem PySem.Spec PyProof.Rows L2 DL
noncomputable def CX1 (P : Program) (w : World) : CXT := fun outer H s E e s' => ∃ (a : Addr) (C : Addr) (tr : Option Addr) (H' : Hp), e = .ref a /\ s'.os = s.os /\ AllBare s'.gens /\ Un (frs outer) [] H H' s.heap s'.heap /\ HOk P w H' s'.heap /\ Fly s'.heap a (.ref C) tr /\
 (∀ b, (b = a ∨ some b = tr) -> s.heap.get? b = none /\ H' b = none) /\ E (.ref C) none H'
section
variable {X : Cx} {pins : List (Addr × Obj)} {σ : L2.St} {H H' : Hp} {s s' : Shared}
theorem zCV (I : Inv X pins σ H s) {b : Addr} (hb : s.heap.get? b = none) :
  X.s₀.heap.get? b = none ∨ b ∈ X.ex := by
 by_cases hx : b ∈ X.ex
 ·exact .inr hx
 ·cases q : X.s₀.heap.get? b with
  | none => exact .inl rfl
  | some o => obtain ⟨o', e⟩ := I.base.there b o q hx; rw [hb] at e; cases e
theorem zDt (I : Inv X pins σ H s) {b : Addr} (hb : s.heap.get? b = none) : b ≠ X.env.locals := fun e => by
 obtain ⟨m, ⟨o, _, _, ho, _⟩, _⟩ := I.loc
 rw [<- e, hb] at ho; cases ho
theorem zDd (I : Inv X pins σ H s) {b : Addr} (hb : s.heap.get? b = none) : ∀ x c, X.env.cells.lookup x = some c -> c ≠ b := fun x c e z => by
 obtain ⟨v, o, ho, _⟩ := I.cell x c e
 rw [z, hb] at ho; cases ho
theorem zDc (I : Inv X pins σ H s) {b : Addr} (hb : s.heap.get? b = none) : ∀ p ∈ X.pn ++ pins, p.1 ≠ b := fun p hp z => by
 have := (I.pin p hp).1
 rw [z, hb] at this; cases this
theorem zFX (I : Inv X pins σ H s) {b : Addr} (hb : s.heap.get? b = none) : H b = none := by
 cases q : H b with
 | none => rfl
 | some u =>
  have : ∃ o, s.heap.get? b = some o := by
   have x := I.hok b u q
   have lt := x.lt
   cases u with
   | lst xs => obtain ⟨_, _, _, _, e⟩ := x; exact ⟨_, e⟩
   | tup xs => obtain ⟨_, _, _, o, e, _⟩ := x; exact ⟨_, e⟩
   | dK kvs => obtain ⟨_, _, _, _, o, _, _, e, _⟩ := x; exact ⟨_, e⟩
   | dT kvs => obtain ⟨_, _, _, _, o, _, _, e, _⟩ := x; exact ⟨_, e⟩
   | set S n => obtain ⟨o, _, _, _, e, _⟩ := x; exact ⟨_, e⟩
   | ins C dx fs => obtain ⟨_, _, _, e, _⟩ := x; exact ⟨_, e⟩
   | own y => obtain ⟨_, e⟩ := x; exact ⟨_, e⟩
   | xd fs => obtain ⟨_, ⟨_, _, _, e, _⟩, _⟩ := x; exact ⟨_, e⟩
   | rng lo hi => obtain ⟨_, _, _, e⟩ := x; exact ⟨_, e⟩
   | frz ob u => obtain ⟨e, _⟩ := x; exact ⟨_, e⟩
   | tbl ps => exact ⟨_, (show s.heap.get? b = some _ from x)⟩
   | met f y => exact ⟨_, (show s.heap.get? b = some _ from x)⟩
   | ext φ => obtain ⟨_, ⟨_, e⟩, _⟩ := x; exact ⟨_, e⟩
  obtain ⟨o, e⟩ := this
  rw [hb] at e; cases e
theorem zMB {E : XK} {e : Value} (hex : X.ex = []) (I : Inv X pins σ H s) (h : CX1 X.prog X.w X.stack H s E e s') :
  ∃ a C tr H', e = .ref a /\ Inv X pins σ H' s' /\ ThrownC X pins H' s' a (.ref C) tr /\ E (.ref C) none H' := by
 obtain ⟨a, C, tr, H', rfl, os, bare, un, hok, fly, new, q⟩ := h
 refine ⟨a, C, tr, H', rfl, I.call' os un hok bare (fun b z => absurd z (by simp)), ⟨fly, fun b hb => ?_⟩, q⟩
 obtain ⟨n1, n2⟩ := new b hb
 refine ⟨?_, n2, zDt I n1, zDd I n1, zDc I n1⟩
 rcases zCV I n1 with z | z
 ·exact z
 ·rw [hex] at z; cases z
end
theorem zNf {P : Program} {w : World} {K : PySem.W.Frag} {mg : Str -> Option Value} {base : Heap} {N : List Str} {qual : Str} {scope : Scope} {f : Addr} {cd : Value} {A : Around} {outer : List Env} {s : Shared} {H : Hp} {E : XK}
  {pins : List (Addr × Obj)} {σ : L2.St} {H' : Hp} {s' : Shared} {a C : Addr} {tr : Option Addr} (I : Inv (cxOf (CX1 P w) P w K mg base N qual scope f cd A outer s H E) pins σ H' s')
  (T : ThrownC (cxOf (CX1 P w) P w K mg base N qual scope f cd A outer s H E) pins H' s' a (.ref C) tr) (h : E (.ref C) none H') : (cxOf (CX1 P w) P w K mg base N qual scope f cd A outer s H E).xe (.ref a) s' := by
 have fr : (A.deeper (envOfC qual scope s.heap.objs.size f cd)).frames = some (envOfC qual scope s.heap.objs.size f cd :: outer) := I.ok.frames
 have st : s'.heap.FunFrames base (envOfC qual scope s.heap.objs.size f cd :: outer) := I.stack
 refine zOv (env := envOfC qual scope s.heap.objs.size f cd) (outer := outer) fr st rfl T.fly fun h' T' hT' F' K' => ?_
 have out : ∀ b, b ∈ frs (envOfC qual scope s.heap.objs.size f cd :: outer) -> b = s.heap.objs.size ∨ b ∈ frs outer := fun b hb => by
  unfold frs at hb
  rw [List.filterMap_cons] at hb
  exact List.mem_cons.mp hb
 have old : ∀ b o, s.heap.get? b = some o -> ¬ (b = a ∨ some b = tr) /\ b ≠ s.heap.objs.size := fun b o e => by
  refine ⟨fun z => ?_, Nat.ne_of_lt (Heap.lt_size e)⟩
  have n : s.heap.get? b = none := (T.new b z).1
  rw [n] at e; cases e
 have B : Un (frs outer) [] H H' s.heap s'.heap := I.base
 have tk : ∀ b u, H' b = some u -> ∀ o, s'.heap.get? b = some o -> h'.get? b = some o := fun b u e o q => K'.keep b o (fun z => by
  have n := (T.new b z).2.1
  rw [n] at e; cases e) (fun z => by
  have n := I.stkFree b z
  rw [n] at e; cases e) q
 refine ⟨a, C, some T', H', rfl, I.os, I.bare, ⟨fun b o e n hb hx => ?_, fun b o e n hb hx => ?_, B.free, fun b o e hx => ?_, B.tups, B.frzs, B.tbls⟩, fun b u e => ?_, F', fun b hb => ?_, h⟩
 ·exact K'.keep b o (old b o e).1 (fun z => (out b z).elim (old b o e).2 hb) (B.keep b o e n hb hx)
 ·obtain ⟨sl, q⟩ := B.slot b o e n hb hx
  obtain ⟨sl', q'⟩ := K'.slot b _ (old b o e).1 q
  exact ⟨sl', q'⟩
 ·obtain ⟨o', q⟩ := B.there b o e hx
  obtain ⟨sl', q'⟩ := K'.slot b _ (old b o e).1 q
  exact ⟨_, q'⟩
 ·refine (I.hok b u e).stay (fun c v hc q => ?_) (fun _ q => q) fun _ _ q => q
  rcases hc with rfl | hc
  ·exact tk c u e v q
  ·exact tk c _ hc v q
 ·rcases hb with rfl | hb
  ·exact ⟨(T.new b (.inl rfl)).1, (T.new b (.inl rfl)).2.1⟩
  ·cases hb
   exact ⟨Heap.get?_none_of_le (Nat.le_trans I.sz hT'), I.hok.fresh hT'⟩
abbrev R := Sum D Str
noncomputable def fnX (m : Nat) (g : Rho -> Option Out) : List D -> Option R := fun ds => match g (zAF m ds) with
 | some (.rt d) => some (.inl d)
 | some (.nx _) => some (.inl .none)
 | some (.ex x _) => some (.inr x)
 | _ => none
noncomputable def valX (G : List D -> Option R) : List D -> Option D := fun ds => match G ds with
 | some (.inl d) => some d
 | _ => none
noncomputable def spX (K : PySem.W.Frag) (n : Nat) (G : List D -> Option R) : Sp := fun vs H Q E => ∃ (F : Addr -> Prop) (ds : List D) (o : R), ds.length = n /\ (∀ a, F a -> H a ≠ none) /\ Reps K F H ds vs /\ G ds = some o /\ match o with
 | .inl d => ∀ F' H' v, Ext F F' H H' -> Rep K F' H' d v -> Q v H'
 | .inr x => ∀ F' H' C, Ext F F' H H' -> PySem.W.nsIn K mainGlobals x = some (some (.ref C)) -> E (.ref C) none H'
theorem fn_X {P : Program} {w : World} {K : PySem.W.Frag} {mg : Str -> Option Value} {base : Heap} {x qual : Str} {st : Stmt} {f : Addr} {fd : FuncData} {N ps : List Str} {k n m : Nat} {g : Rho -> Option Out} {G : List D -> Option R} (hG : G = fnX m g) (hn : ps.length = n) (hm : N.length = m)
  (F : Fun K x qual st f fd) (S : zAx N ps (zAf st))
  (hb : ∀ (cdv : Value) (A : Around) (outer : List Env) (s : Shared) (H : Hp) (E : XK), Room k (A.deeper (envOfC qual (zAf st) s.heap.objs.size f cdv)) ->
   DSs (cxOf (CX1 P w) P w K mg base N qual (zAf st) f cdv A outer s H E) (zAv st) g) : FnOk P w K mg base (CX1 P w) (k + 1) f fd ps (spX K n G) := by
 subst hn hm hG
 obtain ⟨oc, od, kV, doc, pm, an, cdv, ct, osl, rfl, lk, hcd⟩ := F.ex
 refine zFA lk hcd S (fun vs H Q E h => ?_) fun A outer s H vs Q E hr h => ?_
 ·obtain ⟨F, ds, d, hl, _, r, _⟩ := h
  rw [<- r.length, hl]
 ·obtain ⟨F, ds, o, hl, z, r, q, kk⟩ := h
  refine ⟨_, hb cdv A outer s H E hr, ?_⟩
  unfold fnX at q
  split at q
  ·rename_i d' e
   cases q
   exact ⟨F, H, F, _, _, Ext.refl F H, zBO z r, e, fun F' H' v E' R' => kk F' H' v E' R'⟩
  ·rename_i ρ' e
   cases q
   exact ⟨F, H, F, _, _, Ext.refl F H, zBO z r, e, fun F' H' σ' E' T' S' => kk F' H' .non E' .non⟩
  ·rename_i x' ρ' e
   cases q
   exact ⟨F, H, F, _, _, Ext.refl F H, zBO z r, e, fun F' H' σ' pins s' a C tr E' S' I' hC T' => zNf I' T' (kk F' H' C E' hC)⟩
  ·cases q
theorem zHr {P : Program} {w : World} {K : PySem.W.Frag} {mg : Str -> Option Value} {base : Heap} {f : Addr} {fd : FuncData} {ps : List Str} {k n : Nat} {G : List D -> Option R} {G' : List D -> Option D} (hG : G' = valX G) (F : FnOk P w K mg base (CX1 P w) k f fd ps (spX K n G)) :
  FnOk P w K mg base CX0 k f fd ps (spD K n G') := by
 subst hG
 have conv : ∀ vs H Q E, spD K n (valX G) vs H Q E -> spX K n G vs H Q E0 := fun vs H Q E zz => by
  obtain ⟨F, ds, d, hl, z, r, q, kk⟩ := zz
  unfold valX at q
  split at q
  ·rename_i d' e
   cases q
   exact ⟨F, ds, .inl d, hl, z, r, e, kk⟩
  ·cases q
 refine ⟨fun vs H Q E q => F.len vs H Q E0 (conv vs H Q E q), fun A outer s H args us vs Q E hr he hb hv hs => ?_⟩
 refine codeAny_mono (F.run A outer s H args us vs Q E0 hr he hb hv (conv vs H Q E hs)) fun r s' hq => ?_
 cases r with
 | ok fl =>
  cases fl with
  | ret u => exact hq
  | next => exact hq
  | brk => exact hq
  | cont => exact hq
 | error e =>
  obtain ⟨_, _, _, _, _, _, _, _, _, _, _, z⟩ := hq
  exact z
end EX
namespace EX
open PySem PySem.Spec PyProof.Rows L2 DL
noncomputable def EXw (X : Cx) (σ : L2.St) : XK := fun cls _ H' => ∀ pins s' a tr, Inv X pins σ H' s' -> ThrownC X pins H' s' a cls tr -> X.xe (.ref a) s'
section
variable {X : Cx} {k n : Nat} {f C : Addr} {fd : FuncData} {ps : List Str} {sp : Sp} {x : Str} {p pos pos' np cpos : Pos} {e : Expr} {es : List Expr} {t : TA} {G : List D -> Option R} {gr : Rho -> Option (List D)} {ga : Rho -> Option D}
theorem zMu {pins : List (Addr × Obj)} {σ : L2.St} {H : Hp} {s : Shared} {Q : VK} {us : List Value} {vs : List V} (F : FnOk X.prog X.w X.K X.mg X.base (CX1 X.prog X.w) k f fd ps sp) (hr : Room k X.A) (hb : Binds X.K fd ps []) (hex : X.ex = [])
  (I : Inv X pins σ H s) (r : Vals vs us) (h : sp vs H Q (EXw X σ)) : wpAny (model X.prog X.w) X.A (call (.ref f) us) (EP X pins σ Q) X.xe s := by
 have hl : (us ++ []).length = ps.length := by rw [List.append_nil, <- r.length]; exact F.len _ _ _ _ h
 have hbt := hb s us I.kIn hl
 rw [List.append_nil] at hbt
 refine wpAny_call (codeAny_mono (F.run X.A X.stack s H ⟨us, []⟩ us vs Q (EXw X σ) hr I.env0 hbt r h) fun r s' hq => ?_)
 cases r with
 | error e =>
  obtain ⟨a, C, tr, H', rfl, I', T', q⟩ := zMB hex I hq
  exact q pins s' a tr I' T'
 | ok fl =>
  cases fl with
  | ret u => exact I.after hq
  | next => exact False.elim hq
  | brk => exact False.elim hq
  | cont => exact False.elim hq
theorem zMm (F : FnOk X.prog X.w X.K X.mg X.base (CX1 X.prog X.w) k f fd ps sp) (hr : Room k X.A) (hg : Gl X x) (hm : X.mg x = some (.ref f)) (hk : PySem.W.keepIn X.K (.ref f) = true) (hb : Binds X.K fd ps []) (hex : X.ex = [])
  (ha : PA X (e :: es) t) (hdb : (x == ("__debug__" : Str)) = false := by decide) (he : starEach (e :: es) X.env = (false, eval e X.env) :: starEach es X.env := by rfl) (hpl : (backTo pos (starEach es X.env)).any (·.1) = false := by rfl) :
  PE X (.Call (.Name x p) (e :: es) [] pos) (fun σ H Q => t σ H fun vs H1 => sp vs H1 Q (EXw X σ)) := by
 intro pins s σ H Q I h
 refine wpAny_Call_Name_kw (zCi I hg hm ?_ hdb)
 refine PySem.W.callWith_K (h₀ := X.base) I.ok.mod.kin hk (thn (ha pos pins s σ H _ I h) fun us s1 ⟨vs, H1, I1, r, q⟩ => ⟨I1.kIn, ?_⟩) he hpl
 exact zMu F hr hb hex I1 r q
noncomputable def tAny (K : PySem.W.Frag) (g : Rho -> Option Unit) : TE := fun σ H Q => ∃ (F : Addr -> Prop) (H₀ : Hp) (ρ : Rho), StOk K F H H₀ σ ρ /\ g ρ = some () /\ ∀ F' H' v, Ext F F' H H' -> Q v H'
noncomputable def zGK (x : Str) (g : Rho -> Option Unit) : Rho -> Option Out := fun ρ => (g ρ).bind fun _ => some (.ex x ρ)
theorem zKw {K : PySem.W.Frag} {h : Heap} {C : Addr} {bmB : List Value} {newId : String} (KI : K.In h) (q : PySem.W.excIn K C bmB newId = true) :
  ∃ bm N nm qn bs hdct sn sub ab col dd k0 k1 k2 k3 k5 mN, h.get? C = some (excClassObj nm qn C N bs bm hdct sn sub ab col dd k0 k1 k2 k3 k5 newId) /\ h.Ns N mN /\ mN "__init__" = none /\ OwnTail h bmB bm := by
 unfold PySem.W.excIn at q
 split at q
 next dd cd sl lk =>
  split at q
  next C' bm k0 k1 k2 k3 n k5 hm hs =>
   simp only [Bool.and_eq_true, beq_iff_eq, Bool.not_eq_true'] at q
   obtain ⟨⟨⟨⟨⟨e1, e2⟩, e3⟩, e4⟩, e5⟩, e6⟩ := q
   subst e1; subst e2
   cases cd with
   | mk nm bs mro ns qn hd sn sub ab col del =>
    have e7 : mro = _ := hm
    have e8 : del = false := e3
    subst e7; subst e8
    have e9 : sl = #[k0, k1, k2, k3, some (.builtin n), k5] := by
     cases sl with
     | mk l => exact congrArg Array.mk hs
    subst e9
    exact ⟨bm, ns, nm, qn, bs, hd, sn, sub, ab, col, dd, k0, k1, k2, k3, k5, _, KI _ _ lk, .of_isNs (PySem.W.isNs_of_in KI e5), PySem.W.nsMap_none_of_in KI e5 e6, PySem.W.tail_of_in KI e4⟩
  next => cases q
 next => cases q
theorem zLA {B newId initId : String} {bmB : List Value} {g : Rho -> Option Unit} (FB : ExcBaseFacts B newId initId bmB) (hh : X.A.handled = none) (hex : X.ex = []) (hns : PySem.W.nsIn X.K mainGlobals x = some (some (.ref C))) (hexc : PySem.W.excIn X.K C bmB newId = true)
  (hg : Gl X x) (hm : X.mg x = some (.ref C)) (ha : PE X e (tAny X.K g)) (hdb : (x == ("__debug__" : Str)) = false := by decide)
  (he : starEach [e] X.env = (false, eval e X.env) :: starEach [] X.env := by rfl) (hpl : (backTo cpos (starEach [e] X.env)).any (·.1) = false := by rfl) : DS X (.Raise (some (.Call (.Name x np) [e] [] cpos)) none pos) (zGK x g) := by
 intro pins s σ H W I ⟨F₀, H₀, F, ρ, o, E, S, q, k⟩
 obtain ⟨_, e1, q⟩ := bnd q
 cases q
 obtain ⟨bm, N, nm, qn, bs, hdct, sn, sub, ab, col, dd, k0, k1, k2, k3, k5, mN, hC, hN, hni, T⟩ := zKw I.ok.mod.kin hexc
 refine wpAny_Raise_call_subT (C := C) (nm := nm) (q := qn) (N := N) (bs := bs) (bm := bm) (hdct := hdct) (sn := sn) (sub := sub) (ab := ab) (col := col) (dd := dd) (k0 := k0) (k1 := k1) (k2 := k2) (k3 := k3) (k5 := k5)
  FB (mN := mN) (T.hasType FB.hasBase) hh hpl hni (zCi I hg hm ⟨rfl, ?_⟩ hdb)
 have pa := zBa ha zBA he cpos pins s σ H (fun vs H1 => vs.length = 1 /\ ∃ F', Ext F F' H H1) I ⟨F, H₀, ρ, S, e1, fun F' H' v E' => ⟨rfl, F', E'⟩⟩
 rw [he] at pa ⊢
 refine Calls.evalArgs_plain (thn pa fun us s₂ zz => ?_)
 obtain ⟨vs, H2, I2, r, hl, F2, E2⟩ := zz
 refine ⟨rfl, by rw [<- r.length, hl]; decide, I2.bk _ _ hC, hN.keeps I2.bk, T.keeps I2.bk, fun h' a hm' => ?_⟩
 obtain ⟨t0, h1, h2, h3⟩ := hm'.there
 have I3 : Inv X pins σ H2 { s₂ with heap := h' } := I2.kept (t' := s₂.toks) hm'.keeps
 refine k F2 H2 σ pins { s₂ with heap := h' } a C none (E.trans E2) (S.ext E2) I3 hns ⟨⟨_, _, h1, rfl, rfl, rfl⟩, fun b hb => ?_⟩
 have hb' : b = a := by
  rcases hb with z | z
  ·exact z
  ·cases z
 subst hb'
 refine ⟨?_, zFX I2 hm'.new, zDt I2 hm'.new, zDd I2 hm'.new, zDc I2 hm'.new⟩
 rcases zCV I2 hm'.new with z | z
 ·exact z
 ·rw [hex] at z; cases z
end
end EX
namespace EX
open PySem PySem.Spec PyProof.Rows L2 DL
noncomputable def okC : Rho -> Option Unit := fun _ => some ()
section
variable {X : Cx} {e : Expr} {pos : Pos} {ga : Rho -> Option D}
end
end EX
namespace EX
open PySem PySem.Spec PyProof.Rows L2 DL
section
variable {M : Model} {A : Around} {E : Value -> Shared -> Prop} {s : Shared}
theorem zKO {base : Heap} {env : Env} {outer : List Env} {L e : Addr} {cls : Value} {tr : Option Addr} {Q : Unit -> Shared -> Prop}
  (hfr : A.frames = some (env :: outer)) (hl : s.heap.FunFrames base (env :: outer)) (hf : env.frame = some L) (F : Fly s.heap e cls tr)
  (h : ∀ h' T, s.heap.objs.size <= T -> Fly h' e cls (some T) -> Kept (frs (env :: outer)) (fun b => b = e ∨ some b = tr) s.heap h' -> Q () { s with heap := h' }) :
  wpAny M A (noteFrame (.ref e) env) (fun _ s' => wpAny M A (setFlight (.ref e) none) Q E s') E s := by
 obtain ⟨oe, vs, he, hc, hd, hT⟩ := F
 subst hc
 unfold noteFrame
 simp only [hf]
 cases tr with
 | none =>
  have h1 : vs[1]? = some .none := hT
  refine wpAny_bind (wpAny_field he hd h1 ?_)
  rw [if_neg (by decide)]
  refine zDb hfr hl hf he hd (Array.getElem?_eq_some_iff.mp h1).1 fun h' T hT F' K' => h h' T hT F' ⟨fun b o hb => K'.keep b o fun z => hb (.inl z), fun b o hb => K'.slot b o fun z => hb (.inl z)⟩
 | some T =>
  obtain ⟨h1, hTe, oT, ts, hT, hdT, h3⟩ := hT
  refine wpAny_bind (wpAny_field he hd h1 ?_)
  rw [if_pos (show (Value.ref T != Value.none) = true from by simp)]
  refine wpAny_bind (wpAny_field hT hdT h3 ?_)
  rw [if_neg (show ¬ ((Value.none == rawInt L) = true) from by simp [rawInt])]
  refine wpAny_bind (wpAny_setField hT hdT (Array.getElem?_eq_some_iff.mp h3).1 ?_)
  have other : ∀ b, b ≠ T -> (s.heap.update T (Obj.mapFields (·.setIfInBounds 3 Value.none))).get? b = s.heap.get? b := fun b hb => Heap.get?_update_other _ _ (Ne.symm hb)
  have noRecord : ∀ b o, s.heap.get? b = some o -> (∀ vs, o.data ≠ .fields vs) -> b ≠ T := fun b o hb hnf q => by
   rw [q, hT] at hb; injection hb with hb; subst hb; exact hnf ts hdT
  refine zDb (s := { s with heap := s.heap.update T (Obj.mapFields (·.setIfInBounds 3 Value.none)) }) hfr (hl.of_keeps fun b o hb hnf => ⟨o, (other b (noRecord b o hb hnf)).trans hb, rfl⟩) hf ((other e (Ne.symm hTe)).trans he) hd (Array.getElem?_eq_some_iff.mp h1).1 fun h' T' hT' F' K' => h h' T' (by rw [Heap.size_update] at hT'; exact hT') F' ?_
  exact ⟨fun b o hb hbf hbo => K'.keep b o (fun z => hb (.inl z)) hbf ((other b fun z => hb (.inr (by rw [z]))).trans hbo), fun b o hb hbo => K'.slot b o (fun z => hb (.inl z)) ((other b fun z => hb (.inr (by rw [z]))).trans hbo)⟩
end
noncomputable def zCs (X : Cx) (pins : List (Addr × Obj)) (H : Hp) (b : Addr) : Prop := X.s₀.heap.get? b = none /\ H b = none /\ b ≠ X.env.locals /\ (∀ x c, X.env.cells.lookup x = some c -> c ≠ b) /\ ∀ p ∈ X.pn ++ pins, p.1 ≠ b
section
variable {X : Cx} {pins : List (Addr × Obj)} {σ : L2.St} {H : Hp} {s : Shared} {h' : Heap} {a C : Addr} {no : Addr -> Prop}
theorem zLR (I : Inv X pins σ H s) (hex : X.ex = []) {b : Addr} (hb : s.heap.objs.size <= b) : zCs X pins H b := by
 have n1 := Heap.get?_none_of_le hb
 refine ⟨?_, zFX I n1, zDt I n1, zDd I n1, zDc I n1⟩
 rcases zCV I n1 with z | z
 ·exact z
 ·rw [hex] at z; cases z
theorem zD8 (I : Inv X pins σ H s) (T : ∀ b, no b -> zCs X pins H b) (K : Kept (frs X.stack) no s.heap h') : Inv X pins σ H { s with heap := h' } := by
 have fr : ∀ b, b ∈ frs X.stack -> b = X.env.locals ∨ b ∈ X.fs := fun b hb => List.mem_cons.mp (I.stkSub b hb)
 have old : ∀ b o, X.s₀.heap.get? b = some o -> ¬ no b := fun b o e z => by
  have n := (T b z).1
  rw [n] at e; cases e
 have lo : ¬ no X.env.locals := fun z => (T _ z).2.2.1 rfl
 have ce : ∀ x c, X.env.cells.lookup x = some c -> ¬ no c := fun x c e z => (T _ z).2.2.2.1 x c e rfl
 have tk : ∀ b u, H b = some u -> ∀ o, s.heap.get? b = some o -> h'.get? b = some o := fun b u e o q => K.keep b o (fun z => by
  have n := (T b z).2.1
  rw [n] at e; cases e) (fun z => by
  have n := I.stkFree b z
  rw [n] at e; cases e) q
 have cell : ∀ x c v, X.env.cells.lookup x = some c -> s.heap.IsCell c v -> h'.IsCell c v := fun x c v e zz => by
  obtain ⟨o, ho, hd⟩ := zz
  obtain ⟨sl, q⟩ := K.slot c o (ce x c e) ho
  exact ⟨_, q, hd⟩
 have B := I.base
 refine ⟨I.ok, I.os, I.bare, ⟨fun b o e n hb hx => ?_, fun b o e n hb hx => ?_, B.free, fun b o e hx => ?_, B.tups, B.frzs, B.tbls⟩, ?_, fun x c e => ?_, I.free, I.freeC, fun p hp => ?_, fun b u e => ?_, I.len⟩
 ·refine K.keep b o (old b o e) (fun z => (fr b z).elim (fun w => ?_) hb) (B.keep b o e n hb hx)
  have := Nat.lt_of_lt_of_le (Heap.lt_size e) I.ok.above
  rw [w] at this
  exact absurd this (Nat.lt_irrefl _)
 ·obtain ⟨sl, q⟩ := B.slot b o e n hb hx
  obtain ⟨sl', q'⟩ := K.slot b _ (old b o e) q
  exact ⟨sl', q'⟩
 ·obtain ⟨o', q⟩ := B.there b o e hx
  obtain ⟨sl', q'⟩ := K.slot b _ (old b o e) q
  exact ⟨_, q'⟩
 ·obtain ⟨m, ⟨o, es, ep, ho, hd, r⟩, l⟩ := I.loc
  obtain ⟨sl, q⟩ := K.slot _ o lo ho
  refine ⟨m, ⟨_, es, ep, q, hd, r⟩, fun i x v h1 h2 h3 => ?_⟩
  obtain ⟨u, r1, k1⟩ := l i x v h1 h2 h3
  refine ⟨u, r1, ?_⟩
  rcases k1 with k1 | ⟨k1, c, k2, k3⟩
  ·exact .inl k1
  ·exact .inr ⟨k1, c, k2, cell x c _ k2 k3⟩
 ·obtain ⟨v, k⟩ := I.cell x c e
  exact ⟨v, cell x c v e k⟩
 ·obtain ⟨p1, p2, p3, p4, p5⟩ := I.pin p hp
  refine ⟨K.keep _ _ (fun z => (T _ z).2.2.2.2 p hp rfl) (fun z => (fr _ z).elim p3 p4) p1, p2, p3, p4, p5⟩
 ·refine (I.hok b u e).stay (fun c v hc q => ?_) (fun _ q => q) fun _ _ q => q
  rcases hc with rfl | hc
  ·exact tk c u e v q
  ·exact tk c _ hc v q
theorem zJL {oe : Obj} (I : Inv X pins σ H s) (T : zCs X pins H a) (he : s.heap.get? a = some oe) (hc : oe.cls = .ref C) : Inv X pins σ (upd H a (ExcO a C)) s := by
 obtain ⟨t1, t2, t3, t4, t5⟩ := T
 have up : ∀ b, b ≠ a -> upd H a (ExcO a C) b = H b := fun b hb => by unfold upd; rw [if_neg hb]
 have ua : upd H a (ExcO a C) a = some (ExcO a C) := by unfold upd; rw [if_pos rfl]
 have ne : ∀ b u, H b = some u -> b ≠ a := fun b u e z => by rw [z, t2] at e; cases e
 have B := I.base
 refine ⟨I.ok, I.os, I.bare, ⟨B.keep, B.slot, fun b o e n hx => ?_, B.there, fun b xs e => ?_, fun b o u e => ?_, fun b ps e => ?_⟩, I.loc, I.cell, ?_, fun x c e => ?_, fun p hp => ?_, fun b u e => ?_, I.len⟩
 ·rw [up b fun z => by rw [z, t1] at e; cases e]
  exact B.free b o e n hx
 ·have q := B.tups b xs e
  rw [up b (ne b _ q)]; exact q
 ·have q := B.frzs b o u e
  rw [up b (ne b _ q)]; exact q
 ·obtain ⟨more, q⟩ := B.tbls b ps e
  exact ⟨more, by rw [up b (ne b _ q)]; exact q⟩
 ·rw [up _ (Ne.symm t3)]; exact I.free
 ·rw [up _ (t4 x c e)]; exact I.freeC x c e
 ·obtain ⟨p1, p2, p3, p4, p5⟩ := I.pin p hp
  exact ⟨p1, by rw [up _ (t5 p hp)]; exact p2, p3, p4, p5⟩
 ·by_cases z : b = a
  ·subst z
   rw [ua] at e; cases e
   exact ⟨⟨oe, he, hc⟩, ⟨oe, he⟩, fun h1 h2 ⟨o, q1, q2⟩ k => ⟨o, k o q1, q2⟩⟩
  ·rw [up b z] at e
   refine (I.hok b u e).stay (fun c v hc q => q) (fun c q => ?_) fun c v q => ?_
   ·rw [up c (ne c _ q)]; exact q
   ·rw [up c (ne c _ q)]; exact q
end
end EX
namespace EX
open PySem PySem.Spec PyProof.Rows L2 DL PySem.W
theorem zMy {K : PySem.W.Frag} {M : Model} {A : Around} {E : Value -> Shared -> Prop} {s : Shared} {a C L : Addr} {oe : Obj} {b : Bool} {Q : Bool -> Shared -> Prop} (KI : K.In s.heap) (he : s.heap.get? a = some oe) (hc : oe.cls = .ref C)
  (e1 : kitCls K (.ref C) (.ref L) = some b) (e2 : subIn K (.ref L) (.type "BaseException") = some true) (q : Q b s) : wpAny M A (excMatches (.ref a) (.ref L)) Q E s := by
 obtain ⟨h, g, d, t, os⟩ := s
 obtain ⟨hty, his, hsub⟩ := kit_cls (M := M) KI e1
 have hB := looks_subIn (M := M) KI e2
 have f := tc_notTuple
 unfold excMatches
 have LI : Looks M h (isInstance (.ref L) (.type "tuple")) false := hty.andThen (Looks.of_pure f)
 refine wpAny_bind (LI.at ?_)
 simp only [Bool.false_eq_true, if_false]
 refine wpAny_bind (wpAny_pure ?_)
 have LE : Looks M h (isExcClass (.ref L)) true := by
  unfold isExcClass
  refine his.andThen ?_
  exact hB
 simp only [List.forIn_cons, List.forIn_nil]
 refine wpAny_bind (wpAny_bind (wpAny_bind (LE.at ?_)))
 simp only [Bool.not_true, Bool.false_eq_true, if_false]
 repeat (any_goals (first | assumption | (with_reducible refine hsub.at ?_) | (with_reducible refine wpAny_loadPart_at he ?_; rw [hc]) | wp_step))
 cases b <;> exact wpAny_pure (wpAny_pure (wpAny_pure q))
section
variable {prog : Program} {w : World} {A : Around} {E : Value -> Shared -> Prop} {h : Heap} {g : Array GenState} {d : Drawn} {t : Nat} {os : OsState} {a C : Addr} {o : Obj} {K : PySem.W.Frag}
structure XCls (K : PySem.W.Frag) (C : Addr) : Prop where
 ga : findIn K (.ref C) "__getattribute__" = some (some (.builtin "BaseException.__getattribute__"))
 no : findIn K (.ref C) "__getattr__" = some none
 cl : findIn K (.ref C) "__class__" = some (some (.builtin "object.__class__"))
 be : subIn K (.ref C) (.type "BaseException") = some true
 ob : subIn K (.ref C) (.type (".".intercalate ("object.__class__".cutAt '.').dropLast)) = some true
 it : (clsIn K C).isSome = true
theorem zNi {R : Result -> Shared -> Prop} (KI : K.In h) (Z : XCls K C) (hx : h.get? a = some o) (hc : o.cls = .ref C) (hq : R (.ok (.ret (.ref C))) ⟨h, g, d, t, os⟩) :
  codeAny (model prog w) A (.call (.builtin "getset_descriptor.__get__") ⟨[.builtin "object.__class__", .ref a, .ref C], []⟩) R ⟨h, g, d, t, os⟩ := by
 have t5 : (⟨h, g, d, t, os⟩ : Shared).TypeIs (.builtin "object.__class__") "getset_descriptor" := F.typeOf_object_class
 have lo := looks_subIn (M := model prog w) KI Z.ob
 refine codeAny_call_builtin F.slot_gs_get.plain F.entry_gs_get (F.slot_gs_get.check _ _ _ _ _ _ _ _ t5 (F.args_gs_get _ _ _) ?_)
 repeat (any_goals (first | assumption | (with_reducible refine wpAny_loadPart_at hx ?_; rw [hc]) | (with_reducible refine lo.at ?_) | wp_step))
 refine ⟨Code.quiet_builtin _ (by decide +kernel), codeAny_builtin F.entry_object_class ?_⟩
 repeat (any_goals (first | assumption | (with_reducible refine wpAny_loadPart_at hx ?_; rw [hc]) | wp_step))
theorem zKH {tk : Tok} {Q : Fin -> Shared -> Prop} (KI : K.In h) (Z : XCls K C) (hx : h.get? a = some o) (hc : o.cls = .ref C) (hq : Q (.done (.ret (.ref C))) ⟨h, g, d, t, os⟩) :
  wpAny (model prog w) A (Builtin.«object.__getattribute__» ⟨[.ref a, .str "__class__" tk], []⟩) Q E ⟨h, g, d, t, os⟩ := by
 have t5 : (⟨h, g, d, t, os⟩ : Shared).TypeIs (.builtin "object.__class__") "getset_descriptor" := F.typeOf_object_class
 have l1 := looks_findIn (M := model prog w) KI Z.cl
 have f5 := F.typeOf_object_class
 have f6 := F.slot_gs_get.lookup
 have f7 := F.slot_gs_set.lookup
 repeat (any_goals (first | assumption | (with_reducible refine wpAny_loadPart_at hx ?_; rw [hc]) | (with_reducible refine l1.at ?_) | wp_step))
 refine zNi KI Z hx hc ?_
 repeat (any_goals (first | assumption | wp_step))
theorem zN8 {M : Model} {nv : Value} {Q : Unit -> Shared -> Prop} (KI : K.In h) (Z : XCls K C) (hx : h.get? a = some o) (hc : o.cls = .ref C) (hq : Q () ⟨h, g, d, t, os⟩) :
  wpAny M A (checkBuiltinCall "BaseException.__getattribute__" ⟨[.ref a, nv], []⟩) Q E ⟨h, g, d, t, os⟩ := by
 have k1 : builtinKind "BaseException.__getattribute__" = some .slot := by decide +kernel
 have k2 : splitId "BaseException.__getattribute__" = some ("BaseException", "__getattribute__") := by decide +kernel
 have lb := looks_subIn (M := M) KI Z.be
 have ha := F.args_bexc_ga (.ref a) nv
 simp only [checkBuiltinCall, k1, k2]
 refine wpAny_bind ?_
 unfold isInstance
 repeat (first | (with_reducible refine wpAny_loadPart_at hx ?_; rw [hc]) | (with_reducible refine lb.at ?_) | wp_step)
 exact hq
theorem xc_by {tk : Tok} {Q : Value -> Shared -> Prop} (FB : ∃ B, ExcAttrFacts B) (KI : K.In h) (Z : XCls K C) (hx : h.get? a = some o) (hc : o.cls = .ref C) (hq : Q (.ref C) ⟨h, g, d, t, os⟩) :
  wpAny (model prog w) A (getAttrBy (.ref a) (.str "__class__" tk) false) Q E ⟨h, g, d, t, os⟩ := by
 obtain ⟨B, FB⟩ := FB
 have f3 := FB.ga.bind (.ref a)
 have x2 : (Value.builtin "BaseException.__getattribute__" == Value.builtin "object.__getattribute__") = false := by decide +kernel
 have x1 : (onTheHeap (Value.ref C) && Value.builtin "BaseException.__getattribute__" == Value.builtin "object.__getattribute__") = false := by rw [x2]; rfl
 have l1 := looks_findIn (M := model prog w) KI Z.ga
 have l2 := looks_findIn (M := model prog w) KI Z.no
 repeat (any_goals (first | assumption | (with_reducible refine wpAny_loadPart_at hx ?_; rw [hc]) | (with_reducible refine l1.at ?_) | (with_reducible refine l2.at ?_) | wp_step))
 refine codeAny_call_builtin FB.ga.plain F.entry_bexc_ga (zN8 KI Z hx hc (zKH KI Z hx hc ?_))
 repeat (any_goals (first | assumption | wp_step))
theorem zNz {Q : Option Value -> Shared -> Prop} (FB : ∃ B, ExcAttrFacts B) (KI : K.In h) (Z : XCls K C) (hx : h.get? a = some o) (hc : o.cls = .ref C) (hq : Q (some (.ref C)) ⟨h, g, d, t + 1, os⟩) : wpAny (model prog w) A (getAttr? (.ref a) "__class__") Q E ⟨h, g, d, t, os⟩ := by
 unfold getAttr? getAttrBy?
 repeat (any_goals (first | assumption | (with_reducible apply xc_by FB KI Z hx hc) | wp_step))
end
end EX
namespace EX
open PySem PySem.Spec PyProof.Rows L2 DL PySem.W
theorem ok_as {X : Cx} {A' : Around} {c' : Bool} {pn' : List (Addr × Obj)} {E' : Value -> Shared -> Prop} (ok : X.Ok) (hf : A'.frames = X.A.frames) (hc : c' = true -> A'.handled = none) : Cx.Ok { X with A := A', calm := c', pn := pn', xe := E' } :=
 ⟨ok.mod, ok.kind, ok.glob, ok.blt, ok.above, ok.inj, ok.has, ok.cab, hc, hf.trans ok.frames, ok.stk, ok.exf, ok.bs, ok.bsz, ok.noex, ok.exfs, ok.funs, ok.frf⟩
theorem zC0 {X : Cx} {pins pins' : List (Addr × Obj)} {σ : L2.St} {H : Hp} {s : Shared} {A' : Around} {c' : Bool} {pn' : List (Addr × Obj)} {E' : Value -> Shared -> Prop} (I : Inv X pins σ H s) (hf : A'.frames = X.A.frames) (hc : c' = true -> A'.handled = none)
  (hp : ∀ p ∈ pn' ++ pins', p ∈ X.pn ++ pins) : Inv { X with A := A', calm := c', pn := pn', xe := E' } pins' σ H s :=
 ⟨ok_as I.ok hf hc, I.os, I.bare, I.base, I.loc, I.cell, I.free, I.freeC, fun p h => I.pin p (hp p h), I.hok, I.len⟩
theorem zDG {X : Cx} {pins pins' : List (Addr × Obj)} {σ : L2.St} {H : Hp} {s : Shared} {A' : Around} {c' : Bool} {pn' : List (Addr × Obj)} {E' : Value -> Shared -> Prop} (ok : X.Ok) (I : Inv { X with A := A', calm := c', pn := pn', xe := E' } pins' σ H s)
  (hp : ∀ p ∈ X.pn ++ pins, p ∈ pn' ++ pins') : Inv X pins σ H s :=
 ⟨ok, I.os, I.bare, I.base, I.loc, I.cell, I.free, I.freeC, fun p h => I.pin p (hp p h), I.hok, I.len⟩
section
variable {X : Cx} {pins : List (Addr × Obj)} {σ : L2.St} {H : Hp} {s : Shared}
theorem zLh {h' : Heap} {m' : Str -> Option Value} {t : Tok} (I : Inv X pins σ H s) (hn : h'.Ns X.env.locals m') (hs : Heap.SameBut X.env.locals s.heap h') : Inv X pins (List.replicate X.N.length none) H { s with heap := h', toks := t } := by
 have ne : ∀ b o, X.s₀.heap.get? b = some o -> b ≠ X.env.locals := fun b o e => Nat.ne_of_lt (Nat.lt_of_lt_of_le (Heap.lt_size e) I.ok.above)
 refine ⟨I.ok, I.os, I.bare, ⟨fun b o e n hb hx => (hs.2 b (ne b o e)).trans (I.base.keep b o e n hb hx), fun b o e n hb hx => ?_, I.base.free, fun b o e hx => ?_, I.base.tups, I.base.frzs, I.base.tbls⟩, ⟨m', hn, fun i x v _ h2 => ?_⟩, fun x c e => ?_, I.free, I.freeC, fun p hp => ?_, fun b u e => ?_, by simp⟩
 ·obtain ⟨sl, q⟩ := I.base.slot b o e n hb hx
  exact ⟨sl, (hs.2 b (ne b o e)).trans q⟩
 ·obtain ⟨o', q⟩ := I.base.there b o e hx
  exact ⟨o', (hs.2 b (ne b o e)).trans q⟩
 ·rw [List.getElem?_replicate] at h2
  split at h2 <;> cases h2
 ·obtain ⟨v, k⟩ := I.cell x c e
  exact ⟨v, k.sameBut hs (I.cne x c e)⟩
 ·obtain ⟨e, n, nl, nf, d⟩ := I.pin p hp
  exact ⟨(hs.2 p.1 nl).trans e, n, nl, nf, d⟩
 ·refine (I.hok b u e).stay (fun c v hc q => (hs.2 c ?_).trans q) (fun _ q => q) fun _ _ q => q
  rintro rfl
  have f := I.free
  rcases hc with z | z
  ·rw [z] at f; rw [f] at e; cases e
  ·rw [f] at z; cases z
end
noncomputable def sTry (cs : List Str) (i : Nat) (gb gh : Rho -> Option Out) : Rho -> Option Out := fun ρ => (gb ρ).bind fun o => match o with
 | .ex x ρ' => if cs.contains x = true then (gh ((ρ'.map frz).set i (.dat (excD x)))).bind fun o => match o with
  | .rt d => some (.rt d)
  | _ => none else none
 | o => some o
noncomputable def zC8 (K : PySem.W.Frag) (L : Addr) (x : Str) : Prop := ∃ C, nsIn K mainGlobals x = some (some (.ref C)) /\ kitCls K (.ref C) (.ref L) = some true
section
variable {X : Cx} {body suite : List Stmt} {b₀ : Stmt} {gb gh : Rho -> Option Out} {cs : List Str} {i : Nat} {n Ln : Str} {np hp pos : Pos} {L : Addr}
theorem zOH {E : Value -> Shared -> Prop} {W : Ends} {pins pins' : List (Addr × Obj)} {σ : L2.St} {H H₀ : Hp} {F F₀ : Addr -> Prop} {s : Shared} {ρ : Rho} {a C : Addr} {tr : Option Addr} {x : Str} {d : D} {E' : Value -> Shared -> Prop} (ok : X.Ok)
  (hh : ∀ e pn E, DSs { X with A := X.A.mark (some e), calm := false, pn := pn, xe := E } (b₀ :: suite) gh) (hex : X.ex = []) (hst : X.stack = X.env :: X.outer) (hfr : X.env.frame = some X.env.locals)
  (hN : X.N.Nodup) (hi : X.N[i]? = some n) (hlo : X.env.kindOf n = some .local) (hsc : X.env.scope.names.lookup n = some .local) (hg : Gl X Ln) (hm : X.mg Ln = some (.ref L)) (hdb : (Ln == ("__debug__" : Str)) = false) (hB : subIn X.K (.ref L) (.type "BaseException") = some true)
  (hT : zC8 X.K L x) (E1 : Ext F₀ F H₀ H) (S1 : StOk X.K F H H₀ σ ρ) (I1 : Inv { X with pn := X.pn ++ pins, xe := E' } pins' σ H s) (hC : nsIn X.K mainGlobals x = some (some (.ref C))) (T1 : ThrownC { X with pn := X.pn ++ pins, xe := E' } pins' H s a (.ref C) tr)
  (q : gh ((ρ.map frz).set i (.dat (excD x))) = some (.rt d)) (k : ∀ F' H' v, Ext F₀ F' H₀ H' -> Rep X.K F' H' d v -> W.rt v H') :
  wpAny (model X.prog X.w) X.A (noteFrame (.ref a) X.env) (fun _ s₂ => wpAny (model X.prog X.w) X.A (setFlight (.ref a) none) (fun _ s₃ => wpAny (model X.prog X.w) X.A (handleBy (.ref a) X.env [.ExceptHandler (some (.Name Ln np)) (some n) (b₀ :: suite) hp]) (SP X pins W) E s₃) E s₂) E s := by
 obtain ⟨C', hC', hk⟩ := hT
 rw [hC] at hC'
 cases hC'
 have fr : X.A.frames = some (X.env :: X.outer) := by rw [ok.frames, hst]
 have st : s.heap.FunFrames X.base (X.env :: X.outer) := by
  have := I1.stack
  rw [show ({ X with pn := X.pn ++ pins, xe := E' } : Cx).stack = X.stack from rfl, hst] at this
  exact this
 refine zKO fr st hfr T1.fly fun h' T hT' F' K' => ?_
 have aT : zCs { X with pn := X.pn ++ pins, xe := E' } pins' H T := zLR I1 hex hT'
 have aa : zCs { X with pn := X.pn ++ pins, xe := E' } pins' H a := T1.new a (.inl rfl)
 have K2 : Kept (frs ({ X with pn := X.pn ++ pins, xe := E' } : Cx).stack) (fun b => b = a ∨ some b = tr) s.heap h' := by
  rw [show ({ X with pn := X.pn ++ pins, xe := E' } : Cx).stack = X.stack from rfl, hst]
  exact K'
 have I2 := zD8 I1 (fun b hb => T1.new b hb) K2
 obtain ⟨oe, vs, he, hc, hd, h1, hTe, oT, ts, hoT, hdT, h3⟩ := F'
 have Ih : ∀ E, Inv { X with A := X.A.mark (some (.ref a)), calm := false, pn := X.pn ++ pins ++ pins', xe := E } [] σ H { s with heap := h' } := fun E =>
  zC0 (X := X) (A' := X.A.mark (some (.ref a))) (pins := pins ++ pins') (zDG ok I2 (fun p hp => by simpa [List.append_assoc] using hp)) rfl (fun z => nomatch z) (fun p hp => by simpa [List.append_assoc] using hp)
 refine wpAny_handleBy_cons (codeAny_handlers_test (zCi (Ih fun _ _ => False) hg hm ?_ hdb)) (by intro q; cases q)
 refine zMy I2.kIn he hc hk hB (codeAny_handlers_suite_as ?_)
 refine wpAny_setFlight_none he hd h1 hoT hdT (Array.getElem?_eq_some_iff.mp h3).1 ?_
 have other : ∀ b, b ≠ T -> (h'.update T (Obj.mapFields (·.setIfInBounds 3 Value.none))).get? b = h'.get? b := fun b hb => Heap.get?_update_other _ _ (Ne.symm hb)
 have I3 := zD8 (h' := h'.update T (Obj.mapFields (·.setIfInBounds 3 Value.none))) (no := (· = T)) (s := { s with heap := h' }) (I2) (fun b hb => by rw [hb]; exact aT) ⟨fun b o hb _ e => (other b hb).trans e, fun b o hb e => ⟨o.slots, (other b hb).trans e⟩⟩
 have I4 := zJL (a := a) (C := C) I3 aa ((other a (Ne.symm hTe)).trans he) hc
 have I5 : ∀ E, Inv { X with A := X.A.mark (some (.ref a)), calm := false, pn := X.pn ++ pins ++ pins', xe := E } [] σ (upd H a (ExcO a C)) _ := fun E =>
  zC0 (X := X) (A' := X.A.mark (some (.ref a))) (pins := pins ++ pins') (zDG ok I4 (fun p hp => by simpa [List.append_assoc] using hp)) rfl (fun z => nomatch z) (fun p hp => by simpa [List.append_assoc] using hp)
 have ha : H a = none := aa.2.1
 have fz := Ext.frozen (F := fun b => F b ∨ Own σ ρ b) (o := ExcO a C) ha
 have S2 := (S1.frz.ext fz).put (i := i) (Rep.exn (a := a) (C := C) (x := x) (.inr rfl) (by unfold upd; rw [if_pos rfl]) hC)
 refine zFG (X := { X with A := X.A.mark (some (.ref a)), calm := false, pn := X.pn ++ pins ++ pins', xe := fun _ _ => False }) (I5 fun _ _ => False) hN hi (.inl hsc) (v := .ref a) (u := .ref a) rfl (fun s5 I6 => ?_) (.inr hsc)
 have I7 : ∀ E, Inv { X with A := X.A.mark (some (.ref a)), calm := false, pn := X.pn ++ pins ++ pins', xe := E } [] (σ.set i (some (.ref a))) (upd H a (ExcO a C)) s5 := fun E =>
  zC0 (X := { X with A := X.A.mark (some (.ref a)), calm := false, pn := X.pn ++ pins ++ pins', xe := fun _ _ => False }) I6 rfl (fun z => nomatch z) (fun p hp => hp)
 refine thn (hh (.ref a) (X.pn ++ pins ++ pins') _ [] s5 _ _ { nx := fun _ _ => False, rt := W.rt } (I7 _) ⟨F₀, H₀, _, _, _, E1.thaw S1 fz, S2, q, fun F3 H3 v E3 R3 => k F3 H3 v E3 R3⟩) fun f s6 z => ?_
 cases f with
 | next => obtain ⟨_, _, _, z⟩ := z; exact z.elim
 | brk => obtain ⟨_, _, _, z⟩ := z; exact z.elim
 | cont => obtain ⟨_, _, _, z⟩ := z; exact z.elim
 | ret u =>
  obtain ⟨v, σ3, H3, I8, rv, w⟩ := z
  have I9 : Inv X pins σ3 H3 s6 := zDG ok I8 (fun p hp => by
   rw [List.append_nil]
   exact List.mem_append_left _ hp)
  obtain ⟨m, hn, _⟩ := I9.loc
  exact wpAny_nameGoes hlo hn (by rw [ok.kind]; rfl) fun h6 m6 hn6 hs6 => ⟨v, _, H3, zLh I9 hn6 hs6, rv, w⟩
theorem zLf (hb : ∀ pn E, DSs { X with pn := pn, xe := E } body gb) (hh : ∀ e pn E, DSs { X with A := X.A.mark (some e), calm := false, pn := pn, xe := E } (b₀ :: suite) gh) (hex : X.ex = []) (hst : X.stack = X.env :: X.outer) (hfr : X.env.frame = some X.env.locals)
  (hN : X.N.Nodup) (hi : X.N[i]? = some n) (hlo : X.env.kindOf n = some .local) (hsc : X.env.scope.names.lookup n = some .local) (hg : Gl X Ln) (hm : X.mg Ln = some (.ref L)) (hB : subIn X.K (.ref L) (.type "BaseException") = some true)
  (hT : ∀ x, cs.contains x = true -> zC8 X.K L x) (hdb : (Ln == ("__debug__" : Str)) = false := by decide) : DS X (.Try body [.ExceptHandler (some (.Name Ln np)) (some n) (b₀ :: suite) hp] [] [] pos) (sTry cs i gb gh) := by
 intro pins s σ H W I ⟨F₀, H₀, F, ρ, o, E, S, q, k⟩
 obtain ⟨ob, e1, q⟩ := bnd q
 refine wpAny_Try_except ?_
 have back : ∀ {E' σ' H' s'}, Inv { X with pn := X.pn ++ pins, xe := E' } [] σ' H' s' -> Inv X pins σ' H' s' := fun {E' σ' H' s'} J => zDG I.ok J fun p hp => by rw [List.append_nil]; exact hp
 have I' : ∀ E', Inv { X with pn := X.pn ++ pins, xe := E' } [] σ H s := fun E' => zC0 (A' := X.A) (c' := X.calm) I rfl I.ok.hd fun p hp => by rw [List.append_nil] at hp; exact hp
 have fin : ∀ {E' : Value -> Shared -> Prop} {E2 : Value -> Shared -> Prop} f s', SP { X with pn := X.pn ++ pins, xe := E' } [] W f s' -> (match f with | .next => wpAny (model X.prog X.w) X.A (execs [] X.env) (SP X pins W) E2 s' | f => SP X pins W f s') := fun {E' E2} f s' z => by
  cases f with
  | next => obtain ⟨σ', H', J, w⟩ := z; exact wpAny_execs_nil ⟨σ', H', back J, w⟩
  | brk => obtain ⟨σ', H', J, w⟩ := z; exact ⟨σ', H', back J, w⟩
  | cont => obtain ⟨σ', H', J, w⟩ := z; exact ⟨σ', H', back J, w⟩
  | ret u => obtain ⟨v, σ', H', J, r, w⟩ := z; exact ⟨v, σ', H', back J, r, w⟩
 refine thn (hb (X.pn ++ pins) _ [] s σ H W (I' _) ⟨F₀, H₀, F, ρ, ob, E, S, e1, ?_⟩) fin
 cases ob with
 | nx ρ' => cases q; exact k
 | rt d => cases q; exact k
 | bk ρ' => cases q; exact k
 | ct ρ' => cases q; exact k
 | ex x ρ' =>
  intro F' H' σ' pins' s' a C tr E1 S1 I1 hC T1
  have q' : (if cs.contains x = true then (gh ((ρ'.map frz).set i (.dat (excD x)))).bind (fun o => match o with
   | .rt d => some (Out.rt d)
   | _ => none) else none) = some o := q
  split at q'
  next hc =>
   obtain ⟨oh, e2, q'⟩ := bnd q'
   cases oh with
   | rt d => cases q'; exact zOH I.ok hh hex hst hfr hN hi hlo hsc hg hm hdb hB (hT x hc) E1 S1 I1 hC T1 e2 k
   | _ => cases q'
  next => cases q'
end
end EX
namespace EX
open PySem PySem.Spec PyProof.Rows L2 DL PySem.W
noncomputable def tX (X : Cx) (g : Rho -> Option R) : TE := fun σ H Q => ∃ (F : Addr -> Prop) (H₀ : Hp) (ρ : Rho) (r : R), StOk X.K F H H₀ σ ρ /\ g ρ = some r /\ match r with
 | .inl d => ∀ F' H' v, Ext F F' H H' -> Rep X.K F' H' d v -> Q v H'
 | .inr x => ∀ F' H' C, Ext F F' H H' -> nsIn X.K mainGlobals x = some (some (.ref C)) -> EXw X σ (.ref C) none H'
noncomputable def DX (X : Cx) (e : Expr) (g : Rho -> Option R) : Prop := PE X e (tX X g)
noncomputable def zBm (G : List D -> Option R) (gr : Rho -> Option (List D)) : Rho -> Option R := fun ρ => (gr ρ).bind G
noncomputable def zCK (g : Rho -> Option R) : Rho -> Option Out := fun ρ => (g (ρ.map frz)).bind fun r => match r with
 | .inl d => some (.rt d)
 | .inr x => some (.ex x (ρ.map frz))
section
variable {X : Cx} {k n : Nat} {f : Addr} {fd : FuncData} {ps : List Str} {x : Str} {p pos pos' : Pos} {e e' c : Expr} {es : List Expr} {G : List D -> Option R} {gr : Rho -> Option (List D)} {ga : Rho -> Option D} {gx gy : Rho -> Option R}
theorem zNC (F : FnOk X.prog X.w X.K X.mg X.base (CX1 X.prog X.w) k f fd ps (spX X.K n G)) (hr : Room k X.A) (hg : Gl X x) (hm : X.mg x = some (.ref f)) (hk : keepIn X.K (.ref f) = true) (hb : Binds X.K fd ps []) (hex : X.ex = [])
  (ha : DA X (e :: es) gr) (hln : ∀ ρ ds, gr ρ = some ds -> ds.length = n) (hdb : (x == ("__debug__" : Str)) = false := by decide) (he : starEach (e :: es) X.env = (false, eval e X.env) :: starEach es X.env := by rfl) (hpl : (backTo pos (starEach es X.env)).any (·.1) = false := by rfl) :
  DX X (.Call (.Name x p) (e :: es) [] pos) (zBm G gr) :=
 zAA (zMm F hr hg hm hk hb hex ha hdb he hpl) fun σ H Q zz => by
  obtain ⟨F, H₀, ρ, r, S, q, k⟩ := zz
  obtain ⟨xs, e1, q⟩ := bnd q
  refine ⟨F, H₀, ρ, xs, S, e1, fun F1 H1 vs E1 R1 => ⟨F1, xs, r, hln ρ xs e1, (S.ext E1).fz, R1, q, ?_⟩⟩
  cases r with
  | inl d => exact fun F2 H2 v E2 R2 => k F2 H2 v (E1.trans E2) R2
  | inr y => exact fun F2 H2 C E2 hC => k F2 H2 C (E1.trans E2) hC
theorem zNc (h : DX X e gx) : DS X (.Return (some e) pos) (zCK gx) := ps_mono (zEI h) fun W σ H zz => by
 obtain ⟨F₀, H₀, F, ρ, o, E, S, q, k⟩ := zz
 obtain ⟨r, e1, q⟩ := bnd q
 refine ⟨_, H₀, ρ.map frz, r, S.frz, e1, ?_⟩
 cases r with
 | inl d => cases q; exact fun F' H' v E' R' => k F' H' v (E.thaw S E') R'
 | inr y => cases q; exact fun F2 H2 C E2 hC pins s' a tr I' T' => k F2 H2 σ pins s' a C tr (E.thaw S E2) (S.frz.ext E2) I' hC T'
end
noncomputable def asX : D -> Option Str
 | .dict [(.none, .str x)] => some x
 | _ => none
noncomputable def eIsX (tb : List (Str × Bool)) (ga : Rho -> Option D) : Rho -> Option D := fun ρ => (ga ρ).bind fun d => (asX d).bind fun x => (tb.lookup x).bind fun b => some (.bool b)
theorem zOL {kvs : List (D × D)} {x : Str} (h : asX (.dict kvs) = some x) : kvs = [(.none, .str x)] := by
 unfold asX at h
 split at h
 ·rename_i e
  cases h
  cases e
  rfl
 ·cases h
theorem zM0 {K : PySem.W.Frag} {F : Addr -> Prop} {H : Hp} {d : D} {t : List (D × D)} {es : List (DKey × Addr × V)} : DReps K F H ((.none, d) :: t) es -> False := by
 generalize e : ((PyData.none, d) :: t : List (D × D)) = l
 intro r
 cases r with
 | nil => cases e
 | @cons k b d' v kvs es h1 h2 h3 =>
  have e1 := congrArg (fun z : List (D × D) => z.map Prod.fst) e
  cases k <;> cases e1
noncomputable def XTab (K : PySem.W.Frag) (c : Value) (tb : List (Str × Bool)) : Prop := ∀ x b, tb.lookup x = some b -> ∃ C, nsIn K mainGlobals x = some (some (.ref C)) /\ XCls K C /\ kitOne K (.ref C) c = some b
theorem XTab.nil {K : PySem.W.Frag} {c : Value} : XTab K c [] := fun x b e => by cases e
theorem XTab.cons {K : PySem.W.Frag} {c : Value} {tb : List (Str × Bool)} {y : Str} {b : Bool} {C : Addr} (h1 : nsIn K mainGlobals y = some (some (.ref C))) (h2 : XCls K C) (h3 : kitOne K (.ref C) c = some b) (t : XTab K c tb) : XTab K c ((y, b) :: tb) := fun x b' e => by
 rw [List.lookup_cons] at e
 by_cases z : (x == y) = true
 ·rw [z] at e
  cases e
  cases (beq_iff_eq.mp z)
  exact ⟨C, h1, h2, h3⟩
 ·rw [Bool.eq_false_iff.mpr z] at e
  exact t x b' e
theorem zNY {K : PySem.W.Frag} {a C : Addr} (Z : XCls K C) : KitX K (.ref a) (.ref C) (fun h => ∃ o, h.get? a = some o /\ o.cls = .ref C) where
 ty := fun M h _ ⟨o, ho, hc⟩ => hc ▸ (Looks.ld ho).andThen .now
 it := fun M h KI _ => by
  have hcD := Z.it
  unfold clsIn at hcD
  split at hcD
  ·rename_i c' d' cd' sl' ho
   intro A' Q' E' s' k q
   unfold isType loadHead
   exact wpAny_bind (wpAny_loadPart (k _ _ (KI _ _ ho)) (wpAny_pure q))
  ·cases hcD
 ne := fun h tp dd its n sl KI htp => by
  have hcD := Z.it
  refine Bool.eq_false_iff.mpr fun q => ?_
  have e : C = tp := Value.ref.inj (beq_iff_eq.mp q)
  subst e
  unfold clsIn at hcD
  split at hcD
  ·rename_i c' d' cd' sl' ho
   have z := (KI _ _ ho).symm.trans htp
   cases z
  ·cases hcD
 ca := fun {prog w A E Q s} KI zz hq => by
  obtain ⟨o, ho, hc⟩ := zz
  obtain ⟨h, g, d, t, os⟩ := s
  exact zNz ⟨_, PySem.F.attr_ValueError⟩ KI Z ho hc hq
section
variable {X : Cx} {e : Expr} {ga : Rho -> Option D} {p pos p' : Pos} {tb : List (Str × Bool)}
theorem zOh {cv : V} {c : Value} (hv : RelV cv c) (hu : ∀ u, RelV cv u -> u = c) (T : XTab X.K c tb) : zAJ X (.builtin "isinstance") (fun xs H Q => ∃ (F : Addr -> Prop) (d : D) (x : V) (y : Str) (b : Bool), Rep X.K F H d x /\ asX d = some y /\ tb.lookup y = some b /\ xs = [x, cv] /\ Q (.bl b) H) := by
 intro pins s σ H xs us Q I rv h
 obtain ⟨F, d, x, y, b, R, hy, hb, rfl, q⟩ := h
 obtain ⟨u, u2, rfl, ru, r2⟩ := zH9 rv
 cases hu _ r2
 obtain ⟨C, h1, h2, h3⟩ := T y b hb
 have fin : ∀ tk, EP X pins σ Q (.bool b) { s with toks := tk } := fun tk => ⟨.bl _, H, I.tok tk, rfl, q⟩
 cases R with
 | @exn a C' x' f h4 h5 =>
  cases hy
  rw [h1] at h5
  cases h5
  cases (show u = Value.ref a from ru)
  obtain ⟨p1, _, _⟩ := I.hok a _ h4
  exact kia_one (zNY h2) I.kIn p1 h3 (fun z => nomatch z) fin
 | @dct a es kvs ep f h4 n l r =>
  have e := zOL hy
  subst e
  exact (zM0 r).elim
 | _ => cases hy
theorem zHk {cv : V} {c : Value} {Tn : Str} (hv : PE X (.Name Tn p') (tC cv)) (hv2 : RelV cv c) (hu : ∀ u, RelV cv u -> u = c) (T : XTab X.K c tb) (hg : Gl X "isinstance") (hm : X.mg "isinstance" = none) (ha : DE X e ga)
  (hs : starEach [e, .Name Tn p'] X.env = (false, eval e X.env) :: starEach [.Name Tn p'] X.env := by rfl) (hs2 : starEach [.Name Tn p'] X.env = (false, eval (.Name Tn p') X.env) :: starEach [] X.env := by rfl)
  (hpl : (backTo pos (starEach [.Name Tn p'] X.env)).any (·.1) = false := by rfl) : DE X (.Call (.Name "isinstance" p) [e, .Name Tn p'] [] pos) (eIsX tb ga) :=
 zAA (zFa (zOh hv2 hu T) hg hm zGh (zBa ha (zBa hv zBA hs2) hs) (he := hs) (hpl := hpl)) fun σ H Q zz => by
  obtain ⟨F, H₀, ρ, d, S, q, k⟩ := zz
  obtain ⟨x, e1, q⟩ := bnd q
  obtain ⟨y, e2, q⟩ := bnd q
  obtain ⟨b, e3, q⟩ := bnd q
  cases q
  exact ⟨F, H₀, ρ, x, S, e1, fun F1 H1 v E1 R1 => ⟨F1, x, v, y, b, R1, e2, e3, rfl, k F1 H1 _ E1 (.bl _)⟩⟩
theorem zJE {Tn : Str} {C : Addr} (hgT : Gl X Tn) (hmT : X.mg Tn = some (.ref C)) (T : XTab X.K (.ref C) tb) (hg : Gl X "isinstance") (hm : X.mg "isinstance" = none) (ha : DE X e ga) (hdb : (Tn == ("__debug__" : Str)) = false := by decide)
  (hs : starEach [e, .Name Tn p'] X.env = (false, eval e X.env) :: starEach [.Name Tn p'] X.env := by rfl) (hs2 : starEach [.Name Tn p'] X.env = (false, eval (.Name Tn p') X.env) :: starEach [] X.env := by rfl)
  (hpl : (backTo pos (starEach [.Name Tn p'] X.env)).any (·.1) = false := by rfl) : DE X (.Call (.Name "isinstance" p) [e, .Name Tn p'] [] pos) (eIsX tb ga) :=
 zHk (cv := .ref C) (zFx hgT hmT rfl hdb) rfl (fun _ r => r) T hg hm ha hs hs2 hpl
theorem zLB {Tn : Str} {B : String} (hgT : Gl X Tn) (hmT : X.mg Tn = none) (hvT : bootBuiltins Tn = some (.type B)) (T : XTab X.K (.type B) tb) (hg : Gl X "isinstance") (hm : X.mg "isinstance" = none) (ha : DE X e ga) (hn : Tn ≠ "__name__" := by decide) (hdb : (Tn == ("__debug__" : Str)) = false := by decide)
  (hs : starEach [e, .Name Tn p'] X.env = (false, eval e X.env) :: starEach [.Name Tn p'] X.env := by rfl) (hs2 : starEach [.Name Tn p'] X.env = (false, eval (.Name Tn p') X.env) :: starEach [] X.env := by rfl)
  (hpl : (backTo pos (starEach [.Name Tn p'] X.env)).any (·.1) = false := by rfl) : DE X (.Call (.Name "isinstance" p) [e, .Name Tn p'] [] pos) (eIsX tb ga) :=
 zHk (cv := .ty B) (zGE hgT hmT hvT rfl hn hdb) rfl (fun _ r => r) T hg hm ha hs hs2 hpl
end
end EX
namespace EX
open PySem PySem.Spec PyProof.Rows L2 DL PySem.W
theorem zMF {K : PySem.W.Frag} {L : Addr} : ∀ x, ([] : List Str).contains x = true -> zC8 K L x := fun x h => by cases h
theorem zKf {K : PySem.W.Frag} {L C : Addr} {y : Str} {cs : List Str} (h1 : nsIn K mainGlobals y = some (some (.ref C))) (h2 : kitCls K (.ref C) (.ref L) = some true) (t : ∀ x, cs.contains x = true -> zC8 K L x) : ∀ x, (y :: cs).contains x = true -> zC8 K L x := fun x h => by
 rw [List.contains_cons, Bool.or_eq_true] at h
 rcases h with h | h
 ·cases (beq_iff_eq.mp h)
  exact ⟨C, h1, h2⟩
 ·exact t x h
theorem zOd : bootBuiltins "ValueError" = some (.type "ValueError") := by decide +kernel
section
variable {X : Cx} {e e' c : Expr} {gx gy : Rho -> Option R} {t : Rho -> Option Bool} {pos : Pos}
end
end EX
namespace EX
open PySem PySem.Spec PyProof.Rows L2 DL PySem.W
theorem zIz {K : PySem.W.Frag} {C : Addr} {bmB : List Value} {newId : String} (q : excIn K C bmB newId = true) : (clsIn K C).isSome = true /\ typeIn K (.ref C) = some (.type "type") := by
 unfold excIn at q
 split at q
 next dd cd sl lk =>
  refine ⟨?_, ?_⟩
  ·unfold clsIn; rw [lk]; rfl
  ·show (K.lookup C).map (·.cls) = _
   rw [lk]; rfl
 next => cases q
theorem zLj {K : PySem.W.Frag} {C L : Addr} {bmB : List Value} {newId : String} (q : excIn K L bmB newId = true) (h : subIn K (.ref C) (.ref L) = some true) : kitCls K (.ref C) (.ref L) = some true := by
 obtain ⟨h1, h2⟩ := zIz q
 unfold kitCls
 simp only [h1, h2, beq_self_eq_true, Bool.and_self, if_true]
 exact h
end EX
namespace TX
open PySem PySem.Spec PyProof.Rows L2 DL
open Builtin Builtin.Str
theorem zIu : ∀ {xs : List Str} {us : List Value}, Vals (xs.map V.str) us -> ∃ l : List (Str × Tok), us = strValues l /\ l.map (·.1) = xs
 | [], _, .nil => ⟨[], rfl, rfl⟩
 | x :: xs, _, .cons r t => by
  obtain ⟨u, rfl⟩ := r
  obtain ⟨l, rfl, e⟩ := zIu t
  exact ⟨(x, u) :: l, rfl, by rw [List.map_cons, e]⟩
theorem zFY : ∀ l : List (Str × Tok), Vals ((l.map (·.1)).map V.str) (strValues l)
 | [] => .nil
 | p :: l => .cons ⟨p.2, rfl⟩ (zFY l)
theorem zJx (z y : Str) : (partsBetween z (occurrences z y 0 z.length (z.length + 1)) y.length).length <= z.length + 2 := by
 rw [length_partsBetween]
 exact Nat.succ_le_succ (StrLaws.occ_length_le _ _ _ _ _)
section
variable {X : Cx}
theorem zOI : MtR X "str.join" (fun x vs H Q => ∃ sep a xs, x = .str sep /\ vs = [.ref a] /\ SqL X.K H a (xs.map V.str) /\ JoinOk sep xs = true /\ Q (.str (Txt.join sep xs)) H) := by
 intro pins s σ H x vs v us Q I rx rv h
 obtain ⟨sep, a, xs, rfl, rfl, hq, hok, q⟩ := h
 obtain ⟨t, rfl⟩ := rx
 obtain ⟨u, rfl, ru⟩ := rv.one
 cases ru
 obtain ⟨its, r, pl, _⟩ := I.list hq
 obtain ⟨l, rfl, e⟩ := zIu r
 exact SC.join pl.isList e hok fun t' k => ⟨.str _, H, I.tok k, ⟨t', rfl⟩, q⟩
theorem zJS : MtR X "str.split" (fun x vs H Q => ∃ z y, x = .str z /\ vs = [.str y] /\ (y.length == 0) = false /\ z.length + 2 <= sizeLine /\ ∀ p, H p = none -> Q (.ref p) (upd H p (.lst ((Txt.split z y).map V.str)))) := by
 intro pins s σ H x vs v us Q I rx rv h
 obtain ⟨z, y, rfl, rfl, hy, hz, q⟩ := h
 obtain ⟨t, rfl⟩ := rx
 obtain ⟨u, rfl, t2, rfl⟩ := rv.one
 have hp := zJx z y
 have fin : ∀ (l : List (Str × Tok)) (tk : Tok), l.map (·.1) = Txt.split z y -> l.length <= sizeLine -> EP X pins σ Q (.ref s.heap.objs.size) { s with heap := s.heap.push { cls := .type "list", data := .seq (strValues l).toArray }, toks := tk } := fun l tk e hl =>
  ⟨.ref s.heap.objs.size, _, I.lnew (ys := (Txt.split z y).map V.str) (by rw [<- e]; exact zFY l) (by rw [<- e, List.length_map, List.length_map]; exact hl), rfl, q _ I.fresh⟩
 have one : (1 : Nat) <= sizeLine := by rw [sizeLine_eq]; omega
 by_cases h1 : (decide (z.length < y.length) || decide (strKind z < strKind y)) = true
 ·exact call_meets F.slot_str_split (typeIs_str _ _ _) F.entry_str_split (F.args_str_split_2 _ _) (meets_str_split_cannot_occur z y t t2 h1) (fin [(z, t)] s.toks (by unfold Txt.split; rw [if_pos h1]; rfl) one)
 ·by_cases hf : (occurrences z y 0 z.length (z.length + 1)).isEmpty = true
  ·exact call_meets F.slot_str_split (typeIs_str _ _ _) F.entry_str_split (F.args_str_split_2 _ _) (meets_str_split_not_found z y t t2 (by simpa using h1) hy hf) (fin [(z, t)] s.toks (by unfold Txt.split; rw [if_neg h1, if_pos hf]; rfl) one)
  ·have hl : (partsBetween z (occurrences z y 0 z.length (z.length + 1)) y.length).length <= sizeLine := Nat.le_trans hp hz
   refine call_meets F.slot_str_split (typeIs_str _ _ _) F.entry_str_split (F.args_str_split_2 _ _) (meets_str_split_sep z y t t2 (by simpa using h1) hy (by simpa using hf) (by omega) hl) ?_
   show wants _ _ _ { s with toks := _, heap := s.heap.push { cls := .type "list", data := .seq (strsFrom s.toks (partsBetween z (occurrences z y 0 z.length (z.length + 1)) y.length)).toArray } }
   rw [strsFrom_eq]
   have nt := numbered_texts s.toks (partsBetween z (occurrences z y 0 z.length (z.length + 1)) y.length)
   have hn : (numbered s.toks (partsBetween z (occurrences z y 0 z.length (z.length + 1)) y.length)).length <= sizeLine := by
    have := congrArg List.length nt
    rw [List.length_map] at this
    omega
   exact fin _ _ (nt.trans (by unfold Txt.split; rw [if_neg h1, if_neg hf])) hn
end
end TX
namespace TX
open PySem PySem.Spec PyProof.Rows L2 DL
open Builtin Builtin.Str
noncomputable def zCE : List D -> Option (List Str)
 | [] => some []
 | .str x :: r => (zCE r).bind fun xs => some (x :: xs)
 | _ => none
theorem zKv {K : PySem.W.Frag} {F : Addr -> Prop} {H : Hp} : ∀ {ds : List D} {vs : List V} {xs : List Str}, Reps K F H ds vs -> zCE ds = some xs -> vs = xs.map V.str := by
 intro ds
 induction ds with
 | nil => intro vs xs r h; cases r; cases h; rfl
 | cons d ds ih =>
  intro vs xs r h
  cases r with
  | cons r rs =>
   cases d with
   | str x =>
    obtain ⟨ys, e1, q⟩ := bnd h
    cases q
    cases r
    rw [ih rs e1]
    rfl
   | _ => cases h
theorem zE6 {K : PySem.W.Frag} {F : Addr -> Prop} {H : Hp} : ∀ xs : List Str, Reps K F H (xs.map PyData.str) (xs.map V.str)
 | [] => .nil
 | x :: xs => .cons (.str x) (zE6 xs)
theorem zIJ : ∀ xs : List Str, zCE (xs.map PyData.str) = some xs
 | [] => rfl
 | x :: xs => by
  show (zCE (xs.map PyData.str)).bind _ = _
  rw [zIJ xs]
  rfl
noncomputable def zA9 : D -> D -> Option D
 | .str sep, .list ds => (zCE ds).bind fun xs => if decide ((xs.map (·.length)).sum + xs.length <= 1048576) && decide (sep.length <= 16) then some (.str (Txt.join sep xs)) else none
 | _, _ => none
noncomputable def zBC : D -> D -> Option D
 | .str z, .str y => if decide (0 < y.length) && decide (z.length <= 1000) then some (.list ((Txt.split z y).map .str)) else none
 | _, _ => none
section
variable {X : Cx} {o e : Expr} {go ge : Rho -> Option D} {apos cpos : Pos}
theorem zCn (ho : DE X o go) (he : DE X e ge)
  (hbase : attributeBase o "join" X.env (eval o X.env) = eval o X.env := by rfl)
  (hfew : ((backTo cpos (starEach [e] X.env)).all (fun x => !x.1) && (backToKw cpos (keywordEach [] X.env)).all (fun x => x.1.isSome)
   && decide ([e].length + ([] : List Keyword).length + (if ([] : List Keyword).isEmpty then 0 else 1) < 30)) = true := by rfl)
  (hline : (apos.endLine == cpos.line) = true := by rfl) (hs : starEach [e] X.env = (false, eval e X.env) :: starEach [] X.env := by rfl) (hplain : (backTo cpos (starEach [] X.env)).any (·.1) = false := by rfl) :
  DE X (.Call (.Attribute o "join" apos) [e] [] cpos) (eOp zA9 go ge) :=
 zAA (zCz F.plainAttrs_str F.slot_str_join F.type_str_join zOI ho (zBa he zBA hs) hbase hfew hline hs hplain) fun σ H Q zz => by
  obtain ⟨F, H₀, ρ, d, S, q, k⟩ := zz
  obtain ⟨x, e1, q⟩ := bnd q
  obtain ⟨y, e2, q⟩ := bnd q
  refine ⟨F, H₀, ρ, x, S, e1, fun F1 H1 v E1 R1 => ?_⟩
  unfold zA9 at q
  split at q
  ·obtain ⟨xs, e3, q⟩ := bnd q
   split at q
   next c =>
    cases q
    rw [Bool.and_eq_true, decide_eq_true_eq, decide_eq_true_eq] at c
    cases R1
    refine ⟨rfl, F1, H₀, ρ, _, S.ext E1, e2, fun F2 H2 u E2 R2 => ?_⟩
    cases R2 with
    | @lst a vs _ h1 r1 =>
     exact ⟨_, a, xs, rfl, rfl, by rw [<- zKv r1 e3]; exact h1.sq, joinOk_of_weight c.1 c.2, k F2 H2 _ (E1.trans E2) (.str _)⟩
   next => cases q
  ·cases q
theorem zGp (ho : DE X o go) (he : DE X e ge)
  (hbase : attributeBase o "split" X.env (eval o X.env) = eval o X.env := by rfl)
  (hfew : ((backTo cpos (starEach [e] X.env)).all (fun x => !x.1) && (backToKw cpos (keywordEach [] X.env)).all (fun x => x.1.isSome)
   && decide ([e].length + ([] : List Keyword).length + (if ([] : List Keyword).isEmpty then 0 else 1) < 30)) = true := by rfl)
  (hline : (apos.endLine == cpos.line) = true := by rfl) (hs : starEach [e] X.env = (false, eval e X.env) :: starEach [] X.env := by rfl) (hplain : (backTo cpos (starEach [] X.env)).any (·.1) = false := by rfl) :
  DE X (.Call (.Attribute o "split" apos) [e] [] cpos) (eOp zBC go ge) :=
 zAA (zCz F.plainAttrs_str F.slot_str_split F.type_str_split zJS ho (zBa he zBA hs) hbase hfew hline hs hplain) fun σ H Q zz => by
  obtain ⟨F, H₀, ρ, d, S, q, k⟩ := zz
  obtain ⟨x, e1, q⟩ := bnd q
  obtain ⟨y, e2, q⟩ := bnd q
  refine ⟨F, H₀, ρ, x, S, e1, fun F1 H1 v E1 R1 => ?_⟩
  unfold zBC at q
  split at q
  ·split at q
   next c =>
    cases q
    rw [Bool.and_eq_true, decide_eq_true_eq, decide_eq_true_eq] at c
    cases R1
    refine ⟨rfl, F1, H₀, ρ, _, S.ext E1, e2, fun F2 H2 u E2 R2 => ?_⟩
    cases R2
    refine ⟨_, _, rfl, rfl, ?_, by rw [sizeLine_eq]; omega, fun p hp => ?_⟩
    ·rw [beq_eq_false_iff_ne]; omega
    ·exact k _ _ _ (E1.trans (E2.trans (Ext.frozen hp))) (Rep.newLst hp (zE6 _))
   next => cases q
  ·cases q
noncomputable def zCj : List D -> Option D
 | [.str z] => if decide (z.length <= 1000000) then some (.int z.length) else none
 | _ => none
theorem zG4 : zAJ X (.builtin "len") (rDA X.K zCj) := zCQ zKb fun xs H Q zz => by
 obtain ⟨F, ds, q, z, R, hq, k⟩ := zz
 unfold zCj at hq
 split at hq
 ·split at hq
  next c =>
   cases hq
   cases R with
   | cons r rs =>
    cases rs
    cases r
    exact ⟨_, rfl, by rw [sizeLine_eq]; have := of_decide_eq_true c; omega, k F H _ (Ext.refl F H) (.int _)⟩
  next => cases hq
 ·cases hq
noncomputable def zBh : D -> D -> Option D
 | .str x, .str y => if decide (x.length + y.length <= 1000000) then some (.str (x ++ y)) else none
 | _, _ => none
theorem zCt : OpR X (binaryOp .Add) (rD2 X.K zBh) := zCF zKt fun x y H Q zz => by
 obtain ⟨F, d, e, q, z, R1, R2, hq, k⟩ := zz
 unfold zBh at hq
 split at hq
 ·split at hq
  next c =>
   cases hq
   cases R1
   cases R2
   exact ⟨_, _, rfl, rfl, by rw [sizeLine_eq]; have := of_decide_eq_true c; omega, k F H _ (Ext.refl F H) (.str _)⟩
  next => cases hq
 ·cases hq
theorem zJa {x y : Str} {pos : Pos} (hg : Gl X x) (hm : ∃ t, X.mg x = some (.str y t)) (hd : (x == ("__debug__" : Str)) = false := by decide) : DE X (.Name x pos) (eC (.str y)) := by
 obtain ⟨t, hm⟩ := hm
 exact zDs (zFx (v := .str y) hg hm ⟨t, rfl⟩ hd) fun _ _ _ => .str y
end
end TX
namespace TX
open PySem PySem.Spec PyProof.Rows L2 DL ZL EL
open Builtin Builtin.Str
noncomputable def sigs (x : Str) : List Str := x.cps.toList.map fun c => ⟨#[c]⟩
theorem drawS {P : Program} {w : World} {A : Around} (hh : A.handled = none) (it : Addr) (x : Str) (t : Tok) : Draws P w A it [it] x.cps.size (fun i v => ∃ c u, x.cps[i]? = some c /\ v = .str ⟨#[c]⟩ u) (fun i h => h.IsStrIter it (strIterType x) x t i) := by
 unfold strIterType
 split
 ·exact Draws.strAscii hh it x t
 ·exact Draws.strWide hh it x t
theorem endS {P : Program} {w : World} {A : Around} (hh : A.handled = none) (it : Addr) (x : Str) (t : Tok) {i : Nat} (hle : x.cps.size <= i) : Draws P w A it [it] i (fun _ _ => False) (fun j h => j = i /\ h.IsStrIter it (strIterType x) x t i) := by
 unfold strIterType
 split
 ·exact
   {live := fun _ _ ⟨_, o, ho, _⟩ => ⟨o, ho⟩
    frame := fun _ _ _ ⟨e, o, ho, r⟩ hk => ⟨e, o, hk it (by simp) o ho, r⟩
    item := fun j s Q E hj ⟨e, _⟩ _ => absurd e (Nat.ne_of_lt hj)
    done := fun s Q E ⟨_, st⟩ hE => wpAny_nextOf_ascii_end hh st (Array.getElem?_eq_none hle) hE }
 ·exact
   {live := fun _ _ ⟨_, o, ho, _⟩ => ⟨o, ho⟩
    frame := fun _ _ _ ⟨e, o, ho, r⟩ hk => ⟨e, o, hk it (by simp) o ho, r⟩
    item := fun j s Q E hj ⟨e, _⟩ _ => absurd e (Nat.ne_of_lt hj)
    done := fun s Q E ⟨_, st⟩ hE => wpAny_nextOf_wide_end hh st (Array.getElem?_eq_none hle) hE }
theorem zJv {P : Program} {w : World} {K : PySem.W.Frag} {elts : List Expr} {x1} {tpos : Pos} (e it : Addr) (hei : e ≠ it) (x : Str) (t : Tok) :
  Turn P w K (.Tuple elts x1 tpos) (Ite fun _ xs => xs = (sigs x).map V.str) [e, it] e (fun i h => (∃ old, IsEnum h e it i old) /\ h.IsStrIter it (strIterType x) x t i) where
 mem := by simp
 obj := fun i h st c hc => by
  obtain ⟨⟨old, h1⟩, o, ho, _, hd⟩ := st
  rcases List.mem_cons.mp hc with rfl | hc
  ·exact ⟨_, h1, fun v z => by have z' : Data.fields _ = Data.cell v := z; cases z'⟩
  ·rw [List.mem_singleton.mp hc]; exact ⟨o, ho, fun v z => by rw [hd] at z; cases z⟩
 keep := fun i h h' st k => by
  obtain ⟨⟨old, h1⟩, o, ho, r⟩ := st
  exact ⟨⟨old, k e (by simp) _ h1⟩, o, k it (by simp) o ho, r⟩
 item := by
  intro X hP hw hK hc i pins s σ H E I hf st hg
  subst hP hw
  obtain ⟨xs, y, rfl, hx⟩ := hg
  obtain ⟨⟨old, h1⟩, h2⟩ := st
  obtain ⟨c, hcx, rfl⟩ : ∃ c, x.cps[i]? = some c /\ y = V.str ⟨#[c]⟩ := by
   unfold sigs at hx
   rw [List.map_map, List.getElem?_map, Array.getElem?_toList] at hx
   cases q : x.cps[i]? with
   | none => rw [q] at hx; cases hx
   | some c => rw [q] at hx; cases hx; exact ⟨c, rfl, rfl⟩
  have hlt : i < x.cps.size := (Array.getElem?_eq_some_iff.mp hcx).1
  have hef : e ∉ [it] := by simp only [List.mem_cons, List.not_mem_nil, or_false]; exact hei
  refine wpAny_pyNext_enum_itemD (drawS (P := X.prog) (w := X.w) (A := X.A.in1) (by simp [I.ok.hd hc]) it x t) h1 h2 hlt hei hef fun x' h' tk hP ho hst hT hsz hk => ⟨_, rfl, ?_⟩
  obtain ⟨c', u', hc', rfl⟩ := hP
  rw [hcx] at hc'
  cases hc'
  refine wpAny_letOwnedTupleGo_enum ho fun h'' z1 sb => ?_
  have hn : H s.heap.objs.size = none := I.hok.fresh (Nat.le_refl _)
  have old' : ∀ c o, s.heap.get? c = some o -> c ≠ s.heap.objs.size := fun c o q => Nat.ne_of_lt (Heap.lt_size q)
  have eT : s.heap.objs.size ≠ e := (old' e _ h1).symm
  obtain ⟨oi, hoi, _⟩ := id h2
  have kk : ∀ c o, c ∉ [e, it] -> s.heap.get? c = some o -> h''.get? c = some o := fun c o nc q =>
   sb.extBut c o (fun q => nc (by simp [q])) (hk c o (fun q => nc (by simp [q])) (fun q => nc (by simp [q])) q)
  have nfp : ∀ c o, H c = some o -> c ∉ [e, it] := fun c o q hc' => by
   have := (hf c hc').1
   rw [this] at q; cases q
  have hok : HOk X.prog X.w (upd H s.heap.objs.size (.tup [.int i, .str ⟨#[c]⟩])) h'' := fun b o q => by
   by_cases hcT : b = s.heap.objs.size
   ·subst hcT
    rw [zA1] at q; cases q
    exact ⟨zA8 (by simp), [.int i tk, .str ⟨#[c]⟩ u'], .cons ⟨tk, rfl⟩ (.cons ⟨u', rfl⟩ .nil), ⟨_, sb.extBut _ _ eT hT, rfl, 0, rfl⟩⟩
   ·rw [zAl hcT] at q
    refine (I.hok b o q).stay (fun d v hd q => kk d v ?_ q) (fun d q => by rw [zAl (zA5 q hn)]; exact q) fun d xs q => by rw [zAl (zA5 q hn)]; exact q
    rcases hd with rfl | hd
    ·exact nfp _ _ q
    ·exact nfp _ _ hd
  refine ⟨.ref s.heap.objs.size, _, zDD (s := s) (h' := h'') (tk := tk + 1) I hf kk (fun c o q => zAl (old' c o q)) (fun c o q => by rw [zAl (zA5 q hn)]; exact q) hok, rfl, ⟨_, hn, rfl, _, rfl, fun ys hy => by rw [hy]; exact hx⟩, ⟨⟨_, by simpa using z1⟩, ?_⟩, fun c hc' => ?_⟩
  ·obtain ⟨o', ho', r'⟩ := hst
   exact ⟨o', sb.extBut it o' (Ne.symm hei) ho', r'⟩
  have q := (hf c hc').1
  have nT : c ≠ s.heap.objs.size := by
   rcases List.mem_cons.mp hc' with rfl | hc'
   ·exact old' _ _ h1
   ·rw [List.mem_singleton.mp hc']; exact old' _ _ hoi
  rw [zAl nT]; exact q
 done := by
  intro X hP hw hK hc i pins s σ H E I hf st hg
  subst hP hw
  obtain ⟨xs, rfl, hend⟩ := hg
  obtain ⟨⟨old, h1⟩, h2⟩ := st
  have hle : x.cps.size <= i := by
   unfold sigs at hend
   rw [List.length_map, List.length_map, Array.length_toList] at hend
   exact hend
  refine wpAny_pyNext_enum_endD (endS (P := X.prog) (w := X.w) (A := X.A.in1) (by simp [I.ok.hd hc]) it x t hle) h1 ⟨rfl, h2⟩ fun h' hx => ⟨rfl, ?_⟩
  have kk : ∀ c o, c ∉ [e, it] -> s.heap.get? c = some o -> h'.get? c = some o := fun c o nc q => hx c o (fun q => nc (by simp [q])) q
  have nfp : ∀ c o, H c = some o -> c ∉ [e, it] := fun c o q hc' => by
   have := (hf c hc').1
   rw [this] at q; cases q
  refine zDD (s := s) (h' := h') (tk := s.toks) I hf kk (fun _ _ _ => rfl) (fun _ _ q => q) fun c o q => ?_
  refine (I.hok c o q).stay (fun d v hd q => kk d v ?_ q) (fun d q => q) fun d xs q => q
  rcases hd with rfl | hd
  ·exact nfp _ _ q
  ·exact nfp _ _ hd
 self := fun _ _ _ _ _ st h => by
  obtain ⟨⟨old, h1⟩, _⟩ := st
  exact wpAny_pyIter_enum h1 h
noncomputable def zLc (ta : TA) : TI := fun σ H R => ta σ H fun vs H1 => ∃ x, vs = [.str x] /\ R (Ite fun _ xs => xs = (sigs x).map V.str) H1
theorem zKp {X : Cx} {elts : List Expr} {x1} {tpos : Pos} {a : Expr} {ta : TA} {p pos : Pos} (hg : Gl X "enumerate") (hm : X.mg "enumerate" = none) (ha : PA X [a] ta) (hs : starEach [a] X.env = [(false, eval a X.env)] := by rfl) :
  PI X (.Tuple elts x1 tpos) (.Call (.Name "enumerate" p) [a] [] pos) (zLc ta) := by
 intro pins s σ H R I h
 refine Call_ (zBP I hg hm boot_enumerate (PyProof.Rows.callWith_type1 (thn (ha pos pins s σ H _ I h) fun us s1 ⟨vs, H1, I1, r1, q1⟩ => ?_) (by rw [hs]; rfl) (by rfl)))
 obtain ⟨x, e, q⟩ := q1
 subst e
 obtain ⟨u, rfl, t, rfl⟩ := zBj r1
 have fin : ∀ c ∈ [s1.heap.objs.size + 1, s1.heap.objs.size], FpOk X pins H1 c := fun c hc => by
  have lc : s1.heap.objs.size <= c := by
   rcases List.mem_cons.mp hc with rfl | hc
   ·exact Nat.le_add_right _ _
   ·rw [List.mem_singleton.mp hc]; exact Nat.le_refl _
  exact I1.fpOk lc (I1.hok.fresh lc)
 refine call_enumerate_str fun h' a1 a2 a3 hk => ?_
 have I2 : L2.Inv X pins σ H1 { s1 with heap := h' } := I1.kept (t' := s1.toks) hk
 refine wpAny_pyIter_enum (s := { s1 with heap := h' }) a1 ?_
 exact ⟨_, [s1.heap.objs.size + 1, s1.heap.objs.size], _, _, H1, rfl, I2, zJv (s1.heap.objs.size + 1) s1.heap.objs.size (Nat.succ_ne_self _) x t, ⟨⟨_, a1⟩, a2⟩, fin, q⟩
noncomputable def zIe : List D -> Option (List D)
 | [.str x] => some (SL.numbered 0 ((sigs x).map .str))
 | _ => none
noncomputable def zFt (gr : Rho -> Option (List D)) : Rho -> Option (List D) := fun ρ => (gr ρ).bind zIe
theorem zOB {X : Cx} {elts : List Expr} {x1} {tpos : Pos} {a : Expr} {gr : Rho -> Option (List D)} {p pos : Pos} (hg : Gl X "enumerate") (hm : X.mg "enumerate" = none) (ha : DA X [a] gr) (hs : starEach [a] X.env = [(false, eval a X.env)] := by rfl) :
  DI X (.Tuple elts x1 tpos) (.Call (.Name "enumerate" p) [a] [] pos) (zFt gr) :=
 zEK (zKp hg hm ha hs) fun σ H R zz => by
  obtain ⟨F, H₀, ρ, ds, S, q, k⟩ := zz
  obtain ⟨xs, e1, q⟩ := bnd q
  unfold zIe at q
  split at q
  ·cases q
   refine ⟨F, H₀, ρ, _, S, e1, fun F1 H1 vs E1 R1 => ?_⟩
   cases R1 with
   | cons r rs =>
    cases rs
    cases r
    exact ⟨_, rfl, k F1 H1 _ E1 (SL.it_enum (vs := (sigs _).map V.str) (fun F2 H2 T => rfl) (zE6 _))⟩
  ·cases q
end TX
namespace TB
open PySem PySem.Spec PyProof.Rows L2 DL TX
section
variable {X : Cx} {e : Expr} {ga gb : Rho -> Option D} {p pos : Pos}
end
mutual
noncomputable def noL : D -> Bool
 | .none => true
 | .bool _ => true
 | .int _ => true
 | .str _ => true
 | .tuple ds => noLs ds
 | _ => false
noncomputable def noLs : List D -> Bool
 | [] => true
 | d :: ds => noL d && noLs ds
end
mutual
theorem zLO {K : PySem.W.Frag} {F F2 : Addr -> Prop} {H : Hp} : ∀ {d : D} {v : V}, Rep K F H d v -> noL d = true -> Rep K F2 H d v
 | _, _, .non, _ => .non
 | _, _, .bl b, _ => .bl b
 | _, _, .int i, _ => .int i
 | _, _, .str x, _ => .str x
 | _, _, .tup h r, q => .tup h (noLs_rep r (by unfold noL at q; exact q))
 | _, _, .lst h r, q => by unfold noL at q; cases q
 | _, _, .dct f h n l r, q => by unfold noL at q; cases q
 | _, _, .exn f h n, q => by unfold excD noL at q; cases q
theorem noLs_rep {K : PySem.W.Frag} {F F2 : Addr -> Prop} {H : Hp} : ∀ {ds : List D} {vs : List V}, Reps K F H ds vs -> noLs ds = true -> Reps K F2 H ds vs
 | _, _, .nil, _ => .nil
 | _, _, .cons h r, q => by
  unfold noLs at q
  rw [Bool.and_eq_true] at q
  exact .cons (zLO h q.1) (noLs_rep r q.2)
end
section
variable {X : Cx} {e : Expr} {ga : Rho -> Option D} {p pos : Pos}
end
end TB
namespace TX
open PySem PySem.Spec PyProof.Rows L2 DL
open Builtin Builtin.Str
section
variable {X : Cx}
theorem zN2 : SlR X (fun x lo hi H Q => ∃ z, x = .str z /\ z.length <= sizeLine /\ Q (.str (Txt.slice z lo hi)) H) := by
 intro pins s σ H x v vl vu lo hi sl Q I rx hs pl pu h
 obtain ⟨z, rfl, hz, q⟩ := h
 obtain ⟨t, rfl⟩ := rx
 have fin : ∀ t' k, EP X pins σ Q (.str (Txt.slice z lo hi) t') { s with toks := k } := fun t' k => ⟨.str _, H, I.tok k, ⟨t', rfl⟩, q⟩
 refine ⟨"str", _, PySem.F.slot_str_getitem.lookup, typeIs_str _ _ _, ?_⟩
 obtain ⟨o, h1, h2, h3⟩ := hs
 cases pl <;> cases pu
 ·exact wpAny_getItem_str_slice (l := none) (u := none) (st := none) ⟨o, h1, h2, h3⟩ rfl (post_val_or_str ⟨Nat.le_trans (Txt.slice_le z _ _) hz, fun t' k => fin t' k⟩)
 ·rename_i j uj
  exact wpAny_getItem_str_slice (l := none) (u := some (j, uj)) (st := none) ⟨o, h1, h2, h3⟩ rfl (post_val_or_str ⟨Nat.le_trans (Txt.slice_le z _ _) hz, fun t' k => fin t' k⟩)
 ·rename_i i ui
  exact wpAny_getItem_str_slice (l := some (i, ui)) (u := none) (st := none) ⟨o, h1, h2, h3⟩ rfl (post_val_or_str ⟨Nat.le_trans (Txt.slice_le z _ _) hz, fun t' k => fin t' k⟩)
 ·rename_i i ui j uj
  exact wpAny_getItem_str_slice (l := some (i, ui)) (u := some (j, uj)) (st := none) ⟨o, h1, h2, h3⟩ rfl (post_val_or_str ⟨Nat.le_trans (Txt.slice_le z _ _) hz, fun t' k => fin t' k⟩)
noncomputable def dSlS : D -> Option Int -> Option Int -> Option D
 | .str z, lo, hi => if decide (z.length <= 1000000) then some (.str (Txt.slice z lo hi)) else none
 | _, _, _ => none
noncomputable def eSlS (ga : Rho -> Option D) (gl gh : Rho -> Option (Option Int)) : Rho -> Option D := fun ρ => (ga ρ).bind fun d => (gl ρ).bind fun l => (gh ρ).bind fun h => dSlS d l h
theorem zJb {a : Expr} {lo hi : Option Expr} {ga : Rho -> Option D} {gl gh : Rho -> Option (Option Int)} {p2 pos : Pos} (ha : DE X a ga) (hl : DO X lo gl) (hh : DO X hi gh) : DE X (.Subscript a (.Slice lo hi none p2) pos) (eSlS ga gl gh) :=
 zAA (zOm zN2 ha hl hh) fun σ H Q zz => by
  obtain ⟨F, H₀, ρ, d, S, q, k⟩ := zz
  obtain ⟨x, e1, q⟩ := bnd q
  obtain ⟨l, e2, q⟩ := bnd q
  obtain ⟨h, e3, q⟩ := bnd q
  refine ⟨F, H₀, ρ, x, S, e1, fun F1 H1 v E1 R1 => ⟨F1, H₀, ρ, l, S.ext E1, e2, fun F2 H2 E2 => ⟨F2, H₀, ρ, h, (S.ext E1).ext E2, e3, fun F3 H3 E3 => ?_⟩⟩⟩
  unfold dSlS at q
  split at q
  ·split at q
   next c =>
    cases q
    cases R1
    exact ⟨_, rfl, by rw [sizeLine_eq]; have := of_decide_eq_true c; omega, k _ _ _ (E1.trans (E2.trans E3)) (.str _)⟩
   next => cases q
  ·cases q
noncomputable def repS (x : Str) (n : Nat) : Str := ⟨(List.replicate n x.cps).foldl (· ++ ·) #[]⟩
noncomputable def zDZ : D -> D -> Option D
 | .str x, .int n => if (decide (2 <= n) && decide (n <= 1000) && decide (1 <= x.length) && decide (x.length <= 1000)) = true then some (.str (repS x n.toNat)) else none
 | _, _ => none
theorem zKX {prog : Program} {w : World} {A : Around} {E : Value -> Shared -> Prop} {s : Shared} {x : Str} {n : Int} {t t2 : Tok} {Q : Value -> Shared -> Prop} (c1 : 2 <= n) (c2 : n <= 1000) (c3 : 1 <= x.length) (c4 : x.length <= 1000)
  (h : ∀ t' k, Q (.str (repS x n.toNat) t') { s with toks := k }) : wpAny (model prog w) A (binaryOp .Mult (.str x t) (.int n t2)) Q E s := by
 have hm : x.length * n.toNat <= 1000000 := by
  have h1 : x.length * n.toNat <= 1000 * 1000 := Nat.mul_le_mul c4 (by omega)
  omega
 have tl : tooLong (x.length * n.toNat) = false := by
  unfold tooLong
  exact decide_eq_false (by have := sizeLine_eq; omega)
 have ln : (repS x n.toNat).length <= sizeLine := by
  have : ∀ (m : Nat) (acc : Array Nat), ((List.replicate m x.cps).foldl (· ++ ·) acc).size = acc.size + m * x.cps.size := fun m => by
   induction m with
   | zero => intro acc; simp
   | succ m ih => intro acc; rw [List.replicate_succ, List.foldl_cons, ih, Array.size_append, Nat.succ_mul]; omega
  have e : (repS x n.toNat).length = 0 + n.toNat * x.cps.size := this n.toNat #[]
  have e2 : x.cps.size = x.length := rfl
  rw [e, e2, sizeLine_eq, Nat.zero_add, Nat.mul_comm]
  omega
 have g1 : ¬ n < 1 := by omega
 have g2 : (n == 1 || x.length == 0) = false := by
  rw [Bool.or_eq_false_iff]
  exact ⟨by rw [beq_eq_false_iff_ne]; omega, by rw [beq_eq_false_iff_ne]; omega⟩
 refine P.mul_str (by rw [decide_eq_false (by omega), decide_eq_false (by omega)]; rfl) (fun _ _ => ?_) (fun _ _ => tl) ?_
 ·have h2 : (9223372036854775 : Int) <= (2 ^ 63 - 1) / n := by
   refine (Int.le_ediv_iff_mul_le (by omega)).mpr ?_
   have : (9223372036854775 : Int) * n <= 9223372036854775 * 1000 := Int.mul_le_mul_of_nonneg_left c2 (by decide)
   omega
  omega
 ·rw [if_neg g1, if_neg (by rw [g2]; decide)]
  exact ⟨ln, h _ _⟩
theorem zHH : OpR X (binaryOp .Mult) (rD2 X.K zDZ) := fun pins s σ H x y v u Q I rx ry zz => by
 obtain ⟨F, d, e, q, z, R1, R2, hq, k⟩ := zz
 unfold zDZ at hq
 split at hq
 ·split at hq
  next c =>
   cases hq
   simp only [Bool.and_eq_true, decide_eq_true_eq] at c
   obtain ⟨⟨⟨c1, c2⟩, c3⟩, c4⟩ := c
   cases R1
   cases R2
   obtain ⟨t, rfl⟩ := rx
   obtain ⟨t2, rfl⟩ := ry
   exact zKX c1 c2 c3 c4 fun t' k' => ⟨.str _, H, I.tok k', ⟨t', rfl⟩, k F H _ (Ext.refl F H) (.str _)⟩
  next => cases hq
 ·cases hq
end
end TX
namespace EX
open PySem PySem.Spec PyProof.Rows L2 DL PySem.W
theorem zLG {X : Cx} {x : Str} {j : Nat} {pos : Pos} : PE X (.Constant (.str x) j pos) (tAny X.K okC) := zAA zI7 fun σ H Q ⟨F, H₀, ρ, S, _, k⟩ => k F H _ (Ext.refl F H)
end EX
namespace EX
open PySem PySem.Spec PySem.SeqAt PyProof.Rows L2 DL
noncomputable def zDT (k : Bool) (bs : List Bool) : Nat := bs.countP (· == k)
theorem zFe : ∀ {bs : List Bool} {us : List Value}, Vals (bs.map V.bl) us -> us = bs.map Value.bool
 | [], _, .nil => rfl
 | b :: bs, _, .cons r t => by
  rw [zFe t]
  cases r
  rfl
theorem eqB (k : Bool) (bs : List Bool) (y : Value) (hy : y ∈ bs.map Value.bool) (A : Around) (s : Shared) : EqAt A s y (.bool k) (isBoolOf k y) := by
 obtain ⟨b, _, rfl⟩ := List.mem_map.mp hy
 exact EqAt.bool_bool b k
theorem cntB (k : Bool) : ∀ bs : List Bool, (bs.map Value.bool).countP (isBoolOf k) = zDT k bs
 | [] => rfl
 | b :: bs => by
  have ih := cntB k bs
  unfold zDT at ih ⊢
  rw [List.map_cons, List.countP_cons, List.countP_cons, ih]
  rfl
section
variable {X : Cx}
theorem zK5 : MtR X "list.count" (fun x vs H Q => ∃ a bs k, x = .ref a /\ vs = [.bl k] /\ SqL X.K H a (bs.map V.bl) /\ Q (.int (zDT k bs : Nat)) H) := by
 intro pins s σ H x vs v us Q I rx rv h
 obtain ⟨a, bs, k, rfl, rfl, hq, q⟩ := h
 cases rx
 obtain ⟨u, rfl, ru⟩ := rv.one
 cases ru
 obtain ⟨its, r, pl, _⟩ := I.list hq
 cases zFe r
 obtain ⟨⟨cls, dd, data, sl⟩, ho, hc, n, hd⟩ := id pl.isList
 simp only at hc hd
 subst hc hd
 refine call_meets PySem.F.slot_list_count ⟨_, ho, rfl⟩ PySem.F.entry_list_count (PySem.F.args_list_count_2 _ _) (list_countAt a (bs.map Value.bool).toArray n dd sl (.bool k) (isBoolOf k)) ⟨ho, fun y hy => eqB k bs y (by simpa using hy) _ _, ?_⟩
 rw [show (bs.map Value.bool).toArray.toList = bs.map Value.bool from rfl, cntB]
 exact ⟨.int _, H, I.tok _, ⟨_, rfl⟩, q⟩
theorem zOs : MtR X "list.index" (fun x vs H Q => ∃ (a : Addr) (bs : List Bool) (k : Bool) (j : Nat), x = .ref a /\ vs = [.bl k] /\ SqL X.K H a (bs.map V.bl) /\ bs.length <= 1000 /\ bs[j]? = some k /\ (∀ m b, m < j -> bs[m]? = some b -> (b == k) = false) /\ Q (.int (j : Nat)) H) := by
 intro pins s σ H x vs v us Q I rx rv h
 obtain ⟨a, bs, k, j, rfl, rfl, hq, hl, hj, hno, q⟩ := h
 cases rx
 obtain ⟨u, rfl, ru⟩ := rv.one
 cases ru
 obtain ⟨its, r, pl, _⟩ := I.list hq
 cases zFe r
 obtain ⟨⟨cls, dd, data, sl⟩, ho, hc, n, hd⟩ := id pl.isList
 simp only at hc hd
 subst hc hd
 have hj' := (List.getElem?_eq_some_iff.mp hj).1
 have at' : ∀ m (hm : m < (bs.map Value.bool).toArray.size) (hm2 : m < bs.length), (bs.map Value.bool).toArray[m] = .bool bs[m] := fun m hm hm2 => by simp
 refine call_meets PySem.F.slot_list_index ⟨_, ho, rfl⟩ PySem.F.entry_list_index (PySem.F.args_list_index_2 _ _) (list_indexAt a (bs.map Value.bool).toArray n dd sl (.bool k) (isBoolOf k) j (by simpa using hj') (by omega) ?_ ?_) ⟨ho, fun y hy => eqB k bs y (by simpa using hy) _ _, ⟨.int _, H, I.tok _, ⟨_, rfl⟩, q⟩⟩
 ·rw [at' j (by simpa using hj') hj', (List.getElem?_eq_some_iff.mp hj).2]
  show (k == k) = true
  simp
 ·intro m hm hlt
  have hm2 : m < bs.length := by simpa using hm
  rw [at' m hm hm2]
  exact hno m bs[m] hlt (List.getElem?_eq_getElem hm2)
end
noncomputable def zE0 : D -> D -> Option D
 | .list ds, .bool k => (SL.boolsD ds).bind fun bs => some (.int (zDT k bs : Nat))
 | _, _ => none
noncomputable def ixB (k : Bool) : List Bool -> Option Nat
 | [] => none
 | b :: bs => if (b == k) = true then some 0 else (ixB k bs).bind fun j => some (j + 1)
theorem zIM (k : Bool) : ∀ {bs : List Bool} {j : Nat}, ixB k bs = some j -> bs[j]? = some k /\ ∀ m b, m < j -> bs[m]? = some b -> (b == k) = false
 | b :: bs, j, h => by
  unfold ixB at h
  split at h
  next c =>
   cases h
   exact ⟨by rw [beq_iff_eq.mp c]; rfl, fun m b z => absurd z (Nat.not_lt_zero _)⟩
  next c =>
   obtain ⟨i, e, h⟩ := bnd h
   cases h
   obtain ⟨h1, h2⟩ := zIM k e
   refine ⟨h1, fun m b' z e' => ?_⟩
   cases m with
   | zero => cases e'; exact Bool.eq_false_iff.mpr c
   | succ m => exact h2 m b' (by omega) e'
noncomputable def zEy : D -> D -> Option D
 | .list ds, .bool k => if ds.length <= 1000 then (SL.boolsD ds).bind fun bs => (ixB k bs).bind fun j => some (.int (j : Nat)) else none
 | _, _ => none
section
variable {X : Cx} {o e : Expr} {go ge : Rho -> Option D} {apos cpos : Pos}
theorem zNq (ho : DE X o go) (he : DE X e ge)
  (hbase : attributeBase o "count" X.env (eval o X.env) = eval o X.env := by rfl)
  (hfew : ((backTo cpos (starEach [e] X.env)).all (fun x => !x.1) && (backToKw cpos (keywordEach [] X.env)).all (fun x => x.1.isSome)
   && decide ([e].length + ([] : List Keyword).length + (if ([] : List Keyword).isEmpty then 0 else 1) < 30)) = true := by rfl)
  (hline : (apos.endLine == cpos.line) = true := by rfl) (hs : starEach [e] X.env = (false, eval e X.env) :: starEach [] X.env := by rfl) (hplain : (backTo cpos (starEach [] X.env)).any (·.1) = false := by rfl) :
  DE X (.Call (.Attribute o "count" apos) [e] [] cpos) (eOp zE0 go ge) :=
 zAA (zCz F.plainAttrs_list F.slot_list_count F.type_list_count zK5 ho (zBa he zBA hs) hbase hfew hline hs hplain) fun σ H Q zz => by
  obtain ⟨F, H₀, ρ, d, S, q, k⟩ := zz
  obtain ⟨x, e1, q⟩ := bnd q
  obtain ⟨y, e2, q⟩ := bnd q
  refine ⟨F, H₀, ρ, x, S, e1, fun F1 H1 v E1 R1 => ?_⟩
  unfold zE0 at q
  split at q
  ·obtain ⟨bs, e3, q⟩ := bnd q
   cases q
   cases R1 with
   | @lst a vs ds h1 r1 =>
    refine ⟨.inl ⟨rfl, _, h1.sq⟩, F1, H₀, ρ, _, S.ext E1, e2, fun F2 H2 u E2 R2 => ?_⟩
    cases R2
    refine ⟨a, bs, _, rfl, rfl, ?_, k F2 H2 _ (E1.trans E2) (.int _)⟩
    rw [<- SL.bools_rep r1 e3]
    exact (FzL.stay E2.stay h1).sq
  ·cases q
theorem zNL (ho : DE X o go) (he : DE X e ge)
  (hbase : attributeBase o "index" X.env (eval o X.env) = eval o X.env := by rfl)
  (hfew : ((backTo cpos (starEach [e] X.env)).all (fun x => !x.1) && (backToKw cpos (keywordEach [] X.env)).all (fun x => x.1.isSome)
   && decide ([e].length + ([] : List Keyword).length + (if ([] : List Keyword).isEmpty then 0 else 1) < 30)) = true := by rfl)
  (hline : (apos.endLine == cpos.line) = true := by rfl) (hs : starEach [e] X.env = (false, eval e X.env) :: starEach [] X.env := by rfl) (hplain : (backTo cpos (starEach [] X.env)).any (·.1) = false := by rfl) :
  DE X (.Call (.Attribute o "index" apos) [e] [] cpos) (eOp zEy go ge) :=
 zAA (zCz F.plainAttrs_list F.slot_list_index F.type_list_index zOs ho (zBa he zBA hs) hbase hfew hline hs hplain) fun σ H Q zz => by
  obtain ⟨F, H₀, ρ, d, S, q, k⟩ := zz
  obtain ⟨x, e1, q⟩ := bnd q
  obtain ⟨y, e2, q⟩ := bnd q
  refine ⟨F, H₀, ρ, x, S, e1, fun F1 H1 v E1 R1 => ?_⟩
  unfold zEy at q
  split at q
  ·split at q
   next hl =>
    obtain ⟨bs, e3, q⟩ := bnd q
    obtain ⟨j, e4, q⟩ := bnd q
    cases q
    obtain ⟨j1, j2⟩ := zIM _ e4
    cases R1 with
    | @lst a vs ds h1 r1 =>
     refine ⟨.inl ⟨rfl, _, h1.sq⟩, F1, H₀, ρ, _, S.ext E1, e2, fun F2 H2 u E2 R2 => ?_⟩
     cases R2
     have ev := SL.bools_rep r1 e3
     refine ⟨a, bs, _, j, rfl, rfl, ?_, ?_, j1, j2, k F2 H2 _ (E1.trans E2) (.int _)⟩
     ·rw [<- ev]
      exact (FzL.stay E2.stay h1).sq
     ·have := r1.length
      rw [ev, List.length_map] at this
      omega
   next => cases q
  ·cases q
end
end EX
namespace EX
open PySem PySem.Spec PyProof.Rows L2 DL PySem.W
noncomputable def zBT (A : Around) : Around := { A with handled := none }
structure FnH (P : Program) (w : World) (K : PySem.W.Frag) (mg : Str -> Option Value) (base : Heap) (k : Nat) (f : Addr) (fd : FuncData) (ps : List Str) (sp : Sp) : Prop where
 len : ∀ vs H Q E, sp vs H Q E -> vs.length = ps.length
 run : ∀ (A : Around) (outer : List Env) (s : Shared) (H : Hp) (args : Args) (us : List Value) (vs : List V) (Q : VK) (E : XK), Room k (zBT A) -> Env0 P w K mg base A outer s H -> BindsTo s fd args (ps.zip us) -> Vals vs us -> sp vs H Q E ->
  codeAny (model P w) A (.call (.ref f) args) (CR CX0 outer P w H s Q E) s
theorem zKm {k : Nat} {A : Around} {e : Value} (r : Room k A) : Room k (zBT (A.mark (some e))) := ⟨rfl, r.dp, r.un, r.gd⟩
noncomputable def cxH (P : Program) (w : World) (K : PySem.W.Frag) (mg : Str -> Option Value) (base : Heap) (N : List Str) (qual : Str) (scope : Scope) (f : Addr) (cd : Value) (A : Around) (outer : List Env) (s : Shared) (H : Hp) : Cx :=
 { cxOf CX0 P w K mg base N qual scope f cd A outer s H E0 with calm := false, xe := fun _ _ => False }
theorem fn_H0 {P : Program} {w : World} {K : PySem.W.Frag} {mg : Str -> Option Value} {base : Heap} {k : Nat} {f : Addr} {name qual : Str} {params : Arguments} {body : List Stmt} {scope : Scope} {dV kV doc pm cdv ct oc : Value} {an od : Option Addr}
  {osl : Array (Option Value)} {N ps : List Str} {sp : Sp} (lk : K.lookup f = some ⟨oc, od, .func (PySem.W.fnOf name qual params body scope dV kV doc pm an cdv ct), osl⟩) (hcd : PySem.W.codeIn K cdv qual = true) (S : zAx N ps scope)
  (len : ∀ vs H Q E, sp vs H Q E -> vs.length = ps.length)
  (hbody : ∀ (A : Around) (outer : List Env) (s : Shared) (H : Hp) (vs : List V) (Q : VK) (E : XK), Room k (zBT (A.deeper (envOfC qual scope s.heap.objs.size f cdv))) -> sp vs H Q E ->
   ∃ t, PSs (cxH P w K mg base N qual scope f cdv A outer s H) body t /\ t { nx := fun _ H' => Q .non H', rt := Q } (start N vs) H) :
  FnH P w K mg base (k + 1) f (PySem.W.fnOf name qual params body scope dV kV doc pm an cdv ct) ps sp := by
 refine ⟨len, fun A outer s H args us vs Q E hr e0 hb r hsp => ?_⟩
 have hl := len _ _ _ _ hsp
 have KX : K.In s.heap := e0.mod.kin.keeps fun b o e => (e0.bs b o e).1
 have lim : s.heap.NoLimit := e0.mod.nolimit.keeps fun b o e => (e0.bs b o e).1
 have hkind : ∀ y ∈ ps.zip us, scope.names.lookup y.1 = some .local ∨ (scope.names.lookup y.1 = some .cell /\ ((cellsFrom (s.heap.objs.size + 1) scope.names []).lookup y.1).isSome = true) := fun zz hy => by
  obtain ⟨n, v⟩ := zz
  rcases S.par n (List.of_mem_zip hy).1 with q | q
  ·exact .inl q
  ·exact .inr ⟨q, PySem.W.cellsFrom_some _ _ _ (.inl q)⟩
 refine codeAny_call_function (show A.depth < recursionLimit by have : A.depth + 3 * (k + 1) + 5 < recursionLimit := hr.dp; omega) (KX _ _ lk) rfl S.co S.gen rfl (PySem.W.codeRec_of KX hcd) (hb _ _ _ _ ?_)
 refine wpAny_newFunctionEnv_cells S.kind hkind fun env he s1 x => ?_
 subst he
 refine ⟨lim.keeps x.toInCall.keep, codeAny_func ?_⟩
 obtain ⟨t, ht, hq⟩ := hbody A outer s H vs Q E (hr.deeper _) hsp
 have e1 : Env0 P w K mg base (zBT A) outer s H := ⟨e0.frames, e0.mod, e0.bs, e0.bsz, e0.funs, e0.frf, e0.hok, e0.bare⟩
 have I0 : Inv (cxOf CX0 P w K mg base N qual scope f cdv (zBT A) outer s H E0) [] (start N vs) H s1 := zHW S rfl e1 hl r x
 have I : Inv (cxH P w K mg base N qual scope f cdv A outer s H) [] (start N vs) H s1 :=
  zC0 (X := cxOf CX0 P w K mg base N qual scope f cdv (zBT A) outer s H E0) (A' := A.deeper (envOfC qual scope s.heap.objs.size f cdv)) (c' := false) (pn' := []) (E' := fun _ _ => False) I0 rfl (fun z => nomatch z) (fun p hp => hp)
 refine wpAny_mono (ht [] s1 (start N vs) H _ I hq) (fun fl s' hs => ?_) fun e s' hs => False.elim hs
 have fin : ∀ {σ' : L2.St} {H' : Hp} {v : V} {u : Value}, Inv (cxH P w K mg base N qual scope f cdv A outer s H) [] σ' H' s' -> RelV v u -> Q v H' -> CE outer P w H s Q u s' :=
  fun {σ' H' v u} J rv q => ⟨v, H', J.os, J.bare, J.base, J.hok, rv, q⟩
 cases fl with
 | ret u =>
  obtain ⟨v, σ', H', J, rv, q⟩ := hs
  exact fin J rv q
 | next =>
  obtain ⟨σ', H', J, q⟩ := hs
  exact fin (v := V.non) (u := Value.none) J rfl q
 | brk =>
  obtain ⟨_, _, _, q⟩ := hs
  exact False.elim q
 | cont =>
  obtain ⟨_, _, _, q⟩ := hs
  exact False.elim q
theorem fn_H {P : Program} {w : World} {K : PySem.W.Frag} {mg : Str -> Option Value} {base : Heap} {x qual : Str} {st : Stmt} {f : Addr} {fd : FuncData} {N ps : List Str} {k n m : Nat} {g : Rho -> Option Out} {G : List D -> Option D} (hG : G = fnD m g) (hn : ps.length = n) (hm : N.length = m) (F : Fun K x qual st f fd) (S : zAx N ps (zAf st))
  (hb : ∀ (cdv : Value) (A : Around) (outer : List Env) (s : Shared) (H : Hp), Room k (zBT (A.deeper (envOfC qual (zAf st) s.heap.objs.size f cdv))) -> DSs (cxH P w K mg base N qual (zAf st) f cdv A outer s H) (zAv st) g) : FnH P w K mg base (k + 1) f fd ps (spD K n G) := by
 subst hn hm hG
 obtain ⟨oc, od, kV, doc, pm, an, cdv, ct, osl, rfl, lk, hcd⟩ := F.ex
 refine fn_H0 lk hcd S (fun vs H Q E h => ?_) fun A outer s H vs Q E hr h => ?_
 ·obtain ⟨F, ds, d, hl, _, r, _⟩ := h
  rw [<- r.length, hl]
 ·obtain ⟨F, ds, d, hl, z, r, q, kk⟩ := h
  refine ⟨_, hb cdv A outer s H hr, ?_⟩
  unfold fnD at q
  split at q
  ·rename_i d' e
   cases q
   exact ⟨F, H, F, _, _, Ext.refl F H, zBO z r, e, fun F' H' v E' R' => kk F' H' v E' R'⟩
  ·rename_i ρ' e
   cases q
   exact ⟨F, H, F, _, _, Ext.refl F H, zBO z r, e, fun F' H' σ' E' T' S' => kk F' H' .non E' .non⟩
  ·cases q
section
variable {X : Cx} {k n : Nat} {f : Addr} {fd : FuncData} {ps : List Str} {x : Str} {p pos : Pos} {e : Expr} {es : List Expr} {G : List D -> Option D} {gr : Rho -> Option (List D)}
theorem zKG (F : FnH X.prog X.w X.K X.mg X.base k f fd ps (spD X.K n G)) (hr : Room k (zBT X.A)) (hg : Gl X x) (hm : X.mg x = some (.ref f)) (hk : PySem.W.keepIn X.K (.ref f) = true) (hb : Binds X.K fd ps [])
  (ha : DA X (e :: es) gr) (hln : ∀ ρ ds, gr ρ = some ds -> ds.length = n) (hdb : (x == ("__debug__" : Str)) = false := by decide) (he : starEach (e :: es) X.env = (false, eval e X.env) :: starEach es X.env := by rfl) (hpl : (backTo pos (starEach es X.env)).any (·.1) = false := by rfl) :
  DE X (.Call (.Name x p) (e :: es) [] pos) (zAh G gr) := by
 intro pins s σ H Q I ⟨F0, H₀, ρ, d, S, q, kk⟩
 obtain ⟨xs, e1, q⟩ := bnd q
 refine wpAny_Call_Name_kw (zCi I hg hm ?_ hdb)
 refine PySem.W.callWith_K (h₀ := X.base) I.ok.mod.kin hk (thn (ha pos pins s σ H (fun vs H1 => spD X.K n G vs H1 Q E0) I ⟨F0, H₀, ρ, xs, S, e1, fun F1 H1 vs E1 R1 => ⟨F1, xs, d, hln ρ xs e1, (S.ext E1).fz, R1, q, fun F2 H2 w E2 R2 => kk F2 H2 w (E1.trans E2) R2⟩⟩) fun us s1 ⟨vs, H1, I1, r, q1⟩ => ⟨I1.kIn, ?_⟩) he hpl
 have hl : us.length = ps.length := by rw [<- r.length]; exact F.len _ _ _ _ q1
 have b1 := hb s1 us I1.kIn (by rw [List.append_nil]; exact hl)
 rw [List.append_nil] at b1
 refine wpAny_call (codeAny_mono (F.run X.A X.stack s1 H1 ⟨us, []⟩ us vs Q E0 hr I1.env0 b1 r q1) fun r s' hq => ?_)
 cases r with
 | error e => exact False.elim hq
 | ok fl =>
  cases fl with
  | ret u => exact I1.after hq
  | next => exact False.elim hq
  | brk => exact False.elim hq
  | cont => exact False.elim hq
end
end EX
namespace EX
open PySem PySem.Spec PyProof.Rows L2 DL PySem.W
section
variable {X : Cx} {k : Nat} {f : Addr} {fd : FuncData} {ps : List Str} {x : Str} {p pos : Pos} {e : Expr} {G : List D -> Option D} {gx : Rho -> Option R}
end
end EX
namespace EX
open PySem PySem.Spec PyProof.Rows L2 DL CL PySem.W
noncomputable def FlyW (h : Heap) (e : Addr) (cls : Value) (T : Addr) : Prop :=
 ∃ oe vs, h.get? e = some oe /\ oe.cls = cls /\ oe.data = .fields vs /\ vs[1]? = some (.ref T) /\ T ≠ e /\ ∃ oT ts v, h.get? T = some oT /\ oT.data = .fields ts /\ ts[3]? = some v
section
variable {M : Model} {A : Around} {E : Value -> Shared -> Prop} {s : Shared}
theorem zH3 {base : Heap} {env cenv : Env} {outer : List Env} {L e : Addr} {oe : Obj} {vs : Array Value} {head : Value} {hadNext : Bool} {Q : Unit -> Shared -> Prop}
  (hfr : A.frames = some (env :: outer)) (hl : s.heap.FunFrames base (env :: outer)) (hf : env.frame = some L) (hcf : frameOf cenv = frameOf env)
  (he : s.heap.get? e = some oe) (hd : oe.data = .fields vs) (hsz : 1 < vs.size)
  (h : ∀ h' T, s.heap.objs.size <= T -> FlyW h' e oe.cls T -> Kept (frs (env :: outer)) (· = e) s.heap h' -> Q () { s with heap := h' }) :
  wpAny M A (do let a <- frameOf cenv; let pl <- entryPlaceOf L hadNext; let b <- EntryCells.newEntry head a .none (rawInt L) .none pl; setField (.ref e) 1 b) Q E s := by
 rw [hcf]
 have hene : e ∉ (env :: outer).filterMap (·.frame) := fun hm => by
  obtain ⟨_, o, ho, hnf⟩ := hl.mem hm
  rw [he] at ho; injection ho with ho; subst ho; exact hnf vs hd
 refine wpAny_bind (wpAny_frameOf_fun hfr hl hf fun h₁ hs₁ => ?_)
 refine wpAny_bind (wpAny_entryPlaceOf fun pl hpl => ?_)
 unfold EntryCells.newEntry newFields
 refine wpAny_bind (wpAny_newObj_type ?_ (hpl.sizeOk5 _ _ _ _ _))
 have he₁ : h₁.get? e = some oe := (hs₁.2.1 e hene).trans he
 have he₂ := Heap.get?_push_of_some (h := h₁) { cls := .type "traceback", dict := none, data := .fields ([head, .ref L, .none, rawInt L, .none] ++ (if pl.isEmpty then List.replicate 6 Value.none else pl)).toArray } he₁
 have hTe : h₁.objs.size ≠ e := Nat.ne_of_gt (Heap.lt_size he₁)
 have hd₃ := Obj.data_mapFields hd (·.setIfInBounds 1 (Value.ref h₁.objs.size))
 have he₃ := Heap.get?_update_self (Obj.mapFields (·.setIfInBounds 1 (Value.ref h₁.objs.size))) he₂ (Obj.isFreed_of_fields hd₃)
 have hT₃ := (Heap.get?_update_other (h₁.push { cls := .type "traceback", dict := none, data := .fields ([head, .ref L, .none, rawInt L, .none] ++ (if pl.isEmpty then List.replicate 6 Value.none else pl)).toArray })
  (Obj.mapFields (·.setIfInBounds 1 (Value.ref h₁.objs.size))) (Ne.symm hTe)).trans (Heap.get?_push_size h₁ rfl)
 refine wpAny_setField he₂ hd hsz (h _ h₁.objs.size (by rw [hs₁.1]; exact Nat.le_refl _) ?_ ?_)
 ·exact ⟨_, _, he₃, Obj.cls_mapFields _ _, hd₃, by simp [hsz], hTe, _, _, rawInt L, hT₃, rfl, by first | (simp; done) | (rcases hpl with rfl | ⟨_, _, _, _, _, _, _, rfl⟩ <;> simp)⟩
 ·have keep : ∀ b o, ¬ (b = e) -> h₁.get? b = some o ->
    ((h₁.push { cls := .type "traceback", dict := none, data := .fields ([head, .ref L, .none, rawInt L, .none] ++ (if pl.isEmpty then List.replicate 6 Value.none else pl)).toArray }).update e (Obj.mapFields (·.setIfInBounds 1 (Value.ref h₁.objs.size)))).get? b = some o := fun b o hb hbo => by
   rw [Heap.get?_update_other _ _ (Ne.symm hb)]
   exact Heap.get?_push_of_some _ hbo
  refine ⟨fun b o hb hbf hbo => keep b o hb ((hs₁.2.1 b hbf).trans hbo), fun b o hb hbo => ?_⟩
  obtain ⟨sl, hs⟩ := hs₁.2.2 b o hbo
  exact ⟨sl, keep b _ hb hs⟩
theorem note1 {base : Heap} {env cenv : Env} {outer : List Env} {L e : Addr} {cls : Value} {tr : Option Addr} {Q : Unit -> Shared -> Prop}
  (hfr : A.frames = some (env :: outer)) (hl : s.heap.FunFrames base (env :: outer)) (hf : env.frame = some L) (hcf : cenv.frame = env.frame) (F : Fly s.heap e cls tr)
  (h : ∀ h' T, s.heap.objs.size <= T -> FlyW h' e cls T -> Kept (frs (env :: outer)) (fun b => b = e ∨ some b = tr) s.heap h' -> Q () { s with heap := h' }) : wpAny M A (noteFrame (.ref e) cenv) Q E s := by
 have hof : frameOf cenv = frameOf env := by unfold PySem.frameOf; rw [hcf]
 obtain ⟨oe, vs, he, hc, hd, hT⟩ := F
 subst hc
 unfold noteFrame
 simp only [hcf, hf]
 cases tr with
 | none =>
  have h1 : vs[1]? = some .none := hT
  refine wpAny_bind (wpAny_field he hd h1 ?_)
  rw [if_neg (by decide)]
  exact zH3 hfr hl hf hof he hd (Array.getElem?_eq_some_iff.mp h1).1 fun h' T hT F' K' => h h' T hT F' ⟨fun b o hb => K'.keep b o fun z => hb (.inl z), fun b o hb => K'.slot b o fun z => hb (.inl z)⟩
 | some T =>
  obtain ⟨h1, hTe, oT, ts, hT, hdT, h3⟩ := hT
  refine wpAny_bind (wpAny_field he hd h1 ?_)
  rw [if_pos (show (Value.ref T != Value.none) = true from by simp)]
  refine wpAny_bind (wpAny_field hT hdT h3 ?_)
  rw [if_neg (show ¬ ((Value.none == rawInt L) = true) from by simp [rawInt])]
  refine wpAny_bind (wpAny_setField hT hdT (Array.getElem?_eq_some_iff.mp h3).1 ?_)
  have other : ∀ b, b ≠ T -> (s.heap.update T (Obj.mapFields (·.setIfInBounds 3 Value.none))).get? b = s.heap.get? b := fun b hb => Heap.get?_update_other _ _ (Ne.symm hb)
  have noRecord : ∀ b o, s.heap.get? b = some o -> (∀ vs, o.data ≠ .fields vs) -> b ≠ T := fun b o hb hnf q => by
   rw [q, hT] at hb; injection hb with hb; subst hb; exact hnf ts hdT
  refine zH3 (s := { s with heap := s.heap.update T (Obj.mapFields (·.setIfInBounds 3 Value.none)) }) hfr (hl.of_keeps fun b o hb hnf => ⟨o, (other b (noRecord b o hb hnf)).trans hb, rfl⟩) hf hof ((other e (Ne.symm hTe)).trans he) hd (Array.getElem?_eq_some_iff.mp h1).1 fun h' T' hT' F' K' => h h' T' (by rw [Heap.size_update] at hT'; exact hT') F' ?_
  exact ⟨fun b o hb hbf hbo => K'.keep b o (fun z => hb (.inl z)) hbf ((other b fun z => hb (.inr (by rw [z]))).trans hbo), fun b o hb hbo => K'.slot b o (fun z => hb (.inl z)) ((other b fun z => hb (.inr (by rw [z]))).trans hbo)⟩
theorem zHs {e T : Addr} {cls : Value} {fr : Option Addr} {Q : Unit -> Shared -> Prop} (F : FlyW s.heap e cls T)
  (h : ∀ h', FlyW h' e cls T -> (fr = none -> Fly h' e cls (some T)) -> (∀ b, b ≠ T -> h'.get? b = s.heap.get? b) -> (∀ o, s.heap.get? T = some o -> ∃ o', h'.get? T = some o') -> Q () { s with heap := h' }) : wpAny M A (setFlight (.ref e) fr) Q E s := by
 obtain ⟨oe, vs, he, hc, hd, h1, hTe, oT, ts, v, hT, hdT, h3⟩ := F
 subst hc
 unfold setFlight
 refine wpAny_bind (wpAny_field he hd h1 ?_)
 rw [if_pos (show (Value.ref T != Value.none) = true from by simp)]
 have lt := (Array.getElem?_eq_some_iff.mp h3).1
 refine wpAny_setField hT hdT lt (h _ ?_ ?_ (fun b hb => Heap.get?_update_other _ _ (Ne.symm hb)) fun o _ => ⟨_, Heap.get?_update_self _ hT (Obj.isFreed_of_fields (Obj.data_mapFields hdT _))⟩)
 ·exact ⟨oe, vs, (Heap.get?_update_other _ _ hTe).trans he, rfl, hd, h1, hTe, _, _, fr.elim Value.none fun f => rawInt f, Heap.get?_update_self _ hT (Obj.isFreed_of_fields (Obj.data_mapFields hdT _)), Obj.data_mapFields hdT _, by simp [lt]⟩
 ·rintro rfl
  exact ⟨oe, vs, (Heap.get?_update_other _ _ hTe).trans he, rfl, hd, h1, hTe, _, _, Heap.get?_update_self _ hT (Obj.isFreed_of_fields (Obj.data_mapFields hdT _)), Obj.data_mapFields hdT _, by simp [lt]⟩
theorem zL0 {e T : Addr} {cls : Value} {what : String} {env : Env} (F : FlyW s.heap e cls T) (h : ∀ h', FlyW h' e cls T -> (∀ b, b ≠ T -> h'.get? b = s.heap.get? b) -> E (.ref e) { s with heap := h' }) : wpAny M A (PySem.passOn what (.ref e) env : Sem Value) (fun _ _ => False) E s := by
 obtain ⟨oe, vs, he, hc, hd, h1, r⟩ := id F
 unfold PySem.passOn
 refine wpAny_bind (wpAny_field he hd h1 ?_)
 rw [if_neg (show ¬ ((Value.ref T == Value.none) = true) from by simp)]
 exact wpAny_bind (zHs F fun h' F' _ o _ => wpAny_throw (h h' F' o))
theorem zOO {base : Heap} {env : Env} {outer : List Env} {L e T : Addr} {cls : Value} {Q : Unit -> Shared -> Prop}
  (hfr : A.frames = some (env :: outer)) (hl : s.heap.FunFrames base (env :: outer)) (hf : env.frame = some L) (F : FlyW s.heap e cls T)
  (h : ∀ h' T', (T' = T ∨ s.heap.objs.size <= T') -> Fly h' e cls (some T') -> Kept (frs (env :: outer)) (fun b => b = e ∨ b = T) s.heap h' -> Q () { s with heap := h' }) : wpAny M A (leaving env (.ref e)) Q E s := by
 obtain ⟨oe, vs, he, hc, hd, h1, hTe, oT, ts, v, hT, hdT, h3⟩ := id F
 subst hc
 unfold leaving noteFrame
 simp only [hf]
 refine wpAny_bind (wpAny_bind (wpAny_field he hd h1 ?_))
 rw [if_pos (show (Value.ref T != Value.none) = true from by simp)]
 refine wpAny_bind (wpAny_field hT hdT h3 ?_)
 by_cases c : (v == rawInt L) = true
 ·rw [if_pos c]
  refine wpAny_pure (zHs F fun h' _ F' o _ => h h' T (.inl rfl) (F' rfl) ⟨fun b ob hb _ hbo => (o b fun z => hb (.inr z)).trans hbo, fun b ob hb hbo => ⟨ob.slots, (o b fun z => hb (.inr z)).trans hbo⟩⟩)
 ·rw [if_neg c]
  refine wpAny_bind (wpAny_setField hT hdT (Array.getElem?_eq_some_iff.mp h3).1 ?_)
  have other : ∀ b, b ≠ T -> (s.heap.update T (Obj.mapFields (·.setIfInBounds 3 Value.none))).get? b = s.heap.get? b := fun b hb => Heap.get?_update_other _ _ (Ne.symm hb)
  have noRecord : ∀ b o, s.heap.get? b = some o -> (∀ vs, o.data ≠ .fields vs) -> b ≠ T := fun b o hb hnf q => by
   rw [q, hT] at hb; injection hb with hb; subst hb; exact hnf ts hdT
  refine zDb (s := { s with heap := s.heap.update T (Obj.mapFields (·.setIfInBounds 3 Value.none)) }) hfr (hl.of_keeps fun b o hb hnf => ⟨o, (other b (noRecord b o hb hnf)).trans hb, rfl⟩) hf ((other e (Ne.symm hTe)).trans he) hd (Array.getElem?_eq_some_iff.mp h1).1 fun h' T' hT' F' K' => h h' T' (.inr (by rw [Heap.size_update] at hT'; exact hT')) F' ?_
  exact ⟨fun b o hb hbf hbo => K'.keep b o (fun z => hb (.inl z)) hbf ((other b fun z => hb (.inr z)).trans hbo), fun b o hb hbo => K'.slot b o (fun z => hb (.inl z)) ((other b fun z => hb (.inr z)).trans hbo)⟩
end
end EX
namespace EX
open PySem PySem.Spec PyProof.Rows L2 DL CL PySem.W
structure zFr (X : Cx) (pins : List (Addr × Obj)) (H : Hp) (s : Shared) (a : Addr) (cls : Value) (T : Addr) : Prop where
 fly : FlyW s.heap a cls T
 new : ∀ b, (b = a ∨ b = T) -> zCs X pins H b
theorem zOf {P : Program} {w : World} {K : PySem.W.Frag} {mg : Str -> Option Value} {base : Heap} {N : List Str} {qual : Str} {scope : Scope} {f : Addr} {cd : Value} {A : Around} {outer : List Env} {s : Shared} {H : Hp} {E : XK}
  {pins : List (Addr × Obj)} {σ : L2.St} {H' : Hp} {s' : Shared} {a C T : Addr} (I : Inv (cxOf (CX1 P w) P w K mg base N qual scope f cd A outer s H E) pins σ H' s')
  (W : zFr (cxOf (CX1 P w) P w K mg base N qual scope f cd A outer s H E) pins H' s' a (.ref C) T) (h : E (.ref C) none H') : (cxOf (CX1 P w) P w K mg base N qual scope f cd A outer s H E).xe (.ref a) s' := by
 have fr : (A.deeper (envOfC qual scope s.heap.objs.size f cd)).frames = some (envOfC qual scope s.heap.objs.size f cd :: outer) := I.ok.frames
 have st : s'.heap.FunFrames base (envOfC qual scope s.heap.objs.size f cd :: outer) := I.stack
 refine zOO (env := envOfC qual scope s.heap.objs.size f cd) (outer := outer) fr st rfl W.fly fun h' T' hT' F' K' => ?_
 have out : ∀ b, b ∈ frs (envOfC qual scope s.heap.objs.size f cd :: outer) -> b = s.heap.objs.size ∨ b ∈ frs outer := fun b hb => by
  unfold frs at hb
  rw [List.filterMap_cons] at hb
  exact List.mem_cons.mp hb
 have old : ∀ b o, s.heap.get? b = some o -> ¬ (b = a ∨ b = T) /\ b ≠ s.heap.objs.size := fun b o e => by
  refine ⟨fun z => ?_, Nat.ne_of_lt (Heap.lt_size e)⟩
  have n : s.heap.get? b = none := (W.new b z).1
  rw [n] at e; cases e
 have B : Un (frs outer) [] H H' s.heap s'.heap := I.base
 have tk : ∀ b u, H' b = some u -> ∀ o, s'.heap.get? b = some o -> h'.get? b = some o := fun b u e o q => K'.keep b o (fun z => by
  have n := (W.new b z).2.1
  rw [n] at e; cases e) (fun z => by
  have n := I.stkFree b z
  rw [n] at e; cases e) q
 refine ⟨a, C, some T', H', rfl, I.os, I.bare, ⟨fun b o e n hb hx => ?_, fun b o e n hb hx => ?_, B.free, fun b o e hx => ?_, B.tups, B.frzs, B.tbls⟩, fun b u e => ?_, F', fun b hb => ?_, h⟩
 ·exact K'.keep b o (old b o e).1 (fun z => (out b z).elim (old b o e).2 hb) (B.keep b o e n hb hx)
 ·obtain ⟨sl, q⟩ := B.slot b o e n hb hx
  obtain ⟨sl', q'⟩ := K'.slot b _ (old b o e).1 q
  exact ⟨sl', q'⟩
 ·obtain ⟨o', q⟩ := B.there b o e hx
  obtain ⟨sl', q'⟩ := K'.slot b _ (old b o e).1 q
  exact ⟨_, q'⟩
 ·refine (I.hok b u e).stay (fun c v hc q => ?_) (fun _ q => q) fun _ _ q => q
  rcases hc with rfl | hc
  ·exact tk c u e v q
  ·exact tk c _ hc v q
 ·rcases hb with rfl | hb
  ·exact ⟨(W.new b (.inl rfl)).1, (W.new b (.inl rfl)).2.1⟩
  ·cases hb
   rcases hT' with rfl | hT'
   ·exact ⟨(W.new _ (.inr rfl)).1, (W.new _ (.inr rfl)).2.1⟩
   ·exact ⟨Heap.get?_none_of_le (Nat.le_trans I.sz hT'), I.hok.fresh hT'⟩
section
variable {X : Cx} {pins : List (Addr × Obj)} {σ : L2.St} {H : Hp} {s s' : Shared}
theorem zOj {E : XK} {e : Value} (hp : ∀ b ∈ X.ex, ∃ o, (b, o) ∈ X.pn ++ pins) (I : Inv X pins σ H s) (h : CX1 X.prog X.w X.stack H s E e s') :
  ∃ a C tr H', e = .ref a /\ Inv X pins σ H' s' /\ ThrownC X pins H' s' a (.ref C) tr /\ E (.ref C) none H' := by
 obtain ⟨a, C, tr, H', rfl, os, bare, un, hok, fly, new, q⟩ := h
 refine ⟨a, C, tr, H', rfl, I.call' os un hok bare (fun b z => absurd z (by simp)), ⟨fly, fun b hb => ?_⟩, q⟩
 obtain ⟨n1, n2⟩ := new b hb
 refine ⟨?_, n2, zDt I n1, zDd I n1, zDc I n1⟩
 rcases zCV I n1 with z | z
 ·exact z
 ·obtain ⟨o, ho⟩ := hp b z
  have := (I.pin _ ho).1
  rw [n1] at this; cases this
end
noncomputable def PEX (X : Cx) (e : Expr) (t : L2.St -> Hp -> VK -> (Value -> Hp -> Prop) -> Prop) : Prop :=
 ∀ (pins : List (Addr × Obj)) (s : Shared) (σ : L2.St) (H : Hp) (Q : VK) (XW : Value -> Hp -> Prop), Inv X pins σ H s -> (∀ b ∈ X.ex, ∃ o, (b, o) ∈ X.pn ++ pins) -> t σ H Q XW ->
  (∀ cls H' s' a tr, XW cls H' -> Inv X pins σ H' s' -> ThrownC X pins H' s' a cls tr -> X.xe (.ref a) s') -> wpAny (model X.prog X.w) X.A (eval e X.env) (EP X pins σ Q) X.xe s
noncomputable def tXC (K : PySem.W.Frag) (g : Rho -> Option R) : L2.St -> Hp -> VK -> (Value -> Hp -> Prop) -> Prop := fun σ H Q XW => ∃ (F : Addr -> Prop) (H₀ : Hp) (ρ : Rho) (r : R), StOk K F H H₀ σ ρ /\ g ρ = some r /\ match r with
 | .inl d => ∀ F' H' v, Ext F F' H H' -> Rep K F' H' d v -> Q v H'
 | .inr x => ∀ F' H' C, Ext F F' H H' -> nsIn K mainGlobals x = some (some (.ref C)) -> XW (.ref C) H'
theorem zNT {X : Cx} {k n : Nat} {f : Addr} {fd : FuncData} {ps : List Str} {x : Str} {p pos : Pos} {e : Expr} {es : List Expr} {G : List D -> Option R} {gr : Rho -> Option (List D)} (F : FnOk X.prog X.w X.K X.mg X.base (CX1 X.prog X.w) k f fd ps (spX X.K n G)) (hr : Room k X.A) (hg : Gl X x) (hm : X.mg x = some (.ref f)) (hk : keepIn X.K (.ref f) = true) (hb : Binds X.K fd ps [])
  (ha : DA X (e :: es) gr) (hln : ∀ ρ ds, gr ρ = some ds -> ds.length = n) (hdb : (x == ("__debug__" : Str)) = false := by decide) (he : starEach (e :: es) X.env = (false, eval e X.env) :: starEach es X.env := by rfl) (hpl : (backTo pos (starEach es X.env)).any (·.1) = false := by rfl) :
  PEX X (.Call (.Name x p) (e :: es) [] pos) (tXC X.K (zBm G gr)) := by
 intro pins s σ H Q XW I hp ⟨F0, H₀, ρ, r, S, q, kk⟩ hx
 obtain ⟨xs, e1, q⟩ := bnd q
 refine wpAny_Call_Name_kw (zCi I hg hm ?_ hdb)
 refine callWith_K (h₀ := X.base) I.ok.mod.kin hk (thn (ha pos pins s σ H (fun vs H1 => spX X.K n G vs H1 Q fun cls _ H' => XW cls H') I ⟨F0, H₀, ρ, xs, S, e1, fun F1 H1 vs E1 R1 => ⟨F1, xs, r, hln ρ xs e1, (S.ext E1).fz, R1, q, ?_⟩⟩) fun us s1 ⟨vs, H1, I1, r1, q1⟩ => ⟨I1.kIn, ?_⟩) he hpl
 ·cases r with
  | inl d => exact fun F2 H2 v E2 R2 => kk F2 H2 v (E1.trans E2) R2
  | inr y => exact fun F2 H2 C E2 hC => kk F2 H2 C (E1.trans E2) hC
 ·have hl : (us ++ []).length = ps.length := by rw [List.append_nil, <- r1.length]; exact F.len _ _ _ _ q1
  have hbt := hb s1 us I1.kIn hl
  rw [List.append_nil] at hbt
  refine wpAny_call (codeAny_mono (F.run X.A X.stack s1 H1 ⟨us, []⟩ us vs Q (fun cls _ H' => XW cls H') hr I1.env0 hbt r1 q1) fun r s' hq => ?_)
  cases r with
  | error e =>
   have hq' : CX1 X.prog X.w X.stack H1 s1 (fun cls _ H' => XW cls H') e s' := hq
   obtain ⟨a, C, tr, H', rfl, I', T', q'⟩ := zOj hp I1 hq'
   exact hx _ H' s' a tr q' I' T'
  | ok fl =>
   cases fl with
   | ret u => exact I1.after hq
   | next => exact False.elim hq
   | brk => exact False.elim hq
   | cont => exact False.elim hq
section
variable {X : Cx} {elt tg iter : Expr} {scope : Scope} {pos : Pos} {N' : List Str} {inner : List (Option Nat)} {wi : TI} {g : TG} {te : L2.St -> Hp -> VK -> (Value -> Hp -> Prop) -> Prop}
theorem zKQ (hex : X.ex = []) (hst : X.stack = X.env :: X.outer) (hfr : X.env.frame = some X.env.locals) (hc : X.calm = true) (CS : zBB X N' scope inner) (hg : ∀ cl C fp s H E, PG ((inCx X N' scope cl C fp s H).wish E) tg g) (he : ∀ cl C fp s H E, PEX ((inCx X N' scope cl C fp s H).wish E) elt te)
  {pins : List (Addr × Obj)} {σ : L2.St} {s2 : Shared} {H2 : Hp} {it : Addr} {fp : List Addr} {tn : Nat -> Heap -> Prop} {J : It} {cl : List (Str × Addr)} {Q : VK} {XW : Value -> Hp -> Prop} {RR : Value -> Addr -> Result -> Shared -> Prop}
  (c1 : ∀ x c, cl.lookup x = some c -> X.env.cells.lookup x = some c) (c2 : ∀ x, (x, NameKind.free) ∈ scope.names -> ∃ c, cl.lookup x = some c) (c3 : ∀ x c, cl.lookup x = some c -> (x, NameKind.free) ∈ scope.names)
  (I2 : Inv X pins σ H2 s2) (T : Turn X.prog X.w X.K tg J fp it tn) (t0 : tn 0 s2.heap) (f2 : ∀ b ∈ fp, FpOk X pins H2 b)
  (q : ∀ D, H2 D = none -> ∃ W : Nat -> Nat -> L2.St -> Hp -> Prop, (∃ m, W 0 m (inSt inner σ) (upd H2 D (.lst []))) /\ ∀ i m σ' H', W i m σ' H' ->
   (J.stop i H' /\ Q (.ref D) H') ∨ (J.go i H' /\ ∀ x H3, J.yld i H' x H3 -> g x σ' H3 fun σ3 H3 => te σ3 H3 (fun y H5 => ∃ ys, H5 D = some (.lst ys) /\ ys.length < sizeLine /\ ∃ m', m' < m /\ W (i + 1) m' σ3 (upd H5 D (.lst (ys ++ [y])))) XW))
  (fin : ∀ (D C : Addr) (H' : Hp) (s5 : Shared) (m : Str -> Option Value), s5.heap.Ns C m -> Q (.ref D) H' -> (∀ h', Heap.SameBut C s5.heap h' -> Inv X pins σ H' { s5 with heap := h' }) -> RR (.ref D) C (.ok .next) s5)
  (finE : ∀ (D C a Tr : Addr) (cls : Value) (H' : Hp) (s5 : Shared) (m : Str -> Option Value), s5.heap.Ns C m -> XW cls H' -> (∀ h', Heap.SameBut C s5.heap h' -> Inv X pins σ H' { s5 with heap := h' } /\ zFr X pins H' { s5 with heap := h' } a cls Tr) -> RR (.ref D) C (.error (.ref a)) s5) :
  wpAny (model X.prog X.w) X.A (newList []) (fun acc s₃ => wpAny (model X.prog X.w) X.A (newFunctionEnv scope X.env.globals cl [] X.env.qual none .none (some X.env)) (fun cenv s₄ =>
   codeAny (model X.prog X.w) X.A (.compStart (.ListComp elt [⟨tg, iter, [], 0⟩] scope pos) 0 (.ref it) acc { cenv with scope := relabel scope X.env }) (RR acc cenv.locals) s₄) X.xe s₃) X.xe s2 := by
 refine wpAny_newList ?_
 have hD : H2 s2.heap.objs.size = none := I2.hok.fresh (Nat.le_refl _)
 generalize hs3 : ({ s2 with heap := s2.heap.push { cls := .type "list", data := .seq ([] : List Value).toArray } } : Shared) = s3
 have k23 : ∀ b o, s2.heap.get? b = some o -> s3.heap.get? b = some o := fun b o e => by rw [<- hs3]; exact Heap.get?_push_of_some _ e
 have sz3 : s3.heap.objs.size = s2.heap.objs.size + 1 := by rw [<- hs3]; exact Heap.size_push _ _
 have I3 : Inv X pins σ (upd H2 s2.heap.objs.size (.lst [])) s3 := by
  rw [<- hs3]
  exact I2.laid (t' := s2.toks) (o := .lst []) (fun b o e => Heap.get?_push_of_some _ e) (Nat.le_refl _) ⟨Nat.zero_le _, [], 0, .nil, Heap.get?_push_size _ rfl⟩
 have ffl : ∀ b ∈ fp, b < s2.heap.objs.size := fun b hb => by
  obtain ⟨o, e, _⟩ := T.obj 0 _ t0 b hb
  exact Heap.lt_size e
 have f3 : ∀ b ∈ fp, FpOk X pins (upd H2 s2.heap.objs.size (.lst [])) b := fun b hb => by
  obtain ⟨g0, g1⟩ := f2 b hb
  exact ⟨by rw [zAl (Nat.ne_of_lt (ffl b hb))]; exact g0, g1⟩
 have t3 : tn 0 s3.heap := T.keep _ _ _ t0 fun b _ o e => k23 b o e
 obtain ⟨W, ⟨m0, w0⟩, step⟩ := q _ hD
 refine wpAny_newFunctionEnv (fun x hx => CS.nocell x hx) (by intro y hy; simp at hy) (fun h₁ hns₁ hsb₁ => ?_) CS.kind
 try dsimp only at hns₁ hsb₁ ⊢
 have k34 : ∀ b o, s3.heap.get? b = some o -> h₁.get? b = some o := fun b o e => hsb₁.extBut b o (Nat.ne_of_lt (Heap.lt_size e)) (Heap.get?_push_of_some _ e)
 have hns : h₁.Ns s3.heap.objs.size fun _ => none := by
  have : (fun x => ([] : List (Str × Value)).reverse.lookup x) = (fun _ => none : Str -> Option Value) := by funext x; rfl
  rw [this] at hns₁; exact hns₁
 generalize hs4 : ({ s3 with heap := h₁, toks := s3.toks + ([] : List (Str × Value)).length } : Shared) = s4
 have I4 : Inv (inCx X N' scope cl s3.heap.objs.size fp s3 (upd H2 s2.heap.objs.size (.lst []))) [] (inSt inner σ) (upd H2 s2.heap.objs.size (.lst [])) s4 :=
  zIL CS I3 f3 c1 c2 c3 (fun b hb => by rw [sz3]; exact Nat.lt_succ_of_lt (ffl b hb)) rfl k34 hns hs4.symm
 have t4 : tn 0 s4.heap := by rw [<- hs4]; exact T.keep _ _ _ t3 fun b _ o e => k34 b o e
 obtain ⟨XX, hXX⟩ : ∃ XX : Cx, XX = inCx X N' scope cl s3.heap.objs.size fp s3 (upd H2 s2.heap.objs.size (.lst [])) := ⟨_, rfl⟩
 obtain ⟨XE, hXE⟩ : ∃ XE : Value -> Shared -> Prop, XE = notedBy (model X.prog X.w) X.A (compEnvC scope cl s3.heap.objs.size X.env) fun x s' => RR (.ref s2.heap.objs.size) s3.heap.objs.size (.error x) s' := ⟨_, rfl⟩
 show codeAny (model X.prog X.w) X.A (.compStart (.ListComp elt [⟨tg, iter, [], 0⟩] scope pos) 0 (.ref it) (.ref s2.heap.objs.size) (compEnvC scope cl s3.heap.objs.size X.env)) (RR (.ref s2.heap.objs.size) s3.heap.objs.size) s4
 have loop : codeAny (model X.prog X.w) X.A (.compLoop (.ListComp elt [⟨tg, iter, [], 0⟩] scope pos) 0 (.ref it) (.ref s2.heap.objs.size) (compEnvC scope cl s3.heap.objs.size X.env)) (RR (.ref s2.heap.objs.size) s3.heap.objs.size) s4 := by
  refine codeAny_loop rfl (fun m s' => ∃ i σ' H', Inv (inCx X N' scope cl s3.heap.objs.size fp s3 (upd H2 s2.heap.objs.size (.lst []))) [] σ' H' s' /\ tn i s'.heap /\ (∀ b ∈ fp, H' b = none) /\ W i m σ' H') (fun m s' hI => ?_) m0 ⟨0, _, _, I4, t4, fun b hb => (f3 b hb).1, w0⟩
  obtain ⟨i, σ', H', I'0, t', fr', w'⟩ := hI
  have I' := I'0.wish XE
  have fx : ∀ {H'' : Hp}, (∀ b ∈ fp, H'' b = none) -> ∀ b ∈ fp, FpOk ((inCx X N' scope cl s3.heap.objs.size fp s3 (upd H2 s2.heap.objs.size (.lst []))).wish XE) [] H'' b := fun {H''} z b hb =>
   ⟨z b hb, (I4.ok.exf b hb).1, I4.ok.exfs b hb, .inl hb, fun x c e => (I4.ok.exf b hb).2 x c e, fun p hp => absurd (show p ∈ ([] : List (Addr × Obj)) from hp) (by simp)⟩
  show wpAny _ X.A ((compTurn (.ListComp elt [⟨tg, iter, [], 0⟩] scope pos) 0 (.ref it) (.ref s2.heap.objs.size) (compEnvC scope cl s3.heap.objs.size X.env)).onRaise (fun x => do noteFrame x (compEnvC scope cl s3.heap.objs.size X.env); theTreesLotGoes x)) _ _ s'
  refine wpAny_noted ?_
  rw [<- hXE, compTurn_list]
  refine wpAny_bind (wpAny_standAt (wpAny_bind ?_))
  rcases step i m σ' H' w' with ⟨stop, qn⟩ | ⟨go, nxt⟩
  ·refine wpAny_mono (T.done ((inCx X N' scope cl s3.heap.objs.size fp s3 (upd H2 s2.heap.objs.size (.lst []))).wish XE) rfl rfl rfl hc i [] s' σ' H' (fun _ _ => False) I' (fx fr') t' stop) (fun r s5 hr => ?_) fun _ _ z => z.elim
   obtain ⟨hr, I5⟩ := hr
   subst hr
   obtain ⟨m5, hm5, _⟩ := id I5.loc
   exact wpAny_pure (fin _ _ H' s5 m5 hm5 qn (fun h' sb => zEo I3 f3 rfl I5.unwish sb))
  ·refine wpAny_mono (T.item ((inCx X N' scope cl s3.heap.objs.size fp s3 (upd H2 s2.heap.objs.size (.lst []))).wish XE) rfl rfl rfl hc i [] s' σ' H' (fun _ _ => False) I' (fx fr') t' go) (fun r s5 hr => ?_) fun _ _ z => z.elim
   obtain ⟨u, hr, h5⟩ := hr
   subst hr
   refine wpAny_bind (wpAny_mono h5 (fun _ s6 h6 => ?_) fun _ _ z => z.elim)
   obtain ⟨x, H6, I6, r6, y6, t6, fr6⟩ := h6
   have I6' := I6.pinned (fx fr6) (T.obj _ _ t6)
   have pinned : ∀ b ∈ fp, ∃ o, (b, o) ∈ [] ++ zB6 fp s6.heap := fun b hb => by
    obtain ⟨o, e, _⟩ := T.obj _ _ t6 b hb
    exact ⟨o, List.mem_append_right _ (zB8 hb e)⟩
   have back : ∀ {m' : Nat} {σ7 : L2.St} {H7 : Hp} {s7 : Shared}, Inv ((inCx X N' scope cl s3.heap.objs.size fp s3 (upd H2 s2.heap.objs.size (.lst []))).wish XE) ([] ++ zB6 fp s6.heap) σ7 H7 s7 -> m' < m -> W (i + 1) m' σ7 H7 ->
     ∃ m', m' < m /\ ∃ i σ' H', Inv (inCx X N' scope cl s3.heap.objs.size fp s3 (upd H2 s2.heap.objs.size (.lst []))) [] σ' H' s7 /\ tn i s7.heap /\ (∀ b ∈ fp, H' b = none) /\ W i m' σ' H' := fun {m' σ7 H7 s7} I7 lt w7 => by
    refine ⟨m', lt, i + 1, σ7, H7, I7.unpinned.unwish, T.keep _ _ _ t6 fun b hb o e => (I7.pin (b, o) (List.mem_append_right _ (List.mem_append_right _ (zB8 hb e)))).1, fun b hb => ?_, w7⟩
    obtain ⟨o, e, _⟩ := T.obj _ _ t6 b hb
    exact (I7.pin (b, o) (List.mem_append_right _ (List.mem_append_right _ (zB8 hb e)))).2.1
   refine wpAny_bind (wpAny_mono (hg _ _ _ _ _ XE _ s6 σ' H6 x u _ I6' r6 (nxt x H6 y6)) (fun _ s7 h7 => ?_) fun e s7 z => z)
   obtain ⟨σ7, H7, I7, q7⟩ := h7
   refine wpAny_bind (wpAny_tests_nil ?_)
   simp only [if_true]
   refine wpAny_bind (wpAny_bind (wpAny_mono (he _ _ _ _ _ XE _ s7 σ7 H7 _ XW I7 (fun b hb => ?_) q7 ?_) (fun y s9 h9 => ?_) fun e s9 z => z))
   ·obtain ⟨o, ho⟩ := pinned b hb
    exact ⟨o, List.mem_append_right _ ho⟩
   ·intro cls H9 s9 a tr xw I9 T9
    show XE (.ref a) s9
    rw [hXE]
    have frE : X.A.frames = some (X.env :: X.outer) := by rw [I3.ok.frames, hst]
    have stE : s9.heap.FunFrames X.base (X.env :: X.outer) := by
     have := I9.stack
     rw [show ((inCx X N' scope cl s3.heap.objs.size fp s3 (upd H2 s2.heap.objs.size (.lst []))).wish XE).stack = X.stack from rfl, hst] at this
     exact this
    refine note1 (env := X.env) (outer := X.outer) frE stE hfr rfl T9.fly fun h' Tr hTr F' K' => ?_
    have K2 : Kept (frs ((inCx X N' scope cl s3.heap.objs.size fp s3 (upd H2 s2.heap.objs.size (.lst []))).wish XE).stack) (fun b => b = a ∨ some b = tr) s9.heap h' := by
     rw [show ((inCx X N' scope cl s3.heap.objs.size fp s3 (upd H2 s2.heap.objs.size (.lst []))).wish XE).stack = X.stack from rfl, hst]
     exact K'
    have J := zD8 I9 (fun b hb => T9.new b hb) K2
    obtain ⟨m9, hm9, _⟩ := id J.loc
    have sz9 : s3.heap.objs.size <= s9.heap.objs.size := I9.sz
    have n3 : ∀ b, (b = a ∨ b = Tr) -> s3.heap.get? b = none /\ H9 b = none /\ b ≠ s3.heap.objs.size := fun b hb => by
     rcases hb with rfl | rfl
     ·have z := T9.new b (.inl rfl)
      exact ⟨z.1, z.2.1, z.2.2.1⟩
     ·refine ⟨Heap.get?_none_of_le (Nat.le_trans sz9 hTr), I9.hok.fresh hTr, ?_⟩
      obtain ⟨mm, ⟨ol, _, _, hol, _⟩, _⟩ := I9.loc
      have lt9 : s3.heap.objs.size < s9.heap.objs.size := Heap.lt_size hol
      exact Nat.ne_of_gt (Nat.lt_of_lt_of_le lt9 hTr)
    refine finE _ _ a Tr cls H9 _ m9 hm9 xw fun h'' sb => ⟨zEo I3 f3 rfl (Inv.unwish J.unpinned) sb, ?_, fun b hb => ?_⟩
    ·obtain ⟨oe, vs, v1, v2, v3, v4, v5, oT, ts, v, v6, v7, v8⟩ := F'
     exact ⟨oe, vs, (sb.2 a (n3 a (.inl rfl)).2.2).trans v1, v2, v3, v4, v5, oT, ts, v, (sb.2 Tr (n3 Tr (.inr rfl)).2.2).trans v6, v7, v8⟩
    ·obtain ⟨z1, z2, z3⟩ := n3 b hb
     refine ⟨?_, z2, zDt I3 z1, zDd I3 z1, zDc I3 z1⟩
     rcases zCV I3 z1 with z | z
     ·exact z
     ·rw [hex] at z; cases z
   ·obtain ⟨yv, H9, I9, r9, ys, d9, l9, m', lt, w9⟩ := h9
    refine wpAny_bind (wpAny_mono (zFp (X := (inCx X N' scope cl s3.heap.objs.size fp s3 (upd H2 s2.heap.objs.size (.lst []))).wish XE) _ s9 σ7 H9 (.ref s2.heap.objs.size) [yv] _ [y] (fun v H' => H' = upd H9 s2.heap.objs.size (.lst (ys ++ [yv]))) I9 rfl (.cons r9 .nil) ⟨_, ys, yv, rfl, rfl, d9, l9, rfl⟩) (fun _ s10 h10 => ?_) fun e s10 z => z)
    obtain ⟨_, H10, I10, _, e10⟩ := h10
    subst e10
    exact wpAny_pure (wpAny_pure ⟨rfl, back I10 lt w9⟩)
 exact codeAny_compStart_list loop (T.self X.A 0 s4 _ _ t4 loop)
end
end EX
namespace EX
open PySem PySem.Spec PyProof.Rows L2 DL CL PySem.W
section
variable {X : Cx} {elt tg iter : Expr} {scope : Scope} {pos : Pos} {N' : List Str} {inner : List (Option Nat)} {wi : TI} {g : TG} {te : L2.St -> Hp -> VK -> (Value -> Hp -> Prop) -> Prop}
noncomputable def tCX (wi : TI) (g : TG) (te : L2.St -> Hp -> VK -> (Value -> Hp -> Prop) -> Prop) (inner : List (Option Nat)) (σ : L2.St) (H : Hp) (Q : VK) (XW : Value -> Hp -> Prop) : Prop := wi σ H fun J H1 => ∀ D, H1 D = none -> ∃ W : Nat -> Nat -> L2.St -> Hp -> Prop, (∃ m, W 0 m (inSt inner σ) (upd H1 D (.lst []))) /\ ∀ i m σ' H', W i m σ' H' ->
 (J.stop i H' /\ Q (.ref D) H') ∨ (J.go i H' /\ ∀ x H3, J.yld i H' x H3 -> g x σ' H3 fun σ3 H3 => te σ3 H3 (fun y H5 => ∃ ys, H5 D = some (.lst ys) /\ ys.length < sizeLine /\ ∃ m', m' < m /\ W (i + 1) m' σ3 (upd H5 D (.lst (ys ++ [y])))) XW)
noncomputable def tCXE (X : Cx) (wi : TI) (g : TG) (te : L2.St -> Hp -> VK -> (Value -> Hp -> Prop) -> Prop) (inner : List (Option Nat)) : TE := fun σ H Q => ∃ XW : Value -> Hp -> Prop, tCX wi g te inner σ H Q XW /\ ∀ pins H' s' a T cls, XW cls H' -> Inv X pins σ H' s' -> zFr X pins H' s' a cls T -> X.xe (.ref a) s'
theorem zMz (hex : X.ex = []) (hst : X.stack = X.env :: X.outer) (hfr : X.env.frame = some X.env.locals) (hc : X.calm = true) (CS : zBB X N' scope inner) (hi : PI X tg iter wi) (hg : ∀ cl C fp s H E, PG ((inCx X N' scope cl C fp s H).wish E) tg g) (he : ∀ cl C fp s H E, PEX ((inCx X N' scope cl C fp s H).wish E) elt te)
  (hs : ∀ x, foldedSetIterable iter X.env x = pure x := by intro _; rfl) : PE X (.ListComp elt [⟨tg, iter, [], 0⟩] scope pos) (tCXE X wi g te inner) := by
 intro pins s σ H Q I ⟨XW, h, exw⟩
 obtain ⟨cl, hcl, c1, c2, c3⟩ := clos (env := X.env) (scope := scope) fun x hx hk => I.ok.has x.1 (CS.free x hx hk).2
 rw [eval_ListComp]
 refine wpAny_comprehension_free (use := none) rfl hs hcl CS.kind CS.loc (thn (hi pins s σ H _ I h) fun xv s1 h1 => thn h1 fun itv s2 h2 => ?_)
 obtain ⟨it, fp, tn, J, H2, rfl, I2, T, t0, f2, q⟩ := h2
 refine zKQ (RR := fun acc C => compPost (model X.prog X.w) X.A X.xe none (EP X pins σ Q) acc C) hex hst hfr hc CS hg he c1 c2 c3 I2 T t0 f2 q ?_ ?_
 ·intro D C H' s5 m hm hq hI
  exact ⟨m, hm, fun h' sb => ⟨.ref D, H', hI h' sb, rfl, hq⟩⟩
 ·intro D C a Tr cls H' s5 m hm xw hI
  refine ⟨m, hm, fun h' sb cenv _ => ?_⟩
  obtain ⟨I5, T5⟩ := hI h' sb
  refine zL0 (s := { s5 with heap := h' }) T5.fly fun h'' F'' oth => ?_
  have I6 := zD8 (h' := h'') (no := (· = Tr)) I5 (fun b hb => by rw [hb]; exact T5.new _ (.inr rfl)) ⟨fun b o hb _ e => (oth b hb).trans e, fun b o hb e => ⟨o.slots, (oth b hb).trans e⟩⟩
  exact exw pins H' _ a Tr cls xw I6 ⟨F'', fun b hb => T5.new b hb⟩
end
noncomputable def zBU (s : D -> Rho -> Option Rho) (gx : Rho -> Option R) : List D -> Rho -> Option (Sum (List D) Str)
 | [], _ => some (.inl [])
 | d :: ds, ρ => (s d ρ).bind fun ρ1 => (gx ρ1).bind fun r => match r with
  | .inr x => some (.inr x)
  | .inl y => (zBU s gx ds ρ1).bind fun r2 => match r2 with
   | .inl ys => some (.inl (y :: ys))
   | .inr x => some (.inr x)
noncomputable def zFD (gi : Rho -> Option (List D)) (s : D -> Rho -> Option Rho) (gx : Rho -> Option R) (inner : List (Option Nat)) : Rho -> Option R :=
 fun ρ => (gi ρ).bind fun xs => if xs.length <= 1000 then (zBU s gx xs (zA6 inner ρ)).bind fun r => match r with
  | .inl out => some (.inl (.list out))
  | .inr x => some (.inr x) else none
noncomputable def comb (don : List D) : Sum (List D) Str -> Sum (List D) Str
 | .inl l => .inl (don ++ l)
 | .inr x => .inr x
section
variable {X : Cx} {elt tg iter : Expr} {scope : Scope} {pos : Pos} {N' : List Str} {inner : List (Option Nat)} {gi : Rho -> Option (List D)} {s : D -> Rho -> Option Rho} {gx : Rho -> Option R}
theorem zMK (kp : zBZ s) {σ : L2.St} {H : Hp} {Q : VK} {XW : Value -> Hp -> Prop} {F : Addr -> Prop} {H₀ : Hp} {ρ : Rho} {r : R} (S : StOk X.K F H H₀ σ ρ) (q : zFD gi s gx inner ρ = some r)
  (fin : match r with
   | .inl d => ∀ F' H' v, Ext F F' H H' -> Rep X.K F' H' d v -> Q v H'
   | .inr x => ∀ F' H' C, Ext F F' H H' -> nsIn X.K mainGlobals x = some (some (.ref C)) -> XW (.ref C) H') :
  tCX (tDI X.K gi) (tDG X.K s) (tXC X.K gx) inner σ H Q XW := by
 obtain ⟨xs, e1, q⟩ := bnd q
 split at q
 next hl =>
  obtain ⟨rr, e2, q⟩ := bnd q
  refine ⟨F, H₀, ρ, xs, S, e1, fun F1 H1 J E1 I1 D' hD => ?_⟩
  have S1 := S.ext E1
  refine ⟨fun i m σ' H' => ∃ F2 ρ2 vs don rst, m = xs.length - i /\ i <= xs.length /\ don.length = i /\ Ext F1 F2 H1 H' /\ Stay X.K F1 F2 H1 H' /\ StOk X.K F2 H' H1 σ' ρ2 /\ zBv ρ2 /\ H' D' = some (.lst vs) /\ ¬ F2 D' /\ Reps X.K F2 H' don vs /\ zBU s gx (xs.drop i) ρ2 = some rst /\ comb don rst = rr /\
    (∀ b o, b ≠ D' -> H1 b = some o -> H' b = some o), ?_, ?_⟩
  ·have E2 : Ext F1 F1 H1 (upd H1 D' (.lst [])) := Ext.fresh hD
   refine ⟨xs.length, F1, zA6 inner ρ, [], [], rr, by simp, Nat.zero_le _, rfl, E2, E2.stay, ?_, zC1 inner ρ, zA1, fun f => S1.fz _ f hD, .nil, by simpa using e2, by cases rr <;> rfl, fun b o nb e => by rw [zAl nb]; exact e⟩
   exact (S1.inner inner).plain (zC1 inner ρ) E2.stay (E2.fz S1.fz)
  ·rintro i m σ' H' ⟨F2, ρ2, vs, don, rst, rfl, hi, hdl, E2, T2, S2, pl, dD, nf, rd, ec, eo, kp2⟩
   obtain ⟨it1, it2⟩ := I1 F2 H' T2 S2.fz i
   by_cases hlt : i < xs.length
   ·right
    have hget : xs[i]? = some xs[i] := by simp [hlt]
    obtain ⟨go, yld⟩ := it1 _ hget
    rw [List.drop_eq_getElem_cons hlt] at ec
    obtain ⟨ρ3, e3, ec⟩ := bnd ec
    obtain ⟨rx, e4, ec⟩ := bnd ec
    refine ⟨go, fun x H3 y => ?_⟩
    obtain ⟨F3, E3, R3⟩ := yld x H3 y
    have pl3 := kp _ _ _ pl e3
    refine ⟨F3, H1, ρ2, xs[i], ρ3, S2.ext E3, R3, e3, fun σ5 S5 => ⟨F3, H1, ρ3, rx, S5, e4, ?_⟩⟩
    cases rx with
    | inr z =>
     cases ec
     cases eo
     cases q
     exact fun F' H' C E' hC => fin F' H' C ((E1.trans E2).trans (E3.trans E')) hC
    | inl yd =>
     obtain ⟨r', e6, ec⟩ := bnd ec
     intro F7 H7 yv E7 R7
     have E37 := E3.trans E7
     have d7 : H7 D' = some (.lst vs) := E37.same _ _ dD
     have nf7 : ¬ F7 D' := fun f => by
      rcases E37.new _ f with f | ⟨f, _⟩
      ·exact nf f
      ·rw [dD] at f; cases f
     have T8 : Stay X.K F7 F7 H7 (upd H7 D' (.lst (vs ++ [yv]))) := zH6 d7 nf7
     have S7 := S5.ext E7
     have E8 : Ext F1 F7 H1 (upd H7 D' (.lst (vs ++ [yv]))) := (E2.trans E37).turn hD
     have ll : vs.length < 1000 := by
      have h1 := rd.length
      omega
     refine ⟨vs, d7, zEc (Nat.le_of_lt ll), xs.length - (i + 1), by omega, F7, ρ3, vs ++ [yv], don ++ [yd], r', rfl, hlt, by rw [List.length_append, hdl]; rfl, E8, (T2.trans E37.stay).trans T8, S7.plain pl3 T8 (E8.fz S1.fz), pl3, zA1, nf7, ?_, e6, ?_, fun b o nb e => ?_⟩
     ·exact ((rd.stay E37.stay).append (.cons R7 .nil)).stay T8
     ·rw [<- eo]
      cases r' with
      | inl l => cases ec; show Sum.inl _ = Sum.inl _; rw [List.append_assoc]; rfl
      | inr z => cases ec; rfl
     ·rw [zAl nb]; exact E37.same _ _ (kp2 b o nb e)
   ·left
    have hge : xs.length <= i := Nat.le_of_not_lt hlt
    refine ⟨it2 hge, ?_⟩
    rw [List.drop_eq_nil_of_le hge] at ec
    cases ec
    cases eo
    have q' : some (Sum.inl (PyData.list (don ++ []))) = some r := q
    rw [List.append_nil] at q'
    cases q'
    have hH : H D' = none := E1.same.free hD
    have EE : Ext F F2 H H' := E1.trans E2
    refine fin (fun a => F2 a ∨ a = D') H' _ ⟨EE.same, fun a f => .inl (EE.up a f), fun a f => ?_⟩ (.lst (.inl ⟨.inr rfl, .inl dD⟩) (rd.stay ⟨fun _ f => .inl f, fun _ _ f => f, fun _ _ _ f => f, fun _ _ _ f => f⟩))
    rcases f with f | rfl
    ·exact EE.new a f
    ·exact .inr ⟨hH, by rw [dD]; simp⟩
 next => cases q
end
noncomputable def fnXC (m : Nat) (g : Rho -> Option R) : List D -> Option R := fun ds => g (zAF m ds)
theorem fn_XC {P : Program} {w : World} {K : PySem.W.Frag} {mg : Str -> Option Value} {base : Heap} {x qual : Str} {st : Stmt} {f : Addr} {fd : FuncData} {N ps N' : List Str} {k n m : Nat} {G : List D -> Option R} {elt tg iter : Expr} {scope : Scope} {pos rpos : Pos} {inner : List (Option Nat)} {gi : Rho -> Option (List D)} {s : D -> Rho -> Option Rho} {gx : Rho -> Option R}
  (hG : G = fnXC m (zFD gi s gx inner)) (hn : ps.length = n) (hm : N.length = m) (hbd : zAv st = [.Return (some (.ListComp elt [⟨tg, iter, [], 0⟩] scope pos)) rpos])
  (F : Fun K x qual st f fd) (S : zAx N ps (zAf st)) (kp : zBZ s)
  (hcs : ∀ (cdv : Value) (A : Around) (outer : List Env) (s : Shared) (H : Hp) (E : XK), zBB (cxOf (CX1 P w) P w K mg base N qual (zAf st) f cdv A outer s H E) N' scope inner)
  (hi : ∀ (cdv : Value) (A : Around) (outer : List Env) (s : Shared) (H : Hp) (E : XK), Room k (A.deeper (envOfC qual (zAf st) s.heap.objs.size f cdv)) -> DI (cxOf (CX1 P w) P w K mg base N qual (zAf st) f cdv A outer s H E) tg iter gi)
  (hg : ∀ (cdv : Value) (A : Around) (outer : List Env) (s0 : Shared) (H : Hp) (E : XK) cl C fp s' H' E', DG ((inCx (cxOf (CX1 P w) P w K mg base N qual (zAf st) f cdv A outer s0 H E) N' scope cl C fp s' H').wish E') tg s)
  (he : ∀ (cdv : Value) (A : Around) (outer : List Env) (s : Shared) (H : Hp) (E : XK), Room k (A.deeper (envOfC qual (zAf st) s.heap.objs.size f cdv)) -> ∀ cl C fp s' H' E', PEX ((inCx (cxOf (CX1 P w) P w K mg base N qual (zAf st) f cdv A outer s H E) N' scope cl C fp s' H').wish E') elt (tXC K gx))
  (hs : ∀ (cdv : Value) (s : Shared) y, foldedSetIterable iter (envOfC qual (zAf st) s.heap.objs.size f cdv) y = pure y := by intro _ _ _; rfl) :
  FnOk P w K mg base (CX1 P w) (k + 1) f fd ps (spX K n G) := by
 subst hn hm hG
 obtain ⟨oc, od, kV, doc, pm, an, cdv, ct, osl, rfl, lk, hcd⟩ := F.ex
 refine zFA lk hcd S (fun vs H Q E h => ?_) fun A outer s0 H vs Q E hr h => ?_
 ·obtain ⟨F, ds, d, hl, _, r, _⟩ := h
  rw [<- r.length, hl]
 ·obtain ⟨F, ds, o, hl, z, r, q, kk⟩ := h
  rw [hbd]
  refine ⟨_, zHj (zEI (zMz (wi := tDI K gi) (g := tDG K s) (te := tXC K gx) rfl rfl rfl rfl (hcs cdv A outer s0 H E) (hi cdv A outer s0 H E hr) (fun cl C fp s' H' E' => hg cdv A outer s0 H E cl C fp s' H' E') (fun cl C fp s' H' E' => he cdv A outer s0 H E hr cl C fp s' H' E') (hs cdv s0))), ?_⟩
  refine ⟨fun cls H' => ∃ C, cls = .ref C /\ E (.ref C) none H', ?_, ?_⟩
  ·refine zMK (X := cxOf (CX1 P w) P w K mg base N qual (zAf st) f cdv A outer s0 H E) kp (zBO z r) q ?_
   cases o with
   | inl d => exact fun F' H' v E' R' => kk F' H' v E' R'
   | inr y => exact fun F' H' C E' hC => ⟨C, rfl, kk F' H' C E' hC⟩
  ·rintro pins H' s' a T cls ⟨C, rfl, hE⟩ I' W'
   exact zOf I' W' hE
end EX
namespace My
open PySem PySem.Spec PySem.SeqAt PyProof.Rows L2 CL DL SD ZL SL EL DC EX TX TB
noncomputable def top (i : Nat) : Stmt := PySem.Challenge.pw_lampfloor_k91_books.main.body.getD i (.Pass ⟨0, 0, 0, 0⟩)
abbrev s_qc : Stmt := top 5
abbrev s_qg : Stmt := top 11
abbrev s_qb : Stmt := top 14
abbrev s_q5 : Stmt := top 21
abbrev s_q1 : Stmt := top 24
abbrev s_q2 : Stmt := top 25
abbrev s_qe : Stmt := top 6
abbrev s_q0 : Stmt := top 7
abbrev s_qf : Stmt := top 13
abbrev s_q4 : Stmt := top 22
abbrev s_qd : Stmt := top 8
abbrev s_q6 : Stmt := top 18
abbrev s_q3 : Stmt := top 23
abbrev s_q8 : Stmt := top 9
abbrev s_qa : Stmt := top 10
abbrev s_qh : Stmt := top 15
abbrev s_q7 : Stmt := top 19
abbrev s_q9 : Stmt := top 26
abbrev s_qi : Stmt := top 27
noncomputable def N_qc : List Str := ["thing"]
theorem sc_qc : zAx N_qc ["thing"] (zAf s_qc) := ⟨rfl, rfl, rfl, by decide +kernel, rfl, by decide +kernel, by decide +kernel⟩
noncomputable def zEF : Rho -> Option Out :=
  (sRet (zB5 (eIs "int" (eV 0)) (zE8 (eIs "bool" (eV 0)))))
noncomputable def zBD : List D -> Option D := fnD 1 zEF
noncomputable def N_qg : List Str := ["things"]
theorem sc_qg : zAx N_qg ["things"] (zAf s_qg) := ⟨rfl, rfl, rfl, by decide +kernel, rfl, by decide +kernel, by decide +kernel⟩
noncomputable def zIa : List Str := ["thing"]
theorem zLV : zIa.Nodup := by decide +kernel
noncomputable def zHt : Rho -> Option Out :=
  (sRet (zAh zFu (zAa (eLc (zAI (iSeq (eV 0)) (zAo 0) eT (eTup (zAa (eV 0) (zAa (eC (.bool true)) eNil))) [none])) eNil)))
noncomputable def zCP : List D -> Option D := fnD 1 zHt
noncomputable def N_qb : List Str := ["rows", "walls", "y", "row"]
theorem zEg : zAx N_qb ["rows"] (zAf s_qb) := ⟨rfl, rfl, rfl, by decide +kernel, rfl, by decide +kernel, by decide +kernel⟩
noncomputable def zG1 : List Str := ["x", "sign", "y"]
theorem zGk : zG1.Nodup := by decide +kernel
noncomputable def zFN : Rho -> Option Out :=
  (sSeq (sOwn 1 eNil)
  (sSeq (sFor (zDv (zAa (eV 0) eNil)) (uTup 2 (zBX (zAo 2) (zBX (zAo 3) uNil))) (sExt 1 (eLc (zAI (zFt (zAa (eV 3) eNil)) (uTup 2 (zBX (zAo 0) (zBX (zAo 1) uNil))) (eB (eOp dEq (eV 1) (eC (.str "#")))) (eTup (zAa (eV 0) (zAa (eV 2) eNil))) [none, none, some 2]))))
  (sRet (zAh zCw (zAa (zAh zCf (zAa (eV 1) eNil)) eNil)))))
noncomputable def zDj : List D -> Option D := fnD 4 zFN
noncomputable def N_q5 : List Str := ["_law_script", "_law_k"]
theorem sc_q5 : zAx N_q5 ["_law_script", "_law_k"] (zAf s_q5) := ⟨rfl, rfl, rfl, by decide +kernel, rfl, by decide +kernel, by decide +kernel⟩
noncomputable def zEd : Rho -> Option Out :=
  (sSeq (sIf (eB (eOp dEq (eV 0) (eLst eNil))) (sRet (eOp zAz (eC (.int 7)) (eV 1))) zAO)
  (sRet (eOp zAu (eOp dIx (eV 0) (eOp dMod (eV 1) (zAh dLen (zAa (eV 0) eNil)))) (eOp zAz (eC (.int 6553)) (eOp zBL (eV 1) (zAh dLen (zAa (eV 0) eNil)))))))
noncomputable def zCh : List D -> Option D := fnD 2 zEd
noncomputable def N_q1 : List Str := ["_law_floor_here", "_law_rows", "_law_y"]
theorem zFc : zAx N_q1 ["_law_floor_here"] (zAf s_q1) := ⟨rfl, rfl, rfl, by decide +kernel, rfl, by decide +kernel, by decide +kernel⟩
noncomputable def zGM : List Str := ["_law_x", "_law_y", "_law_floor_here"]
theorem zJI : zGM.Nodup := by decide +kernel
noncomputable def zFC : Rho -> Option Out :=
  (sSeq (sOwn 1 eNil)
  (sSeq (sFor (zAR (zAa (eOp dIx (eV 0) (eC (.int 1))) eNil)) (zAo 2) (sApp 1 (eOp zA9 (eC (.str "")) (eLc (zAI (zAR (zAa (eOp dIx (eV 0) (eC (.int 0))) eNil)) (zAo 0) eT (eIf (eB (eOp (dIn false) (eTup (zAa (eV 0) (zAa (eV 1) eNil))) (eOp dIx (eV 2) (eC (.int 2))))) (eC (.str "#")) (eC (.str "."))) [none, some 2, some 0])))))
  (sRet (eOp zA9 (eC (.str "\n")) (eV 1)))))
noncomputable def zBz : List D -> Option D := fnD 3 zFC
noncomputable def N_q2 : List Str := ["_law_e", "_law_flags"]
theorem zHz : zAx N_q2 ["_law_e"] (zAf s_q2) := ⟨rfl, rfl, rfl, by decide +kernel, rfl, by decide +kernel, by decide +kernel⟩
noncomputable def zGd : Rho -> Option Out :=
  (sSeq (sSet 1 (eLst (zAa (eIsX [("NoText", true)] (eV 0)) eNil)))
  (sSeq (sIf (eOr (eB (eOp dNe (eOp zE0 (eV 1) (eC (.bool true))) (eC (.int 1)))) (eNot (eB (eIsX [("NoText", true)] (eV 0))))) (sRet (eTup (zAa (eC (.str "refused")) (zAa (eUn dNeg (eC (.int 1))) eNil)))) zAO)
  (sRet (eTup (zAa (eC (.str "refused")) (zAa (eOp zEy (eV 1) (eC (.bool true))) eNil))))))
noncomputable def zDo : List D -> Option D := fnD 2 zGd
noncomputable def N_qe : List Str := ["thing"]
theorem sc_qe : zAx N_qe ["thing"] (zAf s_qe) := ⟨rfl, rfl, rfl, by decide +kernel, rfl, by decide +kernel, by decide +kernel⟩
noncomputable def zEM : Rho -> Option Out :=
  (sRet (zB5 (zAh zBD (zAa (eV 0) eNil)) (zCG dLe dLe (eC (.int 1)) (eV 0) (eC (.int 12)))))
noncomputable def zCa : List D -> Option D := fnD 1 zEM
noncomputable def N_q0 : List Str := ["thing"]
theorem sc_q0 : zAx N_q0 ["thing"] (zAf s_q0) := ⟨rfl, rfl, rfl, by decide +kernel, rfl, by decide +kernel, by decide +kernel⟩
noncomputable def zE9 : Rho -> Option Out :=
  (sSeq (sIf (eOr (eNot (eB (eIs "tuple" (eV 0)))) (eB (eOp dNe (zAh dLen (zAa (eV 0) eNil)) (eC (.int 2))))) (sRet (eC (.bool false))) zAO)
  (sRet (zB5 (zAh zBD (zAa (eOp dIx (eV 0) (eC (.int 0))) eNil)) (zAh zBD (zAa (eOp dIx (eV 0) (eC (.int 1))) eNil)))))
noncomputable def zCS : List D -> Option D := fnD 1 zE9
noncomputable def N_qf : List Str := ["floor", "solids", "rows", "y"]
theorem zDO : zAx N_qf ["floor"] (zAf s_qf) := ⟨rfl, rfl, rfl, by decide +kernel, rfl, by decide +kernel, by decide +kernel⟩
noncomputable def zG0 : List Str := ["x", "solids", "y"]
theorem zOD : zG0.Nodup := by decide +kernel
noncomputable def zFH : Rho -> Option Out :=
  (sSeq (sSet 1 (zAh zCP (zAa (eOp dIx (eV 0) (eC (.int 2))) eNil)))
  (sSeq (sOwn 2 eNil)
  (sSeq (sFor (zAR (zAa (eOp dIx (eV 0) (eC (.int 1))) eNil)) (zAo 3) (sApp 2 (eOp zA9 (eC (.str "")) (eLc (zAI (zAR (zAa (eOp dIx (eV 0) (eC (.int 0))) eNil)) (zAo 0) eT (eIf (eB (eOp (dIn2 false) (eTup (zAa (eV 0) (zAa (eV 2) eNil))) (eV 1))) (eC (.str "#")) (eC (.str "."))) [none, some 1, some 3])))))
  (sRet (eOp zA9 (eC (.str "\n")) (eV 2))))))
noncomputable def zBE : List D -> Option D := fnD 4 zFH
noncomputable def N_q4 : List Str := ["_law_script", "_law_k", "_law_many", "_law_cell_here"]
theorem zFl : zAx N_q4 ["_law_script", "_law_k", "_law_many"] (zAf s_q4) := ⟨rfl, rfl, rfl, by decide +kernel, rfl, by decide +kernel, by decide +kernel⟩
noncomputable def zEx : Rho -> Option Out :=
  (sSeq (sSet 3 (eOp dMod (eOp zAu (eOp zAz (eOp dMod (zAh zCh (zAa (eV 0) (zAa (eV 1) eNil))) (eC (.int 2147483563))) (eC (.int 69069))) (eOp zAz (eC (.int 104723)) (eOp zAu (eV 1) (eC (.int 1))))) (eC (.int 2147483563))))
  (sSeq (sSet 3 (eOp dMod (eOp zAu (eOp zAz (eV 3) (eV 3)) (eOp zBL (eV 3) (eC (.int 3)))) (eC (.int 2147483399))))
  (sRet (eOp dMod (eOp zBL (eOp dMod (eOp zAu (eOp zAz (eV 3) (eV 3)) (eOp zBL (eV 3) (eC (.int 7)))) (eC (.int 2147483647))) (eC (.int 11))) (eV 2)))))
noncomputable def zAH : List D -> Option D := fnD 4 zEx
noncomputable def N_qd : List Str := ["floor", "thing"]
theorem sc_qd : zAx N_qd ["floor", "thing"] (zAf s_qd) := ⟨rfl, rfl, rfl, by decide +kernel, rfl, by decide +kernel, by decide +kernel⟩
noncomputable def zEw : Rho -> Option Out :=
  (sSeq (sIf (eNot (eB (zAh zCS (zAa (eV 1) eNil)))) (sRet (eC (.bool false))) zAO)
  (sRet (zB5 (zCG dLe dLt2 (eC (.int 0)) (eOp dIx (eV 1) (eC (.int 0))) (eOp dIx (eV 0) (eC (.int 0)))) (zCG dLe dLt2 (eC (.int 0)) (eOp dIx (eV 1) (eC (.int 1))) (eOp dIx (eV 0) (eC (.int 1)))))))
noncomputable def zCe : List D -> Option D := fnD 2 zEw
noncomputable def N_q6 : List Str := ["floors"]
theorem sc_q6 : zAx N_q6 ["floors"] (zAf s_q6) := ⟨rfl, rfl, rfl, by decide +kernel, rfl, by decide +kernel, by decide +kernel⟩
noncomputable def zF9 : List Str := ["floor"]
theorem zKF : zF9.Nodup := by decide +kernel
noncomputable def zHA : Rho -> Option Out :=
  (sRet (eOp zA9 (eC (.str "\n\n")) (eLc (zAI (iSeq (eV 0)) (zAo 0) eT (zAh zBE (zAa (eV 0) eNil)) [none]))))
noncomputable def zDl : List D -> Option D := fnD 1 zHA
noncomputable def N_q3 : List Str := ["_law_script", "_law_at", "_law_most", "_law_wide", "_law_high", "_law_rate", "_law_shuts", "_law_x"]
theorem zCr : zAx N_q3 ["_law_script", "_law_at", "_law_most"] (zAf s_q3) := ⟨rfl, rfl, rfl, by decide +kernel, rfl, by decide +kernel, by decide +kernel⟩
noncomputable def zIS : List Str := ["_law_y", "_law_x", "_law_script", "_law_rate", "_law_at"]
theorem zMf : zIS.Nodup := by decide +kernel
noncomputable def zFJ : Rho -> Option Out :=
  (sSeq (sSet 3 (eOp zAu (eC (.int 1)) (zAh zAH (zAa (eV 0) (zAa (eV 1) (zAa (eV 2) eNil))))))
  (sSeq (sSet 4 (eOp zAu (eC (.int 1)) (zAh zAH (zAa (eV 0) (zAa (eOp zAu (eV 1) (eC (.int 1))) (zAa (eV 2) eNil))))))
  (sSeq (sSet 5 (eOp dIx (eLst (zAa (eC (.int 2)) (zAa (eC (.int 3)) (zAa (eC (.int 3)) (zAa (eC (.int 5)) (zAa (eC (.int 9)) eNil)))))) (zAh zAH (zAa (eV 0) (zAa (eOp zAu (eV 1) (eC (.int 2))) (zAa (eC (.int 5)) eNil))))))
  (sSeq (sOwn 6 eNil)
  (sSeq (sFor (zAR (zAa (eV 3) eNil)) (zAo 7) (sExt 6 (eLc (zAI (zAR (zAa (eV 4) eNil)) (zAo 0) (eB (eOp dEq (zAh zAH (zAa (eV 2) (zAa (eOp zAu (eOp zAu (eOp zAu (eV 4) (eC (.int 3))) (eOp zAz (eC (.int 8)) (eV 1))) (eV 0)) (zAa (eV 3) eNil)))) (eC (.int 0)))) (eTup (zAa (eV 1) (zAa (eV 0) eNil))) [none, some 7, some 0, some 5, some 1]))))
  (sRet (eTup (zAa (eV 3) (zAa (eV 4) (zAa (zAh zCw (zAa (eV 6) eNil)) eNil))))))))))
noncomputable def zB9 : List D -> Option D := fnD 8 zFJ
noncomputable def N_q8 : List Str := ["floor", "thing"]
theorem sc_q8 : zAx N_q8 ["floor", "thing"] (zAf s_q8) := ⟨rfl, rfl, rfl, by decide +kernel, rfl, by decide +kernel, by decide +kernel⟩
noncomputable def zGX : List Str := ["wall", "floor"]
theorem zNa : zGX.Nodup := by decide +kernel
noncomputable def zFn : Rho -> Option Out :=
  (sSeq (sIf (eOr (eNot (eB (eIs "tuple" (eV 1)))) (eNot (eB (zAh dAll (zAa (eLc (zAI (iSeq (eV 1)) (zAo 0) eT (zAh zCe (zAa (eV 1) (zAa (eV 0) eNil))) [none, some 0])) eNil))))) (sRet (eC (.bool false))) zAO)
  (sRet (eOp dEq (zAh zC6 (zAa (eV 1) eNil)) (zDV (eSet (zAa (eV 1) eNil))))))
noncomputable def zCU : List D -> Option D := fnD 2 zFn
noncomputable def N_qa : List Str := ["thing"]
theorem sc_qa : zAx N_qa ["thing"] (zAf s_qa) := ⟨rfl, rfl, rfl, by decide +kernel, rfl, by decide +kernel, by decide +kernel⟩
noncomputable def zEl : Rho -> Option Out :=
  (sSeq (sIf (eOr (eNot (eB (eIs "tuple" (eV 0)))) (eB (eOp dNe (zAh dLen (zAa (eV 0) eNil)) (eC (.int 3))))) (sRet (eC (.bool false))) zAO)
  (sRet (zB5 (zAh zCa (zAa (eOp dIx (eV 0) (eC (.int 0))) eNil)) (zB5 (zAh zCa (zAa (eOp dIx (eV 0) (eC (.int 1))) eNil)) (zAh zCU (zAa (eV 0) (zAa (eOp dIx (eV 0) (eC (.int 2))) eNil)))))))
noncomputable def zCd : List D -> Option D := fnD 1 zEl
noncomputable def N_qh : List Str := ["text", "rows", "floor"]
theorem zEN : zAx N_qh ["text"] (zAf s_qh) := ⟨rfl, rfl, rfl, by decide +kernel, rfl, by decide +kernel, by decide +kernel⟩
noncomputable def zDF : Rho -> Option Out :=
  (sSeq (sSet 1 (eOp zBC (eV 0) (eC (.str "\n"))))
  (sSeq (sSet 2 (eTup (zAa (zAh zCj (zAa (eOp dIx (eV 1) (eC (.int 0))) eNil)) (zAa (zAh dLen (zAa (eV 1) eNil)) (zAa (zAh zDj (zAa (eV 1) eNil)) eNil)))))
  (sSeq (sIf (eOr (eNot (eB (zAh zCd (zAa (eV 2) eNil)))) (eB (eOp dNe (zAh zBE (zAa (eV 2) eNil)) (eV 0)))) (zGK "NoText" okC) zAO)
  (sRet (eV 2)))))
noncomputable def zA4 : List D -> Option R := fnX 3 zDF
noncomputable def zGo : List D -> Option D := valX zA4
noncomputable def N_q7 : List Str := ["text"]
theorem sc_q7 : zAx N_q7 ["text"] (zAf s_q7) := ⟨rfl, rfl, rfl, by decide +kernel, rfl, by decide +kernel, by decide +kernel⟩
noncomputable def zEX : List Str := ["part"]
theorem zNg : zEX.Nodup := by decide +kernel
noncomputable def zDf : List D -> Option R := fnXC 1 (zFD (iSeq (eOp zBC (eV 0) (eC (.str "\n\n")))) (zAo 0) (zBm zA4 (zAa (eV 0) eNil)) [none])
noncomputable def zIj : List D -> Option D := valX zDf
noncomputable def N_q9 : List Str := ["_law_text", "_law_e"]
theorem zHU : zAx N_q9 ["_law_text"] (zAf s_q9) := ⟨rfl, rfl, rfl, by decide +kernel, rfl, by decide +kernel, by decide +kernel⟩
noncomputable def zEp : Rho -> Option Out :=
  (sTry ["NoText"] 1 (zCK (zBm zDf (zAa (eV 0) eNil))) (sRet (zAh zDo (zAa (eV 1) eNil))))
noncomputable def zAG : List D -> Option D := fnD 2 zEp
noncomputable def N_qi : List Str := ["_law_script", "_law_floors", "_law_text", "_law_k", "_law_place", "_law_sign", "_law_spoilt", "_law_told_here", "_law_odd"]
theorem zBu : zAx N_qi ["_law_script"] (zAf s_qi) := ⟨rfl, rfl, rfl, by decide +kernel, rfl, by decide +kernel, by decide +kernel⟩
noncomputable def zIt : List Str := ["_law_k", "_law_script"]
theorem zLm : zIt.Nodup := by decide +kernel
noncomputable def zGc : List Str := ["_law_floor_here"]
theorem zLk : zGc.Nodup := by decide +kernel
noncomputable def zGI : List Str := ["_law_floor_here"]
theorem zNm : zGI.Nodup := by decide +kernel
noncomputable def zGG : List Str := ["_law_bad"]
theorem zLu : zGG.Nodup := by decide +kernel
noncomputable def glaw : Rho -> Option Out :=
  (sSeq (sSet 1 (eLc (zAI (zAR (zAa (eOp zAu (eC (.int 1)) (zAh zAH (zAa (eV 0) (zAa (eC (.int 200)) (zAa (eC (.int 4)) eNil))))) eNil)) (zAo 0) eT (zAh zB9 (zAa (eV 1) (zAa (eOp zAz (eC (.int 30)) (eV 0)) (zAa (eC (.int 4)) eNil)))) [none, some 0])))
  (sSeq (sSet 2 (eOp zA9 (eC (.str "\n\n")) (eLc (zAI (iSeq (eV 1)) (zAo 0) eT (zAh zBz (zAa (eV 0) eNil)) [none]))))
  (sSeq (sIf (eOr (eB (eOp dNe (zAh zDl (zAa (eV 1) eNil)) (eV 2))) (eB (eOp dNe (zAh zAG (zAa (eV 2) eNil)) (eV 1)))) (sRet (eC (.bool false))) zAO)
  (sSeq (sFor (zAR (zAa (eC (.int 6)) eNil)) (zAo 3) (sSeq (sSet 4 (zAh zAH (zAa (eV 0) (zAa (eOp zAu (eC (.int 210)) (eOp zAz (eC (.int 4)) (eV 3))) (zAa (eOp zAu (zAh zCj (zAa (eV 2) eNil)) (eC (.int 1))) eNil)))))
  (sSeq (sSet 5 (eOp dIx (eLst (zAa (eC (.str "#")) (zAa (eC (.str ".")) (zAa (eC (.str "\n")) (zAa (eC (.str " ")) (zAa (eC (.str "")) (zAa (eC (.str "a")) eNil))))))) (zAh zAH (zAa (eV 0) (zAa (eOp zAu (eC (.int 211)) (eOp zAz (eC (.int 4)) (eV 3))) (zAa (eC (.int 6)) eNil))))))
  (sSeq (sSet 6 (eOp zBh (eOp zBh (eSlS (eV 2) oNo (oE (eV 4))) (eV 5)) (eSlS (eV 2) (oE (eOp zAu (eV 4) (zAh zAH (zAa (eV 0) (zAa (eOp zAu (eC (.int 212)) (eOp zAz (eC (.int 4)) (eV 3))) (zAa (eC (.int 2)) eNil)))))) oNo)))
  (sSeq (sSet 7 (zAh zAG (zAa (eV 6) eNil)))
  (sIf (eB (eIs "tuple" (eV 7))) (sIf (eOr (eB (eOp dNe (eV 7) (eTup (zAa (eC (.str "refused")) (zAa (eC (.int 0)) eNil))))) (eB (eOp dEq (eV 6) (eV 2)))) (sRet (eC (.bool false))) zAO) (sIf (eB (eOp dNe (eOp zA9 (eC (.str "\n\n")) (eLc (zAI (iSeq (eV 7)) (zAo 0) eT (zAh zBz (zAa (eV 0) eNil)) [none]))) (eV 6))) (sRet (eC (.bool false))) zAO)))))))
  (sSeq (sSet 8 (eLst (zAa (eC (.str "")) (zAa (eC (.str "\n")) (zAa (eC (.str "\n\n")) (zAa (eOp zBh (eV 2) (eC (.str "\n"))) (zAa (eOp zBh (eV 2) (eC (.str "\n\n"))) (zAa (eOp zBh (eC (.str "\n\n")) (eV 2)) (zAa (eC (.str "#.\n#")) eNil)))))))))
  (sSeq (sSet 8 (eOp zAu (eV 8) (eLst (zAa (eC (.str "#\n\n\n.")) (zAa (eOp zDZ (eC (.str ".")) (eC (.int 13))) (zAa (eOp zBh (eOp zDZ (eC (.str ".\n")) (eC (.int 12))) (eC (.str "."))) eNil))))))
  (sSeq (sIf (eB (eOp dNe (eLc (zAI (iSeq (eV 8)) (zAo 0) (eB (eOp dNe (zAh zAG (zAa (eV 0) eNil)) (eTup (zAa (eC (.str "refused")) (zAa (eC (.int 0)) eNil))))) (eV 0) [none])) (eLst eNil))) (sRet (eC (.bool false))) zAO)
  (sRet (eOp dEq (zAh zAG (zAa (eC (.str ".#\n\n#\n.")) eNil)) (eLst (zAa (eTup (zAa (eC (.int 2)) (zAa (eC (.int 1)) (zAa (eTup (zAa (eTup (zAa (eC (.int 1)) (zAa (eC (.int 0)) eNil))) eNil)) eNil)))) (zAa (eTup (zAa (eC (.int 1)) (zAa (eC (.int 2)) (zAa (eTup (zAa (eTup (zAa (eC (.int 0)) (zAa (eC (.int 0)) eNil))) eNil)) eNil)))) eNil))))))))))))
noncomputable def Glaw : List D -> Option D := fnD 9 glaw
structure Txt (K : PySem.W.Frag) (mg : Str -> Option Value) (f_qc : Addr) (fd_qc : FuncData) (f_qg : Addr) (fd_qg : FuncData) (f_qb : Addr) (fd_qb : FuncData) (f_q5 : Addr) (fd_q5 : FuncData) (f_q1 : Addr) (fd_q1 : FuncData) (f_q2 : Addr) (fd_q2 : FuncData) (f_qe : Addr) (fd_qe : FuncData) (f_q0 : Addr) (fd_q0 : FuncData) (f_qf : Addr) (fd_qf : FuncData) (f_q4 : Addr) (fd_q4 : FuncData) (f_qd : Addr) (fd_qd : FuncData) (f_q6 : Addr) (fd_q6 : FuncData) (f_q3 : Addr) (fd_q3 : FuncData) (f_q8 : Addr) (fd_q8 : FuncData) (f_qa : Addr) (fd_qa : FuncData) (f_qh : Addr) (fd_qh : FuncData) (f_q7 : Addr) (fd_q7 : FuncData) (f_q9 : Addr) (fd_q9 : FuncData) (f_qi : Addr) (fd_qi : FuncData) (e_LampError : Addr) (e_NoText : Addr) : Prop where
 F_qc : Fun K "is_whole" "is_whole" s_qc f_qc fd_qc
 m_qc : mg "is_whole" = some (.ref f_qc)
 b_qc : L2.Binds K fd_qc ["thing"] []
 F_qg : Fun K "marked" "marked" s_qg f_qg fd_qg
 m_qg : mg "marked" = some (.ref f_qg)
 b_qg : L2.Binds K fd_qg ["things"] []
 F_qb : Fun K "walls_in" "walls_in" s_qb f_qb fd_qb
 m_qb : mg "walls_in" = some (.ref f_qb)
 b_qb : L2.Binds K fd_qb ["rows"] []
 F_q5 : Fun K "_law_cell" "_law_cell" s_q5 f_q5 fd_q5
 m_q5 : mg "_law_cell" = some (.ref f_q5)
 b_q5 : L2.Binds K fd_q5 ["_law_script", "_law_k"] []
 F_q1 : Fun K "_law_written" "_law_written" s_q1 f_q1 fd_q1
 m_q1 : mg "_law_written" = some (.ref f_q1)
 b_q1 : L2.Binds K fd_q1 ["_law_floor_here"] []
 F_q2 : Fun K "_law_refused" "_law_refused" s_q2 f_q2 fd_q2
 m_q2 : mg "_law_refused" = some (.ref f_q2)
 b_q2 : L2.Binds K fd_q2 ["_law_e"] []
 F_qe : Fun K "is_side" "is_side" s_qe f_qe fd_qe
 m_qe : mg "is_side" = some (.ref f_qe)
 b_qe : L2.Binds K fd_qe ["thing"] []
 F_q0 : Fun K "is_whole_couple" "is_whole_couple" s_q0 f_q0 fd_q0
 m_q0 : mg "is_whole_couple" = some (.ref f_q0)
 b_q0 : L2.Binds K fd_q0 ["thing"] []
 F_qf : Fun K "written" "written" s_qf f_qf fd_qf
 m_qf : mg "written" = some (.ref f_qf)
 b_qf : L2.Binds K fd_qf ["floor"] []
 F_q4 : Fun K "_law_drawn" "_law_drawn" s_q4 f_q4 fd_q4
 m_q4 : mg "_law_drawn" = some (.ref f_q4)
 b_q4 : L2.Binds K fd_q4 ["_law_script", "_law_k", "_law_many"] []
 F_qd : Fun K "is_cell" "is_cell" s_qd f_qd fd_qd
 m_qd : mg "is_cell" = some (.ref f_qd)
 b_qd : L2.Binds K fd_qd ["floor", "thing"] []
 F_q6 : Fun K "book_text" "book_text" s_q6 f_q6 fd_q6
 m_q6 : mg "book_text" = some (.ref f_q6)
 b_q6 : L2.Binds K fd_q6 ["floors"] []
 F_q3 : Fun K "_law_floor" "_law_floor" s_q3 f_q3 fd_q3
 m_q3 : mg "_law_floor" = some (.ref f_q3)
 b_q3 : L2.Binds K fd_q3 ["_law_script", "_law_at", "_law_most"] []
 F_q8 : Fun K "are_walls" "are_walls" s_q8 f_q8 fd_q8
 m_q8 : mg "are_walls" = some (.ref f_q8)
 b_q8 : L2.Binds K fd_q8 ["floor", "thing"] []
 F_qa : Fun K "is_floor" "is_floor" s_qa f_qa fd_qa
 m_qa : mg "is_floor" = some (.ref f_qa)
 b_qa : L2.Binds K fd_qa ["thing"] []
 F_qh : Fun K "read" "read" s_qh f_qh fd_qh
 m_qh : mg "read" = some (.ref f_qh)
 b_qh : L2.Binds K fd_qh ["text"] []
 F_q7 : Fun K "read_book" "read_book" s_q7 f_q7 fd_q7
 m_q7 : mg "read_book" = some (.ref f_q7)
 b_q7 : L2.Binds K fd_q7 ["text"] []
 F_q9 : Fun K "_law_told" "_law_told" s_q9 f_q9 fd_q9
 m_q9 : mg "_law_told" = some (.ref f_q9)
 b_q9 : L2.Binds K fd_q9 ["_law_text"] []
 F_qi : Fun K "law" "law" s_qi f_qi fd_qi
 m_qi : mg "law" = some (.ref f_qi)
 b_qi : L2.Binds K fd_qi ["_law_script"] []
 z_isinstance : mg "isinstance" = none
 z_int : mg "int" = none
 z_bool : mg "bool" = none
 z_dict : mg "dict" = none
 z_enumerate : mg "enumerate" = none
 z_sorted : mg "sorted" = none
 z_tuple : mg "tuple" = none
 z_len : mg "len" = none
 z_range : mg "range" = none
 z_ValueError : mg "ValueError" = none
 z_all : mg "all" = none
 z_list : mg "list" = none
 z_set : mg "set" = none
 c_LONGEST_SIDE : ∃ t, mg "LONGEST_SIDE" = some (.int 12 t)
 c_BETWEEN : ∃ t, mg "BETWEEN" = some (.str "\n\n" t)
 xe_NoText : PySem.W.excIn K e_NoText [.type "ValueError", .type "Exception", .type "BaseException", .type "object"] "ValueError.__new__" = true
 xn_NoText : PySem.W.nsIn K mainGlobals "NoText" = some (some (.ref e_NoText))
 xk_NoText : XCls K e_NoText
 xi_NoText_NoText : PySem.W.kitOne K (.ref e_NoText) (.ref e_NoText) = some true
 xm_NoText : mg "NoText" = some (.ref e_NoText)
 xi_NoText_ValueError : PySem.W.kitOne K (.ref e_NoText) (.type "ValueError") = some true
 xe_LampError : PySem.W.excIn K e_LampError [.type "ValueError", .type "Exception", .type "BaseException", .type "object"] "ValueError.__new__" = true
 xt_NoText_LampError : PySem.W.subIn K (.ref e_NoText) (.ref e_LampError) = some true
 xn_LampError : PySem.W.nsIn K mainGlobals "LampError" = some (some (.ref e_LampError))
 xm_LampError : mg "LampError" = some (.ref e_LampError)
 xb_LampError : PySem.W.subIn K (.ref e_LampError) (.type "BaseException") = some true
section
variable {P : Program} {w : World} {K : PySem.W.Frag} {mg : Str -> Option Value} {base : Heap} {f_qc : Addr} {fd_qc : FuncData} {f_qg : Addr} {fd_qg : FuncData} {f_qb : Addr} {fd_qb : FuncData} {f_q5 : Addr} {fd_q5 : FuncData} {f_q1 : Addr} {fd_q1 : FuncData} {f_q2 : Addr} {fd_q2 : FuncData} {f_qe : Addr} {fd_qe : FuncData} {f_q0 : Addr} {fd_q0 : FuncData} {f_qf : Addr} {fd_qf : FuncData} {f_q4 : Addr} {fd_q4 : FuncData} {f_qd : Addr} {fd_qd : FuncData} {f_q6 : Addr} {fd_q6 : FuncData} {f_q3 : Addr} {fd_q3 : FuncData} {f_q8 : Addr} {fd_q8 : FuncData} {f_qa : Addr} {fd_qa : FuncData} {f_qh : Addr} {fd_qh : FuncData} {f_q7 : Addr} {fd_q7 : FuncData} {f_q9 : Addr} {fd_q9 : FuncData} {f_qi : Addr} {fd_qi : FuncData} {e_LampError : Addr} {e_NoText : Addr}
variable (T : Txt K mg f_qc fd_qc f_qg fd_qg f_qb fd_qb f_q5 fd_q5 f_q1 fd_q1 f_q2 fd_q2 f_qe fd_qe f_q0 fd_q0 f_qf fd_qf f_q4 fd_q4 f_qd fd_qd f_q6 fd_q6 f_q3 fd_q3 f_q8 fd_q8 f_qa fd_qa f_qh fd_qh f_q7 fd_q7 f_q9 fd_q9 f_qi fd_qi e_LampError e_NoText)
include T
theorem ok_qc  : FnOk P w K mg base CX0 1 f_qc fd_qc ["thing"] (spD K 1 zBD) := by
 refine zAU (g := zEF) (G := zBD) (N := N_qc) (k := 0) rfl rfl rfl T.F_qc sc_qc fun cdv A outer s H E hr => ?_
 exact (zAp (zAy (zCM (zCL (T := "int") (.inr (.inr (.inl rfl))) rfl T.z_isinstance rfl T.z_int boot_int (by decide) (zAc 0)) (zDe (zOc (zCL (T := "bool") (.inr (.inr (.inr (.inl rfl)))) rfl T.z_isinstance rfl T.z_bool boot_bool (by decide) (zAc 0)))))))
theorem ok_qg  : FnOk P w K mg base CX0 1 f_qg fd_qg ["things"] (spD K 1 zCP) := by
 refine zAU (g := zHt) (G := zCP) (N := N_qg) (k := 0) rfl rfl rfl T.F_qg sc_qg fun cdv A outer s H E hr => ?_
 exact (zAp (zAy (zDC (zJT rfl (u66 hr)) rfl T.z_dict DC.boot_dict (@zAb _ _ _ _ _ (zBx rfl (zBd (N' := zIa) (inner := [none]) (zAf s_qg) N_qg rfl rfl (by decide +kernel)) (zA7 0) (zCk (zAc 0)) (fun _ _ _ _ _ => (zAN (i := 0) zLV)) (fun _ _ _ _ _ => zBS) (fun _ _ _ _ _ => (@zAP _ _ _ _ _ (@zAb _ _ _ _ _ (zAc 0) (@zAb _ _ _ _ _ zBr zAe rfl) rfl)))) zAe rfl))))
theorem ok_qb  : FnOk P w K mg base CX0 1 f_qb fd_qb ["rows"] (spD K 1 zDj) := by
 refine zAU (g := zFN) (G := zDj) (N := N_qb) (k := 0) rfl rfl rfl T.F_qb zEg fun cdv A outer s H E hr => ?_
 exact (zAq (zD3 (i := 1) zEg.nd zAe)
  (zAq (zDn PassesOwn.never rfl (zOG rfl T.z_enumerate (@zAb _ _ _ _ _ (zAc 0) zAe rfl)) (zHo rfl (zD6 (zAN (i := 2) zEg.nd) (zD6 (zAN (i := 3) zEg.nd) zID))) (zAp (zHM (i := 1) (zBx rfl (zBd (N' := zG1) (inner := [none, none, some 2]) (zAf s_qb) N_qb rfl rfl (by decide +kernel)) (zMH (zF6 (zA7 0) (zF6 (zA7 1) zJ2))) (zOB rfl T.z_enumerate (@zAb _ _ _ _ _ (zAc 3) zAe rfl)) (fun _ _ _ _ _ => (zHo rfl (zD6 (zAN (i := 0) zGk) (zD6 (zAN (i := 1) zGk) zID)))) (fun _ _ _ _ _ => (zFE (zAX (zCH (u64 hr)) (zAc 1) zAr (zAV _)))) (fun _ _ _ _ _ => (@zAP _ _ _ _ _ (@zAb _ _ _ _ _ (zAc 0) (@zAb _ _ _ _ _ (zAc 2) zAe rfl) rfl)))))))
  (zAp (zAy (zDC zGR rfl T.z_tuple boot_tuple (@zAb _ _ _ _ _ (zBH (zMp (u66 hr)) rfl T.z_sorted boot_sorted (@zAb _ _ _ _ _ (zAc 1) zAe rfl)) zAe rfl))))))
theorem ok_q5  : FnOk P w K mg base CX0 1 f_q5 fd_q5 ["_law_script", "_law_k"] (spD K 2 zCh) := by
 refine zAU (g := zEd) (G := zCh) (N := N_q5) (k := 0) rfl rfl rfl T.F_q5 sc_q5 fun cdv A outer s H E hr => ?_
 exact (zAq (zBb (zAX (zCH (u64 hr)) (zAc 0) (@zBV _ _ _ _ zAe) (zAV _)) (zAp (zAy (zAj zBg zAg (zAc 1)))) zBp)
  (zAp (zAy (zAj zAK (zAM ixd (zAc 0) (zAj zCD (zAc 1) (zBH zC2 rfl T.z_len PySem.boot_len (@zAb _ _ _ _ _ (zAc 0) zAe rfl)))) (zAj zBg zAg (zAj zEe (zAc 1) (zBH zC2 rfl T.z_len PySem.boot_len (@zAb _ _ _ _ _ (zAc 0) zAe rfl))))))))
theorem ok_q1  : FnOk P w K mg base CX0 1 f_q1 fd_q1 ["_law_floor_here"] (spD K 1 zBz) := by
 refine zAU (g := zFC) (G := zBz) (N := N_q1) (k := 0) rfl rfl rfl T.F_q1 zFc fun cdv A outer s H E hr => ?_
 exact (zAq (zD3 (i := 1) zFc.nd zAe)
  (zAq (zDn PassesOwn.never rfl (zB2 rfl T.z_range (@zAb _ _ _ _ _ (zAM ixd (zAc 0) zAg) zAe rfl)) (zAN (i := 2) zFc.nd) (zAp (zGb (i := 1) (zCn zAr (zBx rfl (zBd (N' := zGM) (inner := [none, some 2, some 0]) (zAf s_q1) N_q1 rfl rfl (by decide +kernel)) (zA7 0) (zB2 rfl T.z_range (@zAb _ _ _ _ _ (zAM ixd (zAc 0) zAg) zAe rfl)) (fun _ _ _ _ _ => (zAN (i := 0) zJI)) (fun _ _ _ _ _ => zBS) (fun _ _ _ _ _ => (zGH (zAX (zFd (u65 hr)) (@zAP _ _ _ _ _ (@zAb _ _ _ _ _ (zAc 0) (@zAb _ _ _ _ _ (zAc 1) zAe rfl) rfl)) (zAM ixd (zAc 2) zAg) (by with_unfolding_all rfl)) zAr zAr)))))))
  (zAp (zAy (zCn zAr (zAc 1))))))
theorem zNu  : FnH P w K mg base 1 f_q2 fd_q2 ["_law_e"] (spD K 1 zDo) := by
 refine fn_H (g := zGd) (G := zDo) (N := N_q2) (k := 0) rfl rfl rfl T.F_q2 zHz fun cdv A outer s H hr => ?_
 exact (zAq (zAW (i := 1) zHz.nd (@zBV _ _ _ _ (@zAb _ _ _ _ _ (zJE rfl T.xm_NoText (.cons T.xn_NoText T.xk_NoText T.xi_NoText_NoText XTab.nil) rfl T.z_isinstance (zAc 0)) zAe rfl)))
  (zAq (zBb (dw_t (zB7 (zAX (zBt (by have h := u64 hr; exact h)) (zNq (zAc 1) zBr) zAg (zAV _)) (zCm (zCc (zB4 (zLB rfl T.z_ValueError zOd (.cons T.xn_NoText T.xk_NoText T.xi_NoText_ValueError XTab.nil) rfl T.z_isinstance (zAc 0))))))) (zAp (zAy (@zAP _ _ _ _ _ (@zAb _ _ _ _ _ zAr (@zAb _ _ _ _ _ (de_un zKR zAg) zAe rfl) rfl)))) zBp)
  (zAp (zAy (@zAP _ _ _ _ _ (@zAb _ _ _ _ _ zAr (@zAb _ _ _ _ _ (zNL (zAc 1) zBr) zAe rfl) rfl))))))
theorem ok_qe (G_qc : FnOk P w K mg base CX0 1 f_qc fd_qc ["thing"] (spD K 1 zBD)) : FnOk P w K mg base CX0 2 f_qe fd_qe ["thing"] (spD K 1 zCa) := by
 refine zAU (g := zEM) (G := zCa) (N := N_qe) (k := 1) rfl rfl rfl T.F_qe sc_qe fun cdv A outer s H E hr => ?_
 exact (zAp (zAy (zCM (zAw G_qc (hr.mono (by decide)) rfl T.m_qc T.F_qc.kp T.b_qc (@zAb _ _ _ _ _ (zAc 0) zAe rfl) (zAi (fun _ _ h => zAs h))) (zDe (zEA zDx zDx zAg (zAc 0) (zLb rfl T.c_LONGEST_SIDE))))))
theorem ok_q0 (G_qc : FnOk P w K mg base CX0 1 f_qc fd_qc ["thing"] (spD K 1 zBD)) : FnOk P w K mg base CX0 2 f_q0 fd_q0 ["thing"] (spD K 1 zCS) := by
 refine zAU (g := zE9) (G := zCS) (N := N_q0) (k := 1) rfl rfl rfl T.F_q0 sc_q0 fun cdv A outer s H E hr => ?_
 exact (zAq (zBb (dw_t (zB7 (zCc (zB4 (zCL (T := "tuple") (.inr (.inl rfl)) rfl T.z_isinstance rfl T.z_tuple boot_tuple (by decide) (zAc 0)))) (zCm (zAX (zBt (u64 hr)) (zBH zC2 rfl T.z_len PySem.boot_len (@zAb _ _ _ _ _ (zAc 0) zAe rfl)) zAg (zAV _))))) (zAp (zAy zBr)) zBp)
  (zAp (zAy (zCM (zAw G_qc (hr.mono (by decide)) rfl T.m_qc T.F_qc.kp T.b_qc (@zAb _ _ _ _ _ (zAM ixd (zAc 0) zAg) zAe rfl) (zAi (fun _ _ h => zAs h))) (zDe (zAw G_qc (hr.mono (by decide)) rfl T.m_qc T.F_qc.kp T.b_qc (@zAb _ _ _ _ _ (zAM ixd (zAc 0) zAg) zAe rfl) (zAi (fun _ _ h => zAs h))))))))
theorem ok_qf (G_qg : FnOk P w K mg base CX0 1 f_qg fd_qg ["things"] (spD K 1 zCP)) : FnOk P w K mg base CX0 2 f_qf fd_qf ["floor"] (spD K 1 zBE) := by
 refine zAU (g := zFH) (G := zBE) (N := N_qf) (k := 1) rfl rfl rfl T.F_qf zDO fun cdv A outer s H E hr => ?_
 exact (zAq (zAW (i := 1) zDO.nd (zAw G_qg (hr.mono (by decide)) rfl T.m_qg T.F_qg.kp T.b_qg (@zAb _ _ _ _ _ (zAM ixd (zAc 0) zAg) zAe rfl) (zAi (fun _ _ h => zAs h))))
  (zAq (zD3 (i := 2) zDO.nd zAe)
  (zAq (zDn PassesOwn.never rfl (zB2 rfl T.z_range (@zAb _ _ _ _ _ (zAM ixd (zAc 0) zAg) zAe rfl)) (zAN (i := 3) zDO.nd) (zAp (zGb (i := 2) (zCn zAr (zBx rfl (zBd (N' := zG0) (inner := [none, some 1, some 3]) (zAf s_qf) N_qf rfl rfl (by decide +kernel)) (zA7 0) (zB2 rfl T.z_range (@zAb _ _ _ _ _ (zAM ixd (zAc 0) zAg) zAe rfl)) (fun _ _ _ _ _ => (zAN (i := 0) zOD)) (fun _ _ _ _ _ => zBS) (fun _ _ _ _ _ => (zGH (zAX (zMr (u65 hr)) (@zAP _ _ _ _ _ (@zAb _ _ _ _ _ (zAc 0) (@zAb _ _ _ _ _ (zAc 2) zAe rfl) rfl)) (zAc 1) (by with_unfolding_all rfl)) zAr zAr)))))))
  (zAp (zAy (zCn zAr (zAc 2)))))))
theorem ok_q4 (G_q5 : FnOk P w K mg base CX0 1 f_q5 fd_q5 ["_law_script", "_law_k"] (spD K 2 zCh)) : FnOk P w K mg base CX0 2 f_q4 fd_q4 ["_law_script", "_law_k", "_law_many"] (spD K 3 zAH) := by
 refine zAU (g := zEx) (G := zAH) (N := N_q4) (k := 1) rfl rfl rfl T.F_q4 zFl fun cdv A outer s H E hr => ?_
 exact (zAq (zAW (i := 3) zFl.nd (zAj zCD (zAj zAK (zAj zBg (zAj zCD (zAw G_q5 (hr.mono (by decide)) rfl T.m_q5 T.F_q5.kp T.b_q5 (@zAb _ _ _ _ _ (zAc 0) (@zAb _ _ _ _ _ (zAc 1) zAe rfl) rfl) (zAi (zAi (fun _ _ h => zAs h)))) zAg) zAg) (zAj zBg zAg (zAj zAK (zAc 1) zAg))) zAg))
  (zAq (zAW (i := 3) zFl.nd (zAj zCD (zAj zAK (zAj zBg (zAc 3) (zAc 3)) (zAj zEe (zAc 3) zAg)) zAg))
  (zAp (zAy (zAj zCD (zAj zEe (zAj zCD (zAj zAK (zAj zBg (zAc 3) (zAc 3)) (zAj zEe (zAc 3) zAg)) zAg) zAg) (zAc 2))))))
theorem ok_qd (G_q0 : FnOk P w K mg base CX0 2 f_q0 fd_q0 ["thing"] (spD K 1 zCS)) : FnOk P w K mg base CX0 3 f_qd fd_qd ["floor", "thing"] (spD K 2 zCe) := by
 refine zAU (g := zEw) (G := zCe) (N := N_qd) (k := 2) rfl rfl rfl T.F_qd sc_qd fun cdv A outer s H E hr => ?_
 exact (zAq (zBb (zCc (zB4 (zAw G_q0 (hr.mono (by decide)) rfl T.m_q0 T.F_q0.kp T.b_q0 (@zAb _ _ _ _ _ (zAc 1) zAe rfl) (zAi (fun _ _ h => zAs h))))) (zAp (zAy zBr)) zBp)
  (zAp (zAy (zCM (zEA zDx (zGU (u64 hr)) zAg (zAM ixd (zAc 1) zAg) (zAM ixd (zAc 0) zAg)) (zDe (zEA zDx (zGU (u64 hr)) zAg (zAM ixd (zAc 1) zAg) (zAM ixd (zAc 0) zAg)))))))
theorem ok_q6 (G_qf : FnOk P w K mg base CX0 2 f_qf fd_qf ["floor"] (spD K 1 zBE)) : FnOk P w K mg base CX0 3 f_q6 fd_q6 ["floors"] (spD K 1 zDl) := by
 refine zAU (g := zHA) (G := zDl) (N := N_q6) (k := 2) rfl rfl rfl T.F_q6 sc_q6 fun cdv A outer s H E hr => ?_
 exact (zAp (zAy (zCn (zJa rfl T.c_BETWEEN) (zBx rfl (zBd (N' := zF9) (inner := [none]) (zAf s_q6) N_q6 rfl rfl (by decide +kernel)) (zA7 0) (zCk (zAc 0)) (fun _ _ _ _ _ => (zAN (i := 0) zKF)) (fun _ _ _ _ _ => zBS) (fun _ _ _ _ _ => (zAw G_qf (hr.mono (by decide)) rfl T.m_qf T.F_qf.kp T.b_qf (@zAb _ _ _ _ _ (zAc 0) zAe rfl) (zAi (fun _ _ h => zAs h))))))))
theorem ok_q3 (G_q4 : FnOk P w K mg base CX0 2 f_q4 fd_q4 ["_law_script", "_law_k", "_law_many"] (spD K 3 zAH)) : FnOk P w K mg base CX0 3 f_q3 fd_q3 ["_law_script", "_law_at", "_law_most"] (spD K 3 zB9) := by
 refine zAU (g := zFJ) (G := zB9) (N := N_q3) (k := 2) rfl rfl rfl T.F_q3 zCr fun cdv A outer s H E hr => ?_
 exact (zAq (zAW (i := 3) zCr.nd (zAj zAK zAg (zAw G_q4 (hr.mono (by decide)) rfl T.m_q4 T.F_q4.kp T.b_q4 (@zAb _ _ _ _ _ (zAc 0) (@zAb _ _ _ _ _ (zAc 1) (@zAb _ _ _ _ _ (zAc 2) zAe rfl) rfl) rfl) (zAi (zAi (zAi (fun _ _ h => zAs h)))))))
  (zAq (zAW (i := 4) zCr.nd (zAj zAK zAg (zAw G_q4 (hr.mono (by decide)) rfl T.m_q4 T.F_q4.kp T.b_q4 (@zAb _ _ _ _ _ (zAc 0) (@zAb _ _ _ _ _ (zAj zAK (zAc 1) zAg) (@zAb _ _ _ _ _ (zAc 2) zAe rfl) rfl) rfl) (zAi (zAi (zAi (fun _ _ h => zAs h)))))))
  (zAq (zAW (i := 5) zCr.nd (zAM ixd (@zBV _ _ _ _ (@zAb _ _ _ _ _ zAg (@zAb _ _ _ _ _ zAg (@zAb _ _ _ _ _ zAg (@zAb _ _ _ _ _ zAg (@zAb _ _ _ _ _ zAg zAe rfl) rfl) rfl) rfl) rfl)) (zAw G_q4 (hr.mono (by decide)) rfl T.m_q4 T.F_q4.kp T.b_q4 (@zAb _ _ _ _ _ (zAc 0) (@zAb _ _ _ _ _ (zAj zAK (zAc 1) zAg) (@zAb _ _ _ _ _ zAg zAe rfl) rfl) rfl) (zAi (zAi (zAi (fun _ _ h => zAs h)))))))
  (zAq (zD3 (i := 6) zCr.nd zAe)
  (zAq (zDn PassesOwn.never rfl (zB2 rfl T.z_range (@zAb _ _ _ _ _ (zAc 3) zAe rfl)) (zAN (i := 7) zCr.nd) (zAp (zHM (i := 6) (zBx rfl (zBd (N' := zIS) (inner := [none, some 7, some 0, some 5, some 1]) (zAf s_q3) N_q3 rfl rfl (by decide +kernel)) (zA7 0) (zB2 rfl T.z_range (@zAb _ _ _ _ _ (zAc 4) zAe rfl)) (fun _ _ _ _ _ => (zAN (i := 0) zMf)) (fun _ _ _ _ _ => (zFE (zAX (zCH (u64 hr)) (zAw G_q4 (hr.mono (by decide)) rfl T.m_q4 T.F_q4.kp T.b_q4 (@zAb _ _ _ _ _ (zAc 2) (@zAb _ _ _ _ _ (zAj zAK (zAj zAK (zAj zAK (zAc 4) zAg) (zAj zBg zAg (zAc 1))) (zAc 0)) (@zAb _ _ _ _ _ (zAc 3) zAe rfl) rfl) rfl) (zAi (zAi (zAi (fun _ _ h => zAs h))))) zAg (zAV _)))) (fun _ _ _ _ _ => (@zAP _ _ _ _ _ (@zAb _ _ _ _ _ (zAc 1) (@zAb _ _ _ _ _ (zAc 0) zAe rfl) rfl)))))))
  (zAp (zAy (@zAP _ _ _ _ _ (@zAb _ _ _ _ _ (zAc 3) (@zAb _ _ _ _ _ (zAc 4) (@zAb _ _ _ _ _ (zDC zGR rfl T.z_tuple boot_tuple (@zAb _ _ _ _ _ (zAc 6) zAe rfl)) zAe rfl) rfl) rfl)))))))))
theorem ok_q8 (G_qd : FnOk P w K mg base CX0 3 f_qd fd_qd ["floor", "thing"] (spD K 2 zCe)) : FnOk P w K mg base CX0 4 f_q8 fd_q8 ["floor", "thing"] (spD K 2 zCU) := by
 refine zAU (g := zFn) (G := zCU) (N := N_q8) (k := 3) rfl rfl rfl T.F_q8 sc_q8 fun cdv A outer s H E hr => ?_
 exact (zAq (zBb (dw_t (zB7 (zCc (zB4 (zCL (T := "tuple") (.inr (.inl rfl)) rfl T.z_isinstance rfl T.z_tuple boot_tuple (by decide) (zAc 1)))) (zCm (zCc (zB4 (zBH (zJp rfl) rfl T.z_all SL.boot_all (@zAb _ _ _ _ _ (zBx rfl (zBd (N' := zGX) (inner := [none, some 0]) (zAf s_q8) N_q8 rfl rfl (by decide +kernel)) (zA7 0) (zCk (zAc 1)) (fun _ _ _ _ _ => (zAN (i := 0) zNa)) (fun _ _ _ _ _ => zBS) (fun _ _ _ _ _ => (zAw G_qd (hr.mono (by decide)) rfl T.m_qd T.F_qd.kp T.b_qd (@zAb _ _ _ _ _ (zAc 1) (@zAb _ _ _ _ _ (zAc 0) zAe rfl) rfl) (zAi (zAi (fun _ _ h => zAs h)))))) zAe rfl))))))) (zAp (zAy zBr)) zBp)
  (zAp (zAy (zIP (zCH (u64 hr)) (zDC zJZ rfl T.z_list boot_list (@zAb _ _ _ _ _ (zAc 1) zAe rfl)) (zL4 rfl (u66 hr) rfl T.z_sorted boot_sorted (zNQ (zMl rfl (u64 hr) rfl T.z_set boot_set (@zAb _ _ _ _ _ (zAc 1) zAe rfl)))) (zAV _)))))
theorem ok_qa (G_qe : FnOk P w K mg base CX0 2 f_qe fd_qe ["thing"] (spD K 1 zCa)) (G_q8 : FnOk P w K mg base CX0 4 f_q8 fd_q8 ["floor", "thing"] (spD K 2 zCU)) : FnOk P w K mg base CX0 5 f_qa fd_qa ["thing"] (spD K 1 zCd) := by
 refine zAU (g := zEl) (G := zCd) (N := N_qa) (k := 4) rfl rfl rfl T.F_qa sc_qa fun cdv A outer s H E hr => ?_
 exact (zAq (zBb (dw_t (zB7 (zCc (zB4 (zCL (T := "tuple") (.inr (.inl rfl)) rfl T.z_isinstance rfl T.z_tuple boot_tuple (by decide) (zAc 0)))) (zCm (zAX (zBt (u64 hr)) (zBH zC2 rfl T.z_len PySem.boot_len (@zAb _ _ _ _ _ (zAc 0) zAe rfl)) zAg (zAV _))))) (zAp (zAy zBr)) zBp)
  (zAp (zAy (zCM (zAw G_qe (hr.mono (by decide)) rfl T.m_qe T.F_qe.kp T.b_qe (@zAb _ _ _ _ _ (zAM ixd (zAc 0) zAg) zAe rfl) (zAi (fun _ _ h => zAs h))) (zCM (zAw G_qe (hr.mono (by decide)) rfl T.m_qe T.F_qe.kp T.b_qe (@zAb _ _ _ _ _ (zAM ixd (zAc 0) zAg) zAe rfl) (zAi (fun _ _ h => zAs h))) (zDe (zAw G_q8 (hr.mono (by decide)) rfl T.m_q8 T.F_q8.kp T.b_q8 (@zAb _ _ _ _ _ (zAc 0) (@zAb _ _ _ _ _ (zAM ixd (zAc 0) zAg) zAe rfl) rfl) (zAi (zAi (fun _ _ h => zAs h))))))))))
theorem zMT (G_qb : FnOk P w K mg base CX0 1 f_qb fd_qb ["rows"] (spD K 1 zDj)) (G_qa : FnOk P w K mg base CX0 5 f_qa fd_qa ["thing"] (spD K 1 zCd)) (G_qf : FnOk P w K mg base CX0 2 f_qf fd_qf ["floor"] (spD K 1 zBE)) : FnOk P w K mg base (CX1 P w) 6 f_qh fd_qh ["text"] (spX K 1 zA4) := by
 refine fn_X (g := zDF) (G := zA4) (N := N_qh) (k := 5) rfl rfl rfl T.F_qh zEN fun cdv A outer s H E hr => ?_
 exact (zAq (zAW (i := 1) zEN.nd (zGp (zAc 0) zAr))
  (zAq (zAW (i := 2) zEN.nd (@zAP _ _ _ _ _ (@zAb _ _ _ _ _ (zBH zG4 rfl T.z_len PySem.boot_len (@zAb _ _ _ _ _ (zAM ixd (zAc 1) zAg) zAe rfl)) (@zAb _ _ _ _ _ (zBH zC2 rfl T.z_len PySem.boot_len (@zAb _ _ _ _ _ (zAc 1) zAe rfl)) (@zAb _ _ _ _ _ (zAw G_qb (hr.mono (by decide)) rfl T.m_qb T.F_qb.kp T.b_qb (@zAb _ _ _ _ _ (zAc 1) zAe rfl) (zAi (fun _ _ h => zAs h))) zAe rfl) rfl) rfl)))
  (zAq (zBb (dw_t (zB7 (zCc (zB4 (zAw G_qa (hr.mono (by decide)) rfl T.m_qa T.F_qa.kp T.b_qa (@zAb _ _ _ _ _ (zAc 2) zAe rfl) (zAi (fun _ _ h => zAs h))))) (zCm (zAX (zBt (u64 hr)) (zAw G_qf (hr.mono (by decide)) rfl T.m_qf T.F_qf.kp T.b_qf (@zAb _ _ _ _ _ (zAc 2) zAe rfl) (zAi (fun _ _ h => zAs h))) (zAc 0) (zAV _))))) (zAp (zLA PySem.F.excBase_ValueError hr.hd rfl T.xn_NoText T.xe_NoText rfl T.xm_NoText zLG)) zBp)
  (zAp (zAy (zAc 2))))))
theorem zL1 (G_qh : FnOk P w K mg base CX0 6 f_qh fd_qh ["text"] (spD K 1 zGo)) (GX_read : FnOk P w K mg base (CX1 P w) 6 f_qh fd_qh ["text"] (spX K 1 zA4)) : FnOk P w K mg base (CX1 P w) 7 f_q7 fd_q7 ["text"] (spX K 1 zDf) := by
 refine fn_XC (N := N_q7) (N' := zEX) (k := 6) rfl rfl rfl rfl T.F_q7 sc_q7 (zA7 0) ?_ ?_ ?_ ?_
 ·exact fun cdv A outer s H E => (zBd (N' := zEX) (inner := [none]) (zAf s_q7) N_q7 rfl rfl (by decide +kernel))
 ·exact fun cdv A outer s H E hr => (zCk (zGp (zAc 0) (zJa rfl T.c_BETWEEN)))
 ·exact fun cdv A outer s0 H E cl C fp s' H' E' => (zAN (i := 0) zNg)
 ·exact fun cdv A outer s H E hr cl C fp s' H' E' => zNT GX_read (hr.mono (by decide)) rfl T.m_qh T.F_qh.kp T.b_qh (@zAb _ _ _ _ _ (zAc 0) zAe rfl) (zAi (fun _ _ h => zAs h))
theorem ok_q9 (G_q7 : FnOk P w K mg base CX0 7 f_q7 fd_q7 ["text"] (spD K 1 zIj)) (H__law_refused : FnH P w K mg base 1 f_q2 fd_q2 ["_law_e"] (spD K 1 zDo)) (GX_read_book : FnOk P w K mg base (CX1 P w) 7 f_q7 fd_q7 ["text"] (spX K 1 zDf)) : FnOk P w K mg base CX0 8 f_q9 fd_q9 ["_law_text"] (spD K 1 zAG) := by
 refine zAU (g := zEp) (G := zAG) (N := N_q9) (k := 7) rfl rfl rfl T.F_q9 zHU fun cdv A outer s H E hr => ?_
 exact (zAp (zLf (i := 1) (fun _ _ => (zAp (zNc (zNC GX_read_book (hr.mono (by decide)) rfl T.m_q7 T.F_q7.kp T.b_q7 rfl (@zAb _ _ _ _ _ (zAc 0) zAe rfl) (zAi (fun _ _ h => zAs h)))))) (fun _ _ _ => (zAp (zAy (zKG H__law_refused (zKm (hr.mono (by decide))) rfl T.m_q2 T.F_q2.kp T.b_q2 (@zAb _ _ _ _ _ (zAc 1) zAe rfl) (zAi (fun _ _ h => zAs h)))))) rfl rfl rfl zHU.nd rfl rfl rfl rfl T.xm_LampError T.xb_LampError (zKf T.xn_NoText (zLj T.xe_LampError T.xt_NoText_LampError) zMF)))
theorem ok_qi (G_q3 : FnOk P w K mg base CX0 3 f_q3 fd_q3 ["_law_script", "_law_at", "_law_most"] (spD K 3 zB9)) (G_q4 : FnOk P w K mg base CX0 2 f_q4 fd_q4 ["_law_script", "_law_k", "_law_many"] (spD K 3 zAH)) (G_q9 : FnOk P w K mg base CX0 8 f_q9 fd_q9 ["_law_text"] (spD K 1 zAG)) (G_q1 : FnOk P w K mg base CX0 1 f_q1 fd_q1 ["_law_floor_here"] (spD K 1 zBz)) (G_q6 : FnOk P w K mg base CX0 3 f_q6 fd_q6 ["floors"] (spD K 1 zDl)) : FnOk P w K mg base CX0 9 f_qi fd_qi ["_law_script"] (spD K 1 Glaw) := by
 refine zAU (g := glaw) (G := Glaw) (N := N_qi) (k := 8) rfl rfl rfl T.F_qi zBu fun cdv A outer s H E hr => ?_
 exact (zAq (zMV (i := 1) zBu.nd rfl (zBd (N' := zIt) (inner := [none, some 0]) (zAf s_qi) N_qi rfl rfl (by decide +kernel)) (zA7 0) (zB2 rfl T.z_range (@zAb _ _ _ _ _ (zAj zAK zAg (zAw G_q4 (hr.mono (by decide)) rfl T.m_q4 T.F_q4.kp T.b_q4 (@zAb _ _ _ _ _ (zAc 0) (@zAb _ _ _ _ _ zAg (@zAb _ _ _ _ _ zAg zAe rfl) rfl) rfl) (zAi (zAi (zAi (fun _ _ h => zAs h)))))) zAe rfl)) (fun _ _ _ _ _ => (zAN (i := 0) zLm)) (fun _ _ _ _ _ => zBS) (fun _ _ _ _ _ => (zAw G_q3 (hr.mono (by decide)) rfl T.m_q3 T.F_q3.kp T.b_q3 (@zAb _ _ _ _ _ (zAc 1) (@zAb _ _ _ _ _ (zAj zBg zAg (zAc 0)) (@zAb _ _ _ _ _ zAg zAe rfl) rfl) rfl) (zAi (zAi (zAi (fun _ _ h => zAs h)))))))
  (zAq (zAW (i := 2) zBu.nd (zCn zAr (zBx rfl (zBd (N' := zGc) (inner := [none]) (zAf s_qi) N_qi rfl rfl (by decide +kernel)) (zA7 0) (zCk (zAc 1)) (fun _ _ _ _ _ => (zAN (i := 0) zLk)) (fun _ _ _ _ _ => zBS) (fun _ _ _ _ _ => (zAw G_q1 (hr.mono (by decide)) rfl T.m_q1 T.F_q1.kp T.b_q1 (@zAb _ _ _ _ _ (zAc 0) zAe rfl) (zAi (fun _ _ h => zAs h)))))))
  (zAq (zBb (dw_t (zB7 (zAX (zBt (u64 hr)) (zAw G_q6 (hr.mono (by decide)) rfl T.m_q6 T.F_q6.kp T.b_q6 (@zAb _ _ _ _ _ (zAc 1) zAe rfl) (zAi (fun _ _ h => zAs h))) (zAc 2) (zAV _)) (zCm (zAX (zBt (u64 hr)) (zAw G_q9 (hr.mono (by decide)) rfl T.m_q9 T.F_q9.kp T.b_q9 (@zAb _ _ _ _ _ (zAc 2) zAe rfl) (zAi (fun _ _ h => zAs h))) (zAc 1) (zAV _))))) (zAp (zAy zBr)) zBp)
  (zAq (zDn PassesOwn.never rfl (zB2 rfl T.z_range (@zAb _ _ _ _ _ zAg zAe rfl)) (zAN (i := 3) zBu.nd) (zAq (zAW (i := 4) zBu.nd (zAw G_q4 (hr.mono (by decide)) rfl T.m_q4 T.F_q4.kp T.b_q4 (@zAb _ _ _ _ _ (zAc 0) (@zAb _ _ _ _ _ (zAj zAK zAg (zAj zBg zAg (zAc 3))) (@zAb _ _ _ _ _ (zAj zAK (zBH zG4 rfl T.z_len PySem.boot_len (@zAb _ _ _ _ _ (zAc 2) zAe rfl)) zAg) zAe rfl) rfl) rfl) (zAi (zAi (zAi (fun _ _ h => zAs h))))))
  (zAq (zAW (i := 5) zBu.nd (zAM ixd (@zBV _ _ _ _ (@zAb _ _ _ _ _ zAr (@zAb _ _ _ _ _ zAr (@zAb _ _ _ _ _ zAr (@zAb _ _ _ _ _ zAr (@zAb _ _ _ _ _ zAr (@zAb _ _ _ _ _ zAr zAe rfl) rfl) rfl) rfl) rfl) rfl)) (zAw G_q4 (hr.mono (by decide)) rfl T.m_q4 T.F_q4.kp T.b_q4 (@zAb _ _ _ _ _ (zAc 0) (@zAb _ _ _ _ _ (zAj zAK zAg (zAj zBg zAg (zAc 3))) (@zAb _ _ _ _ _ zAg zAe rfl) rfl) rfl) (zAi (zAi (zAi (fun _ _ h => zAs h)))))))
  (zAq (zAW (i := 6) zBu.nd (zAj zCt (zAj zCt (zJb (zAc 2) zHv (zIT (zAc 4))) (zAc 5)) (zJb (zAc 2) (zIT (zAj zAK (zAc 4) (zAw G_q4 (hr.mono (by decide)) rfl T.m_q4 T.F_q4.kp T.b_q4 (@zAb _ _ _ _ _ (zAc 0) (@zAb _ _ _ _ _ (zAj zAK zAg (zAj zBg zAg (zAc 3))) (@zAb _ _ _ _ _ zAg zAe rfl) rfl) rfl) (zAi (zAi (zAi (fun _ _ h => zAs h))))))) zHv)))
  (zAq (zAW (i := 7) zBu.nd (zAw G_q9 (hr.mono (by decide)) rfl T.m_q9 T.F_q9.kp T.b_q9 (@zAb _ _ _ _ _ (zAc 6) zAe rfl) (zAi (fun _ _ h => zAs h))))
  (zAp (zBb (zB4 (zCL (T := "tuple") (.inr (.inl rfl)) rfl T.z_isinstance rfl T.z_tuple boot_tuple (by decide) (zAc 7))) (zAp (zBb (dw_t (zB7 (zAX (zBt (u64 hr)) (zAc 7) (@zAP _ _ _ _ _ (@zAb _ _ _ _ _ zAr (@zAb _ _ _ _ _ zAg zAe rfl) rfl)) (zAV _)) (zCm (zAX (zCH (u64 hr)) (zAc 6) (zAc 2) (zAV _))))) (zAp (zAy zBr)) zBp)) (zAp (zBb (zAX (zBt (u64 hr)) (zCn zAr (zBx rfl (zBd (N' := zGI) (inner := [none]) (zAf s_qi) N_qi rfl rfl (by decide +kernel)) (zA7 0) (zCk (zAc 7)) (fun _ _ _ _ _ => (zAN (i := 0) zNm)) (fun _ _ _ _ _ => zBS) (fun _ _ _ _ _ => (zAw G_q1 (hr.mono (by decide)) rfl T.m_q1 T.F_q1.kp T.b_q1 (@zAb _ _ _ _ _ (zAc 0) zAe rfl) (zAi (fun _ _ h => zAs h)))))) (zAc 6) (zAV _)) (zAp (zAy zBr)) zBp)))))))))
  (zAq (zAW (i := 8) zBu.nd (@zBV _ _ _ _ (@zAb _ _ _ _ _ zAr (@zAb _ _ _ _ _ zAr (@zAb _ _ _ _ _ zAr (@zAb _ _ _ _ _ (zAj zCt (zAc 2) zAr) (@zAb _ _ _ _ _ (zAj zCt (zAc 2) zAr) (@zAb _ _ _ _ _ (zAj zCt zAr (zAc 2)) (@zAb _ _ _ _ _ zAr zAe rfl) rfl) rfl) rfl) rfl) rfl) rfl)))
  (zAq (zAW (i := 8) zBu.nd (zAj zAK (zAc 8) (@zBV _ _ _ _ (@zAb _ _ _ _ _ zAr (@zAb _ _ _ _ _ (zAj zHH zAr zAg) (@zAb _ _ _ _ _ (zAj zCt (zAj zHH zAr zAg) zAr) zAe rfl) rfl) rfl))))
  (zAq (zBb (zAX (zBt (u64 hr)) (zBx rfl (zBd (N' := zGG) (inner := [none]) (zAf s_qi) N_qi rfl rfl (by decide +kernel)) (zA7 0) (zCk (zAc 8)) (fun _ _ _ _ _ => (zAN (i := 0) zLu)) (fun _ _ _ _ _ => (zFE (zAX (zBt (u64 hr)) (zAw G_q9 (hr.mono (by decide)) rfl T.m_q9 T.F_q9.kp T.b_q9 (@zAb _ _ _ _ _ (zAc 0) zAe rfl) (zAi (fun _ _ h => zAs h))) (@zAP _ _ _ _ _ (@zAb _ _ _ _ _ zAr (@zAb _ _ _ _ _ zAg zAe rfl) rfl)) (zAV _)))) (fun _ _ _ _ _ => (zAc 0))) (@zBV _ _ _ _ zAe) (zAV _)) (zAp (zAy zBr)) zBp)
  (zAp (zAy (zIP (zCH (u64 hr)) (zAw G_q9 (hr.mono (by decide)) rfl T.m_q9 T.F_q9.kp T.b_q9 (@zAb _ _ _ _ _ zAr zAe rfl) (zAi (fun _ _ h => zAs h))) (@zBV _ _ _ _ (@zAb _ _ _ _ _ (@zAP _ _ _ _ _ (@zAb _ _ _ _ _ zAg (@zAb _ _ _ _ _ zAg (@zAb _ _ _ _ _ (@zAP _ _ _ _ _ (@zAb _ _ _ _ _ (@zAP _ _ _ _ _ (@zAb _ _ _ _ _ zAg (@zAb _ _ _ _ _ zAg zAe rfl) rfl)) zAe rfl)) zAe rfl) rfl) rfl)) (@zAb _ _ _ _ _ (@zAP _ _ _ _ _ (@zAb _ _ _ _ _ zAg (@zAb _ _ _ _ _ zAg (@zAb _ _ _ _ _ (@zAP _ _ _ _ _ (@zAb _ _ _ _ _ (@zAP _ _ _ _ _ (@zAb _ _ _ _ _ zAg (@zAb _ _ _ _ _ zAg zAe rfl) rfl)) zAe rfl)) zAe rfl) rfl) rfl)) zAe rfl) rfl)) (zAV _)))))))))))
end
end My
namespace My
open PySem PySem.SeqAt L2 DL SD SL EL DC
abbrev C := Int × Int
noncomputable def zAd (c : C) : D := .tuple [.int c.1, .int c.2]
theorem zFF (ds : List D) : isD "tuple" (.tuple ds) = true := id rfl
theorem zMv (ds : List D) : isD "list" (.list ds) = true := id rfl
theorem zKE (b : Bool) : isD "bool" (.bool b) = true := id rfl
theorem zKY (i : Int) : isD "int" (.int i) = true := id rfl
theorem ix0 (a : D) (r : List D) : dIx (.tuple (a :: r)) (.int 0) = some a := by
 show L2.atI (a :: r) 0 = some a
 unfold L2.atI L2.ixN
 rw [if_pos (by omega), if_pos (by rw [List.length_cons]; omega)]
 rfl
theorem ix1 (a b : D) (r : List D) : dIx (.tuple (a :: b :: r)) (.int 1) = some b := by
 show L2.atI (a :: b :: r) 1 = some b
 unfold L2.atI L2.ixN
 rw [if_pos (by omega), if_pos (by rw [List.length_cons, List.length_cons]; omega)]
 rfl
theorem ix2 (a b c : D) (r : List D) : dIx (.tuple (a :: b :: c :: r)) (.int 2) = some c := by
 show L2.atI (a :: b :: c :: r) 2 = some c
 unfold L2.atI L2.ixN
 rw [if_pos (by omega), if_pos (by rw [List.length_cons, List.length_cons, List.length_cons]; omega)]
 rfl
theorem ix0L (a : D) (r : List D) : dIx (.list (a :: r)) (.int 0) = some a := ix0 a r
theorem ix1L (a b : D) (r : List D) : dIx (.list (a :: b :: r)) (.int 1) = some b := ix1 a b r
theorem ix2L (a b c : D) (r : List D) : dIx (.list (a :: b :: c :: r)) (.int 2) = some c := ix2 a b c r
theorem ix3L (a b c d e : D) : dIx (.list [a, b, c, d, e]) (.int 3) = some d := id rfl
theorem ix4L (a b c d e : D) : dIx (.list [a, b, c, d, e]) (.int 4) = some e := id rfl
theorem add_i (i j : Int) : zAu (.int i) (.int j) = some (.int (i + j)) := id rfl
theorem sub_i (i j : Int) : dSub (.int i) (.int j) = some (.int (i - j)) := id rfl
theorem lt_i (i j : Int) : dLt2 (.int i) (.int j) = some (.bool (decide (i < j))) := id rfl
theorem le_i (i j : Int) : dLe (.int i) (.int j) = some (.bool (decide (i <= j))) := id rfl
theorem gt_i (i j : Int) : dGt (.int i) (.int j) = some (.bool (decide (j < i))) := id rfl
theorem ge_i (i j : Int) : dGe (.int i) (.int j) = some (.bool (decide (j <= i))) := id rfl
theorem eq_i (i j : Int) : dEq (.int i) (.int j) = some (.bool (i == j)) := id rfl
theorem ne_i (i j : Int) : dNe (.int i) (.int j) = some (.bool (!(i == j))) := id rfl
theorem neg_i (i : Int) : dNeg (.int i) = some (.int (-i)) := id rfl
theorem abs_i (i : Int) : dAbs [.int i] = some (.int (if i < 0 then -i else i)) := id rfl
theorem len_L (l : List D) : dLen [.list l] = some (.int l.length) := id rfl
theorem len_T (l : List D) : dLen [.tuple l] = some (.int l.length) := id rfl
theorem zJM (l : List D) : zCw [.list l] = some (.tuple l) := id rfl
theorem zK4 (l : List D) : zCw [.tuple l] = some (.tuple l) := id rfl
theorem zOA (l : List D) : zC6 [.list l] = some (.list l) := id rfl
theorem zHC (l : List D) : zC6 [.tuple l] = some (.list l) := id rfl
theorem bl0 : (false = true) = False := by simp
theorem bl1 : (true = true) = True := by simp
theorem zBG {i j : Int} (h : zBI i j = true) : zAz (.int i) (.int j) = some (.int (i * j)) := by
 show (if zBI i j = true then _ else _) = _
 rw [if_pos h]
theorem zD4 {i j : Int} (h : zCq i j = true) : zBL (.int i) (.int j) = some (.int (i / j)) := by
 show (if zCq i j = true then _ else _) = _
 rw [if_pos h]
theorem zDk {i j : Int} (h : 0 < j) : dMod (.int i) (.int j) = some (.int (i % j)) := by
 show (if decide (0 < j) = true then _ else _) = _
 rw [if_pos (decide_eq_true h)]
theorem okS {i j : Int} (h1 : -18446744073709551616 < i) (h2 : i < 18446744073709551616) : zBI i j = true := by
 unfold zBI
 rw [decide_eq_true h1, decide_eq_true h2]
 rfl
theorem okT {i j : Int} (h1 : -18446744073709551616 < j) (h2 : j < 18446744073709551616) : zBI i j = true := by
 unfold zBI
 rw [decide_eq_true h1, decide_eq_true h2]
 simp
theorem okD {i j : Int} (h1 : 0 < j) (h2 : j < 1073741824) : zCq i j = true := by
 unfold zCq
 rw [decide_eq_true h1, decide_eq_true h2]
 rfl
section
variable {α β : Type}
theorem zDu {s : D -> Rho -> Option Rho} {t : Rho -> Option Bool} {ge : Rho -> Option D} (item : α -> D) (p : α -> Bool) (f : α -> D) (I : Rho -> Prop) : ∀ {xs : List α} {ρ : Rho}, I ρ ->
  (∀ a ∈ xs, ∀ ρ, I ρ -> ∃ ρ', s (item a) ρ = some ρ' /\ I ρ' /\ t ρ' = some (p a) /\ (p a = true -> ge ρ' = some (f a))) -> zCJ s t ge (xs.map item) ρ = some ((xs.filter p).map f)
 | [], _, _, _ => rfl
 | x :: xs, ρ, h0, h => by
  obtain ⟨ρ', e1, i1, e2, e3⟩ := h x List.mem_cons_self ρ h0
  have ih := zDu item p f I i1 fun y hy => h y (List.mem_cons_of_mem _ hy)
  rw [List.map_cons]
  unfold zCJ
  rw [e1, Option.bind_some, e2, Option.bind_some]
  cases q : p x with
  | true => rw [if_pos rfl, e3 q, Option.bind_some, ih, List.filter_cons_of_pos q]; rfl
  | false => rw [if_neg Bool.false_ne_true, ih, List.filter_cons_of_neg (by rw [q]; exact Bool.false_ne_true)]
theorem zIX {gi : Rho -> Option (List D)} {s : D -> Rho -> Option Rho} {t : Rho -> Option Bool} {ge : Rho -> Option D} {inner : List (Option Nat)} {ρ : Rho} {xs : List α} (item : α -> D) (p : α -> Bool) (f : α -> D) (I : Rho -> Prop) (h1 : gi ρ = some (xs.map item)) (hl : xs.length <= 1000) (h0 : I (zA6 inner ρ))
  (h : ∀ a ∈ xs, ∀ ρ, I ρ -> ∃ ρ', s (item a) ρ = some ρ' /\ I ρ' /\ t ρ' = some (p a) /\ (p a = true -> ge ρ' = some (f a))) : eLc (zAI gi s t ge inner) ρ = some (.list ((xs.filter p).map f)) := by
 have q := zDu item p f I h0 h
 unfold eLc zAI
 rw [h1, Option.bind_some, q, Option.bind_some, if_pos (by rw [List.length_map]; exact Nat.le_trans (List.length_filter_le _ _) hl)]
 rfl
theorem zBJ {gi : Rho -> Option (List D)} {s : D -> Rho -> Option Rho} {t : Rho -> Option Bool} {ge : Rho -> Option D} {inner : List (Option Nat)} {ρ : Rho} {xs : List α} {out : List D} (item : α -> D) (p : α -> Bool) (f : α -> D) (I : Rho -> Prop) (h1 : gi ρ = some (xs.map item)) (hl : xs.length <= 1000) (h0 : I (zA6 inner ρ))
  (h : ∀ a ∈ xs, ∀ ρ, I ρ -> ∃ ρ', s (item a) ρ = some ρ' /\ I ρ' /\ t ρ' = some (p a) /\ (p a = true -> ge ρ' = some (f a))) (ho : (xs.filter p).map f = out) : eLc (zAI gi s t ge inner) ρ = some (.list out) := by
 rw [<- ho]
 exact zIX item p f I h1 hl h0 h
theorem zCl (l : List α) : l.filter (fun _ => true) = l := by induction l with
 | nil => rfl
 | cons a l ih => simp [ih]
theorem zD0 {s : D -> Rho -> Option Rho} {g : Rho -> Option Out} (item : α -> D) (env : β -> Rho) (step : β -> α -> β) (P : Nat -> β -> Prop) (n : Nat) : ∀ (xs : List α) (i : Nat) (b : β), i + xs.length <= n -> P i b ->
  (∀ a ∈ xs, ∀ i b, i < n -> P i b -> (∃ ρ1, s (item a) (env b) = some ρ1 /\ g ρ1 = some (.nx (env (step b a)))) /\ P (i + 1) (step b a)) -> forN s g (xs.map item) (env b) = some (.nx (env (xs.foldl step b)))
 | [], _, b, _, _, _ => rfl
 | x :: xs, i, b, hi, hp, h => by
  rw [List.length_cons] at hi
  obtain ⟨⟨ρ1, e1, e2⟩, p2⟩ := h x List.mem_cons_self i b (by omega) hp
  rw [List.map_cons]
  unfold forN
  rw [e1, Option.bind_some, e2, Option.bind_some]
  exact zD0 item env step P n xs (i + 1) _ (by omega) p2 fun a ha => h a (List.mem_cons_of_mem _ ha)
theorem zGx {s : D -> Rho -> Option Rho} {g : Rho -> Option Out} (item : α -> D) (I : Rho -> Prop) : ∀ (xs : List α) (ρ : Rho), I ρ ->
  (∀ a ∈ xs, ∀ ρ, I ρ -> ∃ ρ1 ρ2, s (item a) ρ = some ρ1 /\ g ρ1 = some (.nx ρ2) /\ I ρ2) -> ∃ ρ', forN s g (xs.map item) ρ = some (.nx ρ') /\ I ρ'
 | [], ρ, h0, _ => ⟨ρ, rfl, h0⟩
 | x :: xs, ρ, h0, h => by
  obtain ⟨ρ1, ρ2, e1, e2, i2⟩ := h x List.mem_cons_self ρ h0
  rw [List.map_cons]
  unfold forN
  rw [e1, Option.bind_some, e2, Option.bind_some]
  exact zGx item I xs ρ2 i2 fun a ha => h a (List.mem_cons_of_mem _ ha)
end
theorem zI3 (h : Nat) (h2 : h < 1000) : rng1 [.int h] = some ((List.range h).map fun (k : Nat) => .int (k : Int)) := by
 show (if -4611686018427387904 <= (h : Int) /\ (h : Int) < 4611686018427387904 then some ((List.range (h : Int).toNat).map fun (k : Nat) => PyData.int (0 + (k : Int))) else none) = _
 rw [if_pos ⟨by omega, by omega⟩, Int.toNat_natCast]
 congr 2
 funext k
 rw [Int.zero_add]
section
variable {g g1 g2 : Rho -> Option Out} {t u : Rho -> Option Bool} {ga gb gc : Rho -> Option D} {gr : Rho -> Option (List D)} {ρ : Rho} {d : D}
theorem zOw : sSeq g1 g2 ρ = (g1 ρ).bind fun o => match o with | .nx ρ' => g2 ρ' | o => some o := id rfl
theorem zJ3 : zAO ρ = some (.nx ρ) := id rfl
theorem zJQ : sRet ga ρ = (ga (ρ.map frz)).bind fun d => some (.rt d) := id rfl
theorem zNX (i : Nat) : sSet i ga ρ = (ga ρ).bind fun d => some (.nx (ρ.set i (.dat d))) := id rfl
theorem zMO (i : Nat) : sOwn i gr ρ = (gr ρ).bind fun ds => if ds.length <= 1000 then some (.nx (ρ.set i (.own ds))) else none := id rfl
theorem zNO (i : Nat) : sFrz i g ρ = g (zAk i ρ) := id rfl
theorem ap_if : sIf t g1 g2 ρ = (t (ρ.map frz)).bind fun b => if b = true then g1 ρ else g2 ρ := id rfl
theorem zKk : sDrop ga ρ = (ga ρ).bind fun _ => some (.nx ρ) := id rfl
theorem zIn (i : Nat) : sApp i ga ρ = match ρ[i]? with
 | some (.own ds) => (ga ρ).bind fun d => if ds.length < 1000 then some (.nx (ρ.set i (.own (ds ++ [d])))) else none
 | _ => none := id rfl
theorem zLe (s : D -> Rho -> Option Rho) : sAsg ga s ρ = (ga ρ).bind fun d => (s d ρ).bind fun ρ' => some (.nx ρ') := id rfl
theorem zN7 (gi : Rho -> Option (List D)) (s : D -> Rho -> Option Rho) : sFor gi s g ρ = (gi ρ).bind fun xs => forN s g xs ρ := id rfl
theorem ap_V (i : Nat) : eV i ρ = match ρ[i]? with | some (.dat d) => some d | _ => none := id rfl
theorem ap_C : eC d ρ = some d := id rfl
theorem zBn (f : D -> D -> Option D) : eOp f ga gb ρ = (ga ρ).bind fun x => (gb ρ).bind fun y => f x y := id rfl
theorem ap_un (f : D -> Option D) : eUn f ga ρ = (ga ρ).bind f := id rfl
theorem zGD (G : List D -> Option D) : zAh G gr ρ = (gr ρ).bind G := id rfl
theorem zGV : zAa ga gr ρ = (ga ρ).bind fun x => (gr ρ).bind fun xs => some (x :: xs) := id rfl
theorem zGS : eNil ρ = some [] := id rfl
theorem zK2 : eTup gr ρ = (gr ρ).bind fun xs => if xs.length <= 1000 then some (.tuple xs) else none := id rfl
theorem zOa : eLst gr ρ = (gr ρ).bind fun xs => if xs.length <= 1000 then some (.list xs) else none := id rfl
theorem ap_B : eB ga ρ = (ga ρ).bind asB := id rfl
theorem zNs : eNot t ρ = (t ρ).bind fun b => some (!b) := id rfl
theorem zNE : eAnd t u ρ = (t ρ).bind fun b => if b = true then u ρ else some false := id rfl
theorem ap_or : eOr t u ρ = (t ρ).bind fun b => if b = true then some true else u ρ := id rfl
theorem zMG : zB5 ga gb ρ = (ga ρ).bind fun x => (asB x).bind fun c => if c = true then gb ρ else some (.bool false) := id rfl
theorem zMb : eOrV ga gb ρ = (ga ρ).bind fun x => (asB x).bind fun c => if c = true then some (.bool true) else gb ρ := id rfl
theorem zNZ : zE8 ga ρ = (ga ρ).bind fun x => (asB x).bind fun c => some (.bool (!c)) := id rfl
theorem zN5 : eIf t ga gb ρ = (t ρ).bind fun b => if b = true then ga ρ else gb ρ := id rfl
theorem ap_is (T : String) : eIs T ga ρ = (ga ρ).bind fun d => if zBy d = true then none else some (.bool (isD T d)) := id rfl
theorem zLq (h h' : D -> D -> Option D) : zCG h h' ga gb gc ρ = (ga ρ).bind fun x => (gb ρ).bind fun y => (h x y).bind fun z => (asB z).bind fun k => if k = true then (gc ρ).bind fun c => h' y c else some (.bool false) := id rfl
theorem ap_no : oNo ρ = some none := id rfl
theorem ap_oE : oE ga ρ = (ga ρ).bind fun d => (asI d).bind fun i => some (some i) := id rfl
theorem ap_sl (gl gh : Rho -> Option (Option Int)) : eSl2 ga gl gh ρ = (ga ρ).bind fun d => (gl ρ).bind fun l => (gh ρ).bind fun h => dSl2 d l h := id rfl
theorem zLZ (i : Nat) : zAo i d ρ = some (ρ.set i (.dat d)) := id rfl
theorem zJj : uNil [] ρ = some ρ := id rfl
theorem ap_T : eT ρ = some true := id rfl
theorem ap_fn (n : Nat) (ds : List D) : fnD n g ds = match g (zAF n ds) with | some (.rt d) => some d | some (.nx _) => some .none | _ => none := id rfl
theorem zMJ (n : Nat) (ds : List D) : zAF n ds = ds.map .dat ++ List.replicate (n - ds.length) .no := id rfl
theorem zJU : frz (.dat d) = .dat d := id rfl
theorem zMX : frz .no = .no := id rfl
theorem zMP (ds : List D) : frz (.own ds) = .dat (.list ds) := id rfl
theorem zGW (b : Bool) : asB (.bool b) = some b := id rfl
theorem asI_i (i : Int) : asI (.int i) = some i := id rfl
theorem seq_L (l : List D) : seqD (.list l) = some l := id rfl
theorem seq_T (l : List D) : seqD (.tuple l) = some l := id rfl
theorem zEE (l : List D) : zBy (.tuple l) = false := id rfl
theorem dct_l (l : List D) : zBy (.list l) = false := id rfl
theorem dct_i (i : Int) : zBy (.int i) = false := id rfl
theorem dct_b (b : Bool) : zBy (.bool b) = false := id rfl
end
section
variable {α β : Type} (a : α) (l m : List α) (n : Nat) (f : α -> β)
theorem L_g0 : (a :: l)[0]? = some a := id rfl
theorem L_gs : (a :: l)[n + 1]? = l[n]? := id rfl
theorem L_mc : (a :: l).map f = f a :: l.map f := id rfl
theorem L_mn : ([] : List α).map f = [] := id rfl
theorem L_lc : (a :: l).length = l.length + 1 := id rfl
theorem L_ln : ([] : List α).length = 0 := id rfl
theorem L_ca : (a :: l) ++ m = a :: (l ++ m) := id rfl
theorem L_na : [] ++ m = m := id rfl
theorem L_s0 (b : α) : (a :: l).set 0 b = b :: l := id rfl
theorem L_ss (b : α) : (a :: l).set (n + 1) b = a :: l.set n b := id rfl
theorem L_r0 : List.replicate 0 a = [] := id rfl
theorem L_rs : List.replicate (n + 1) a = a :: List.replicate n a := id rfl
theorem O_bs (k : α -> Option β) : (some a).bind k = k a := id rfl
end
theorem zMs (c : C) : dIx (zAd c) (.int 0) = some (.int c.1) := id rfl
theorem zLT (c : C) : dIx (zAd c) (.int 1) = some (.int c.2) := id rfl
theorem zKn (c : C) : isD "tuple" (zAd c) = true := id rfl
theorem zJF (c : C) : zBy (zAd c) = false := id rfl
theorem zLP (c : C) : dLen [zAd c] = some (.int 2) := id rfl
theorem zNb (x y : Int) : PyData.tuple [.int x, .int y] = zAd (x, y) := id rfl
theorem zM3 (i j : Nat) (c : C) (ρ : Rho) : uTup 2 (zBX (zAo i) (zBX (zAo j) uNil)) (zAd c) ρ = some ((ρ.set i (.dat (.int c.1))).set j (.dat (.int c.2))) := id rfl
theorem zAD {g1 g2 : Rho -> Option Out} {ρ ρ' : Rho} {r : Option Out} (h : g1 ρ = some (.nx ρ')) (h2 : g2 ρ' = r) : sSeq g1 g2 ρ = r := by
 unfold sSeq
 rw [h]
 exact h2
theorem zJ5 {g1 g2 : Rho -> Option Out} {ρ : Rho} {d : D} (h : g1 ρ = some (.rt d)) : sSeq g1 g2 ρ = some (.rt d) := by
 unfold sSeq
 rw [h]
 rfl
theorem zBN {n : Nat} {g : Rho -> Option Out} {ds : List D} {d : D} (h : g (zAF n ds) = some (.rt d)) : fnD n g ds = some d := by
 unfold fnD
 rw [h]
theorem zIQ {gi : Rho -> Option (List D)} {s : D -> Rho -> Option Rho} {g : Rho -> Option Out} {ρ : Rho} {xs : List D} {r : Option Out} (h1 : gi ρ = some xs) (h2 : forN s g xs ρ = r) : sFor gi s g ρ = r := by
 unfold sFor
 rw [h1]
 exact h2
theorem zCT {t : Rho -> Option Bool} {g1 g2 : Rho -> Option Out} {ρ : Rho} {b : Bool} {r : Option Out} (h : t (ρ.map frz) = some b) (h1 : b = true -> g1 ρ = r) (h2 : b = false -> g2 ρ = r) : sIf t g1 g2 ρ = r := by
 unfold sIf
 rw [h]
 cases b with
 | true => exact h1 rfl
 | false => exact h2 rfl
theorem zBl {ga : Rho -> Option D} {ρ : Rho} {d : D} (h : ga (ρ.map frz) = some d) : sRet ga ρ = some (.rt d) := by
 unfold sRet
 rw [h]
 rfl
theorem zBo {i : Nat} {ga : Rho -> Option D} {ρ : Rho} {d : D} (h : ga ρ = some d) : sSet i ga ρ = some (.nx (ρ.set i (.dat d))) := by
 unfold sSet
 rw [h]
 rfl
theorem zDi {G : List D -> Option D} {gr : Rho -> Option (List D)} {ρ : Rho} {ds : List D} {r : Option D} (h : gr ρ = some ds) (h2 : G ds = r) : zAh G gr ρ = r := by
 unfold zAh
 rw [h]
 exact h2
theorem zEZ {gr : Rho -> Option (List D)} {s : D -> Rho -> Option Rho} {g : Rho -> Option Out} {ρ : Rho} {n : Nat} {r : Option Out} (h1 : gr ρ = some [.int (n : Nat)]) (hn : n < 1000) (h2 : forN s g ((List.range n).map fun (k : Nat) => .int (k : Int)) ρ = r) : sFor (zAR gr) s g ρ = r := by
 show ((gr ρ).bind rng1).bind (fun xs => forN s g xs ρ) = r
 rw [h1, Option.bind_some, zI3 n hn, Option.bind_some]
 exact h2
theorem zEk {gr : Rho -> Option (List D)} {ρ : Rho} {n : Nat} (h1 : gr ρ = some [.int (n : Nat)]) (hn : n < 1000) : zAR gr ρ = some ((List.range n).map fun (k : Nat) => .int (k : Int)) := by
 show (gr ρ).bind rng1 = _
 rw [h1, Option.bind_some, zI3 n hn]
theorem zCb {ga : Rho -> Option D} {ρ : Rho} {d : D} {l : List D} (h1 : ga ρ = some d) (h2 : seqD d = some l) : iSeq ga ρ = some l := by
 show (ga ρ).bind seqD = _
 rw [h1, Option.bind_some, h2]
noncomputable def dn := And.intro @zOw (And.intro @zJ3 (And.intro @zJQ (And.intro @zNX (And.intro @zMO (And.intro @zNO (And.intro @ap_if (And.intro @zKk (And.intro @zIn (And.intro @zLe (And.intro @zN7 (And.intro @ap_V (And.intro @ap_C (And.intro @zBn (And.intro @ap_un (And.intro @zGD (And.intro @zGV (And.intro @zGS (And.intro @zK2 (And.intro @zOa (And.intro @ap_B (And.intro @zNs (And.intro @zNE (And.intro @ap_or (And.intro @zMG (And.intro @zMb (And.intro @zNZ (And.intro @zN5 (And.intro @ap_is (And.intro @zLq (And.intro @ap_no (And.intro @ap_oE (And.intro @ap_sl (And.intro @zLZ (And.intro @zJj (And.intro @ap_T (And.intro @ap_fn (And.intro @zMJ (And.intro @zJU (And.intro @zMX (And.intro @zMP (And.intro @zGW (And.intro @asI_i (And.intro @seq_L (And.intro @seq_T (And.intro @zEE (And.intro @dct_l (And.intro @dct_i (And.intro @dct_b (And.intro @zFF (And.intro @zMv (And.intro @zKE (And.intro @zKY (And.intro @zMs (And.intro @zLT (And.intro @zKn (And.intro @zJF (And.intro @zLP (And.intro @zNb (And.intro @zM3 (And.intro @ix0L (And.intro @ix1L (And.intro @ix2L (And.intro @ix3L (And.intro @ix4L (And.intro @add_i (And.intro @sub_i (And.intro @lt_i (And.intro @le_i (And.intro @gt_i (And.intro @ge_i (And.intro @eq_i (And.intro @ne_i (And.intro @neg_i (And.intro @abs_i (And.intro @len_L (And.intro @len_T (And.intro @zJM (And.intro @zK4 (And.intro @zOA (And.intro @zHC (And.intro @bl0 (And.intro @bl1 (And.intro @L_g0 (And.intro @L_gs (And.intro @L_mc (And.intro @L_mn (And.intro @L_lc (And.intro @L_ln (And.intro @L_ca (And.intro @L_na (And.intro @L_s0 (And.intro @L_ss (And.intro @L_r0 (And.intro @L_rs (And.intro @O_bs (And.intro @Bool.not_true (And.intro @Bool.not_false (@Bool.false_eq_true))))))))))))))))))))))))))))))))))))))))))))))))))))))))))))))))))))))))))))))))))))))))))))))))))
end My
namespace My
open PySem PySem.SeqAt L2 DL SD SL EL DC
abbrev Row := List Int
noncomputable def insL (p : Row) : List Row -> List Row
 | [] => [p]
 | q :: r => if HT.lexLt q p = true then q :: insL p r else p :: q :: r
noncomputable def zA3 : List Row -> List Row
 | [] => []
 | p :: r => insL p (zA3 r)
noncomputable def fK (k : Row) : KD := (k, tupI k)
theorem zGT (p : Row) : ∀ l : List Row, insK (fK p) (l.map fK) = (insL p l).map fK
 | [] => rfl
 | q :: r => by
  show (if HT.lexLt q p = true then fK q :: insK (fK p) (r.map fK) else fK p :: fK q :: r.map fK) = (if HT.lexLt q p = true then q :: insL p r else p :: q :: r).map fK
  split
  ·rw [zGT p r]; rfl
  ·rfl
theorem zEC : ∀ l : List Row, zAQ (l.map fK) = (zA3 l).map fK
 | [] => rfl
 | p :: r => by
  show insK (fK p) (zAQ (r.map fK)) = (insL p (zA3 r)).map fK
  rw [zEC r, zGT]
theorem zIb (p : Row) : ∀ l : List Row, (insL p l).Perm (p :: l)
 | [] => .refl _
 | q :: r => by
  unfold insL
  split
  ·exact ((zIb p r).cons q).trans (.swap _ _ _)
  ·exact .refl _
theorem zDy : ∀ l : List Row, (zA3 l).Perm l
 | [] => .refl _
 | p :: r => (zIb p (zA3 r)).trans ((zDy r).cons p)
theorem zN4 (l : List Row) : (zA3 l).Pairwise fun a b => HT.lexLt b a = false := by
 have := zCX (l.map fK)
 rw [zEC, List.pairwise_map] at this
 exact this
theorem zHE : ∀ l : List Row, l.Nodup -> dd l = l
 | [], _ => rfl
 | k :: r, h => by
  obtain ⟨h1, h2⟩ := List.nodup_cons.mp h
  unfold dd
  rw [if_neg h1, zHE r h2]
theorem zHS : ∀ {k m : Row}, k.length = m.length -> zA2 (k.map PyData.int) (m.map PyData.int) = true
 | [], [], _ => rfl
 | x :: k, y :: m, h => by
  show (zBc (.int x) (.int y) && zA2 (k.map PyData.int) (m.map PyData.int)) = true
  rw [zHS (by simpa using h)]
  rfl
 | [], _ :: _, h => by cases h
 | _ :: _, [], h => by cases h
theorem zF5 : ∀ k : Row, zBe (k.map PyData.int) = some k
 | [] => rfl
 | x :: k => by
  have := zF5 k
  simp [zBe, zBY, this]
theorem zIy {d0 : Row} (h0 : d0 ≠ []) : ∀ {l : List Row}, (∀ k ∈ l, k.length = d0.length) -> zAT (d0.map PyData.int) (l.map tupI) = some (l.map fK)
 | [], _ => rfl
 | k :: l, h => by
  have hk := h k List.mem_cons_self
  have e1 : rowK (d0.map PyData.int) (tupI k) = some k := by
   cases k with
   | nil => exact absurd (List.eq_nil_of_length_eq_zero hk.symm) h0
   | cons x k =>
    show (if zA2 (d0.map PyData.int) ((x :: k).map PyData.int) = true then zBe ((x :: k).map PyData.int) else none) = _
    rw [if_pos (zHS hk.symm), zF5]
  show (rowK (d0.map PyData.int) (tupI k)).bind _ = _
  rw [e1, Option.bind_some, zIy h0 fun k hk => h k (List.mem_cons_of_mem _ hk)]
  rfl
theorem zDS {l : List Row} (h : ∀ k ∈ l, k.length = 2) (hl : l.length <= 63) : zCf [.list (l.map tupI)] = some (.list ((zA3 l).map tupI)) := by
 cases l with
 | nil => rfl
 | cons k0 kr =>
  have h0 : k0.length = 2 := h k0 List.mem_cons_self
  have e2 := zIy (d0 := k0) (fun q => by rw [q] at h0; cases h0) (l := k0 :: kr) fun k hk => (h k hk).trans h0.symm
  show (if (kr.map tupI).length < 63 then (zAT (k0.map PyData.int) ((k0 :: kr).map tupI)).bind fun l => some (PyData.list ((zAQ l).map (·.2))) else none) = _
  rw [if_pos (by rw [List.length_map]; simp only [List.length_cons] at hl; omega), e2]
  show some (PyData.list ((zAQ ((k0 :: kr).map fK)).map (·.2))) = _
  rw [zEC, List.map_map]
  rfl
noncomputable def row (c : C) : Row := [c.1, c.2]
noncomputable def ltC (a b : C) : Bool := HT.lexLt (row a) (row b)
theorem zDp (a b : C) : ltC a b = true ↔ a.1 < b.1 ∨ (a.1 = b.1 /\ a.2 < b.2) := by
 unfold ltC row
 rw [HT.lexLt_cons]
 by_cases h : a.1 = b.1
 ·rw [if_pos h, HT.lexLt_cons]
  by_cases h' : a.2 = b.2
  ·rw [if_pos h']; simp [HT.lexLt]; omega
  ·rw [if_neg h']; simp; omega
 ·rw [if_neg h]; simp; omega
noncomputable def Up (l : List C) : Prop := l.Pairwise fun a b => ltC a b = true
theorem zEb : ∀ {l m : List C}, Up l -> Up m -> (∀ c, c ∈ l ↔ c ∈ m) -> l = m
 | [], [], _, _, _ => rfl
 | [], b :: m, _, _, h => nomatch (h b).mpr List.mem_cons_self
 | a :: l, [], _, _, h => nomatch (h a).mp List.mem_cons_self
 | a :: l, b :: m, h1, h2, h => by
  obtain ⟨a1, a2⟩ := List.pairwise_cons.mp h1
  obtain ⟨b1, b2⟩ := List.pairwise_cons.mp h2
  have irr : ∀ c : C, ltC c c = true -> False := fun c q => by rw [zDp] at q; omega
  have e : a = b := by
   rcases List.mem_cons.mp ((h a).mp List.mem_cons_self) with q | q
   ·exact q
   ·rcases List.mem_cons.mp ((h b).mpr List.mem_cons_self) with r | r
    ·exact r.symm
    ·have x := b1 a q
     have y := a1 b r
     rw [zDp] at x y
     omega
  subst e
  congr 1
  refine zEb a2 b2 fun c => ⟨fun q => ?_, fun q => ?_⟩
  ·rcases List.mem_cons.mp ((h c).mp (List.mem_cons_of_mem _ q)) with r | r
   ·subst r; exact (irr _ (a1 _ q)).elim
   ·exact r
  ·rcases List.mem_cons.mp ((h c).mpr (List.mem_cons_of_mem _ q)) with r | r
   ·subst r; exact (irr _ (b1 _ q)).elim
   ·exact r
theorem zDh {l : List C} (h : Up l) : l.Nodup := h.imp fun {a b} q e => by subst e; rw [zDp] at q; omega
theorem zGN {l : List C} (hn : l.Nodup) : ∃ m : List C, zA3 (l.map row) = m.map row /\ Up m /\ ∀ c, c ∈ m ↔ c ∈ l := by
 obtain ⟨m, hm⟩ : ∃ m : List C, m = (zA3 (l.map row)).map fun r => (r.getD 0 0, r.getD 1 0) := ⟨_, rfl⟩
 have mem : ∀ r, r ∈ zA3 (l.map row) ↔ r ∈ l.map row := fun r => (zDy _).mem_iff
 have e : zA3 (l.map row) = m.map row := by
  rw [hm, List.map_map]
  conv => lhs; rw [<- List.map_id (zA3 (l.map row))]
  refine List.map_congr_left fun r hr => ?_
  obtain ⟨c, _, rfl⟩ := List.mem_map.mp ((mem r).mp hr)
  rfl
 have inj : ∀ a b : C, row a = row b -> a = b := fun a b q => by
  unfold row at q
  injection q with q1 q2
  injection q2 with q2 _
  exact Prod.ext q1 q2
 have mm : ∀ c, c ∈ m ↔ c ∈ l := fun c => by
  constructor
  ·intro h
   have : row c ∈ l.map row := (mem _).mp (by rw [e]; exact List.mem_map_of_mem h)
   obtain ⟨d, hd, q⟩ := List.mem_map.mp this
   rw [<- inj _ _ q]; exact hd
  ·intro h
   have : row c ∈ m.map row := by rw [<- e]; exact (mem _).mpr (List.mem_map_of_mem h)
   obtain ⟨d, hd, q⟩ := List.mem_map.mp this
   rw [<- inj _ _ q]; exact hd
 refine ⟨m, e, ?_, mm⟩
 have s := zN4 (l.map row)
 have n : (zA3 (l.map row)).Nodup := (zDy _).nodup_iff.mpr (by
  rw [List.Nodup, List.pairwise_map]
  exact hn.imp fun {a b} q r => q (inj _ _ r))
 rw [e] at s n
 rw [List.pairwise_map] at s
 rw [List.Nodup, List.pairwise_map] at n
 refine (s.and n).imp fun {a b} h => ?_
 cases q : ltC a b with
 | true => rfl
 | false => exact absurd (zDm _ _ q h.1) h.2
theorem zEP (l : List C) : (l.map row).map tupI = l.map zAd := by rw [List.map_map]; rfl
theorem zG7 {l m : List C} (hn : l.Nodup) (hl : l.length <= 63) (hm : Up m) (h : ∀ c, c ∈ m ↔ c ∈ l) : zCf [.list (l.map zAd)] = some (.list (m.map zAd)) := by
 rw [<- zEP l, zDS (fun k hk => by obtain ⟨c, _, rfl⟩ := List.mem_map.mp hk; rfl) (by rw [List.length_map]; exact hl)]
 obtain ⟨m', e1, e2, e3⟩ := zGN hn
 rw [e1, zEP, zEb e2 hm fun c => (e3 c).trans (h c).symm]
noncomputable def cells (w h : Nat) : List C := (List.range w).flatMap fun (x : Nat) => (List.range h).map fun (y : Nat) => ((x : Int), (y : Int))
noncomputable def inR (w h : Nat) (c : C) : Bool := decide (0 <= c.1) && decide (c.1 < w) && decide (0 <= c.2) && decide (c.2 < h)
theorem zBs {w h : Nat} {c : C} : inR w h c = true ↔ 0 <= c.1 /\ c.1 < w /\ 0 <= c.2 /\ c.2 < h := by
 unfold inR
 simp only [Bool.and_eq_true, decide_eq_true_eq]
 constructor
 ·intro q; exact ⟨q.1.1.1, q.1.1.2, q.1.2, q.2⟩
 ·intro q; exact ⟨⟨⟨q.1, q.2.1⟩, q.2.2.1⟩, q.2.2.2⟩
theorem zBq {w h : Nat} {c : C} : c ∈ cells w h ↔ inR w h c = true := by
 unfold cells
 rw [List.mem_flatMap, zBs]
 constructor
 ·rintro ⟨x, hx, hc⟩
  obtain ⟨y, hy, rfl⟩ := List.mem_map.mp hc
  have := List.mem_range.mp hx
  have := List.mem_range.mp hy
  dsimp only
  omega
 ·intro q
  refine ⟨c.1.toNat, List.mem_range.mpr (by omega), List.mem_map.mpr ⟨c.2.toNat, List.mem_range.mpr (by omega), ?_⟩⟩
  exact Prod.ext (by dsimp only; omega) (by dsimp only; omega)
theorem zNK (h : Nat) (x : Nat) : Up ((List.range h).map fun (y : Nat) => ((x : Int), (y : Int))) := by
 unfold Up
 rw [List.pairwise_map]
 refine List.pairwise_lt_range.imp fun {a b} q => ?_
 rw [zDp]
 dsimp only
 omega
theorem zBR (w h : Nat) : Up (cells w h) := by
 unfold Up cells
 rw [List.pairwise_flatMap]
 refine ⟨fun x _ => zNK h x, List.pairwise_lt_range.imp fun {a b} q c hc d hd => ?_⟩
 obtain ⟨y, _, rfl⟩ := List.mem_map.mp hc
 obtain ⟨z, _, rfl⟩ := List.mem_map.mp hd
 rw [zDp]
 dsimp only
 omega
theorem zB3 {l : List C} (h : Up l) (p : C -> Bool) : Up (l.filter p) := List.Pairwise.filter p h
theorem zIc (h : Nat) : ∀ l : List Nat, (l.map fun _ => h).sum = l.length * h
 | [] => by simp
 | _ :: l => by rw [List.map_cons, List.sum_cons, zIc h l, List.length_cons, Nat.succ_mul, Nat.add_comm]
theorem zMY (w h : Nat) : (cells w h).length = w * h := by
 unfold cells
 rw [List.length_flatMap]
 simp only [List.length_map, List.length_range]
 rw [zIc, List.length_range]
end My
namespace My
open PySem PySem.SeqAt L2 DL SD SL EL DC
noncomputable def swp (c : C) : C := (c.2, c.1)
end My
namespace My
open PySem PySem.SeqAt L2 DL SD SL EL DC
noncomputable def scr (ns : List Int) : D := .list (ns.map PyData.int)
theorem zDN : ∀ ns : List Int, PyData.canLayAll0 (ns.map PyData.int) = true /\ PyData.depthAll (ns.map PyData.int) = 0
 | [] => ⟨rfl, rfl⟩
 | _ :: r => ⟨by simp [PyData.canLayAll0, PyData.canLay0, (zDN r).1], by simp [PyData.depthAll, PyData.depth, (zDN r).2]⟩
theorem zNl (ns : List Int) : SeqAt.shaped (scr ns) = true := by
 simp [SeqAt.shaped, scr, PyData.canLay0, PyData.depth, (zDN ns).1, (zDN ns).2]
theorem zOn {ns : List Int} {i : Int} (h0 : 0 <= i) (h1 : i < ns.length) : ∃ r, dIx (scr ns) (.int i) = some (.int r) := by
 show ∃ r, L2.atI (ns.map PyData.int) i = some (.int r)
 unfold L2.atI L2.ixN
 rw [List.length_map, if_pos h0, if_pos h1]
 have : i.toNat < ns.length := by omega
 exact ⟨ns[i.toNat], by simp [this]⟩
theorem zNn (ns : List Int) (hn : ns.length <= 63) (k : Int) : ∃ r, zCh [scr ns, .int k] = some (.int r) := by
 cases ns with
 | nil =>
  have e : dEq (scr []) (.list []) = some (.bool true) := rfl
  have m : zAz (.int 7) (.int k) = some (.int (7 * k)) := zBG (okS (by decide) (by decide))
  exact ⟨7 * k, by simp only [zCh, zEd, id dn, zAk, if_true, if_false, reduceIte, Nat.reduceAdd, Nat.reduceSub, Nat.reduceLeDiff, e, m]⟩
 | cons n ns =>
  have hl : (0 : Int) < ((n :: ns).length : Int) := by rw [List.length_cons]; omega
  have e : dEq (scr (n :: ns)) (.list []) = some (.bool false) := by
   unfold dEq
   rw [zNl]
   rfl
  have ln : dLen [scr (n :: ns)] = some (.int ((n :: ns).length : Int)) := by
   show some (PyData.int (((n :: ns).map PyData.int).length : Int)) = _
   rw [List.length_map]
  obtain ⟨r, hr⟩ := zOn (ns := n :: ns) (i := k % ((n :: ns).length : Int)) (Int.emod_nonneg _ (by omega)) (Int.emod_lt_of_pos _ hl)
  have hl' : ((n :: ns).length : Int) < 1073741824 := by omega
  generalize ((n :: ns).length : Int) = L at *
  generalize scr (n :: ns) = S at *
  have m1 := zDk (i := k) hl
  have m2 := zD4 (i := k) (okD hl hl')
  have m3 : zAz (.int 6553) (.int (k / L)) = some (.int (6553 * (k / L))) := zBG (okS (by decide) (by decide))
  exact ⟨r + 6553 * (k / L), by simp only [zCh, zEd, id dn, zAk, if_true, if_false, reduceIte, Nat.reduceAdd, Nat.reduceSub, Nat.reduceLeDiff, e, ln, m1, m2, m3, hr]⟩
noncomputable def dr (ns : List Int) (k m : Int) : Int := match zAH [scr ns, .int k, .int m] with
 | some (.int r) => r
 | _ => 0
theorem zB0 (ns : List Int) (hn : ns.length <= 63) (k m : Int) (hm : 0 < m) : zAH [scr ns, .int k, .int m] = some (.int (dr ns k m)) /\ 0 <= dr ns k m /\ dr ns k m < m := by
 have key : ∃ r, zAH [scr ns, .int k, .int m] = some (.int r) /\ 0 <= r /\ r < m := by
  obtain ⟨c, hc⟩ := zNn ns hn k
  obtain ⟨u, hu⟩ : ∃ u, u = ((c % 2147483563) * 69069 + 104723 * (k + 1)) % 2147483563 := ⟨_, rfl⟩
  have u0 : 0 <= u := by rw [hu]; exact Int.emod_nonneg _ (by omega)
  have u1 : u < 2147483563 := by rw [hu]; exact Int.emod_lt_of_pos _ (by omega)
  obtain ⟨v, hv⟩ : ∃ v, v = (u * u + u / 3) % 2147483399 := ⟨_, rfl⟩
  have v0 : 0 <= v := by rw [hv]; exact Int.emod_nonneg _ (by omega)
  have v1 : v < 2147483399 := by rw [hv]; exact Int.emod_lt_of_pos _ (by omega)
  have a1 : ∀ i : Int, dMod (.int i) (.int 2147483563) = some (.int (i % 2147483563)) := fun i => zDk (by decide)
  have a2 : ∀ i : Int, zAz (.int i) (.int 69069) = some (.int (i * 69069)) := fun i => zBG (okT (by decide) (by decide))
  have a3 : ∀ i : Int, zAz (.int 104723) (.int i) = some (.int (104723 * i)) := fun i => zBG (okS (by decide) (by decide))
  have a4 : zAz (.int u) (.int u) = some (.int (u * u)) := zBG (okS (by omega) (by omega))
  have a5 : ∀ i : Int, zBL (.int i) (.int 3) = some (.int (i / 3)) := fun i => zD4 (okD (by decide) (by decide))
  have a6 : ∀ i : Int, dMod (.int i) (.int 2147483399) = some (.int (i % 2147483399)) := fun i => zDk (by decide)
  have a7 : zAz (.int v) (.int v) = some (.int (v * v)) := zBG (okS (by omega) (by omega))
  have a8 : ∀ i : Int, zBL (.int i) (.int 7) = some (.int (i / 7)) := fun i => zD4 (okD (by decide) (by decide))
  have a9 : ∀ i : Int, dMod (.int i) (.int 2147483647) = some (.int (i % 2147483647)) := fun i => zDk (by decide)
  have b1 : ∀ i : Int, zBL (.int i) (.int 11) = some (.int (i / 11)) := fun i => zD4 (okD (by decide) (by decide))
  have b2 : ∀ i : Int, dMod (.int i) (.int m) = some (.int (i % m)) := fun i => zDk hm
  refine ⟨(v * v + v / 7) % 2147483647 / 11 % m, ?_, Int.emod_nonneg _ (by omega), Int.emod_lt_of_pos _ hm⟩
  simp only [zAH, zEx, id dn, zAk, if_true, if_false, reduceIte, Nat.reduceAdd, Nat.reduceSub, Nat.reduceLeDiff, hc, a1, a2, a3, <- hu, a4, a5, a6, <- hv, a7, a8, a9, b1, b2]
 obtain ⟨r, h1, h2, h3⟩ := key
 have : dr ns k m = r := by unfold dr; rw [h1]
 rw [this]
 exact ⟨h1, h2, h3⟩
noncomputable def zAY (w h : Nat) (W : C -> Bool) : D := .tuple (((cells w h).filter W).map zAd)
noncomputable def flD (w h : Nat) (W : C -> Bool) : D := .tuple [.int w, .int h, zAY w h W]
theorem fl_0 (w h : Nat) (W : C -> Bool) : dIx (flD w h W) (.int 0) = some (.int w) := id rfl
theorem fl_1 (w h : Nat) (W : C -> Bool) : dIx (flD w h W) (.int 1) = some (.int h) := id rfl
theorem fl_2 (w h : Nat) (W : C -> Bool) : dIx (flD w h W) (.int 2) = some (zAY w h W) := id rfl
theorem seq_W (w h : Nat) (W : C -> Bool) : seqD (zAY w h W) = some (((cells w h).filter W).map zAd) := id rfl
theorem zEB (w h : Nat) (p : Nat -> Nat -> Bool) : ((List.range w).flatMap fun (x : Nat) => ((List.range h).filter (p x)).map fun (y : Nat) => ((x : Int), (y : Int))) = (cells w h).filter fun c => p c.1.toNat c.2.toNat := by
 unfold cells
 rw [List.filter_flatMap]
 congr 1
 funext x
 rw [List.filter_map]
 rfl
theorem zGg {i : Nat} {ga : Rho -> Option D} {ρ : Rho} {ds es : List D} (h1 : ρ[i]? = some (.own ds)) (h2 : ga ρ = some (.list es)) (h3 : ds.length + es.length <= 1000) : sExt i ga ρ = some (.nx (ρ.set i (.own (ds ++ es)))) := by
 unfold sExt
 rw [h1]
 show (ga ρ).bind _ = _
 rw [h2]
 show (if ds.length + es.length <= 1000 then _ else _) = _
 rw [if_pos h3]
theorem zGY {α : Type} (f : Nat -> List α) : ∀ (l : List Nat) (acc : List α), l.foldl (fun a x => a ++ f x) acc = acc ++ l.flatMap f
 | [], acc => by simp
 | x :: l, acc => by rw [List.foldl_cons, zGY f l, List.flatMap_cons, List.append_assoc]
theorem zHe {α : Type} (f : Nat -> List α) (g : Nat -> Sl) : ∀ (l : List Nat) (acc : List α) (s : Sl), l.foldl (fun (b : List α × Sl) x => (b.1 ++ f x, g x)) (acc, s) = (l.foldl (fun a x => a ++ f x) acc, l.foldl (fun _ x => g x) s)
 | [], acc, s => rfl
 | x :: l, acc, s => by rw [List.foldl_cons, List.foldl_cons, List.foldl_cons]; exact zHe f g l _ _
noncomputable def zFM (q : Int) : Int := if q = 0 then 2 else if q = 1 then 3 else if q = 2 then 3 else if q = 3 then 5 else 9
theorem zLa (q : Int) (h0 : 0 <= q) (h1 : q < 5) : dIx (.list [.int 2, .int 3, .int 3, .int 5, .int 9]) (.int q) = some (.int (zFM q)) /\ 0 < zFM q := by
 have : q = 0 ∨ q = 1 ∨ q = 2 ∨ q = 3 ∨ q = 4 := by omega
 rcases this with rfl | rfl | rfl | rfl | rfl <;> exact ⟨rfl, by decide⟩
theorem zLX (ns : List Int) (hn : ns.length <= 63) (at' : Int) (m : Nat) (hm : 0 < m) (hm' : m <= 5) : ∃ (w h : Nat) (W : C -> Bool), zB9 [scr ns, .int at', .int m] = some (flD w h W) /\ 1 <= w /\ w <= m /\ 1 <= h /\ h <= m := by
 obtain ⟨e1, w0, w1⟩ := zB0 ns hn at' m (by omega)
 obtain ⟨e2, h0, h1⟩ := zB0 ns hn (at' + 1) m (by omega)
 obtain ⟨e3, q0, q1⟩ := zB0 ns hn (at' + 2) 5 (by omega)
 obtain ⟨e4, r0⟩ := zLa _ q0 q1
 generalize dr ns at' m = dw at *
 generalize dr ns (at' + 1) m = dh at *
 generalize zFM (dr ns (at' + 2) 5) = rate at *
 obtain ⟨w, hw⟩ : ∃ w : Nat, 1 + dw = w := ⟨(1 + dw).toNat, by omega⟩
 obtain ⟨h, hh⟩ : ∃ h : Nat, 1 + dh = h := ⟨(1 + dh).toNat, by omega⟩
 refine ⟨w, h, fun c => dr ns (at' + 3 + 8 * (c.1.toNat : Int) + (c.2.toNat : Int)) rate == 0, ?_, by omega, by omega, by omega, by omega⟩
 refine zBN ?_
 unfold zFJ
 rw [show zAF 8 [scr ns, .int at', .int m] = [.dat (scr ns), .dat (.int at'), .dat (.int m), .no, .no, .no, .no, .no] from rfl]
 refine zAD (by (simp only [id dn, zAk, if_true, if_false, reduceIte, Nat.reduceAdd, Nat.reduceSub, Nat.reduceLeDiff, e1, hw] <;> rfl)) ?_
 refine zAD (by (simp only [id dn, zAk, if_true, if_false, reduceIte, Nat.reduceAdd, Nat.reduceSub, Nat.reduceLeDiff, e2, hh] <;> rfl)) ?_
 refine zAD (by (simp only [id dn, zAk, if_true, if_false, reduceIte, Nat.reduceAdd, Nat.reduceSub, Nat.reduceLeDiff, e3, e4] <;> rfl)) ?_
 refine zAD (by (simp only [id dn, zAk, if_true, if_false, reduceIte, Nat.reduceAdd, Nat.reduceSub, Nat.reduceLeDiff] <;> rfl)) ?_
 obtain ⟨f, hf⟩ : ∃ f : Nat -> List C, f = fun (x : Nat) => ((List.range h).filter fun (y : Nat) => dr ns (at' + 3 + 8 * (x : Int) + (y : Int)) rate == 0).map fun (y : Nat) => ((x : Int), (y : Int)) := ⟨_, rfl⟩
 have fl : ∀ x, (f x).length <= 5 := fun x => by
  rw [hf, List.length_map]
  refine Nat.le_trans (List.length_filter_le _ _) ?_
  rw [List.length_range]; omega
 refine zAD (zEZ (n := w) rfl (by omega) (zD0 (fun (k : Nat) => .int (k : Int)) (fun (b : List C × Sl) => [.dat (scr ns), .dat (.int at'), .dat (.int m), .dat (.int w), .dat (.int h), .dat (.int rate), .own (b.1.map zAd), b.2])
  (fun b x => (b.1 ++ f x, .dat (.int (x : Int)))) (fun i b => b.1.length <= 5 * i) 5 (List.range w) 0 ([], .no) (by rw [List.length_range]; omega) (Nat.le_refl _) fun x hx i b hi hp => ?_)) ?_
 ·obtain ⟨acc, s7⟩ := b
  have hp' : acc.length <= 5 * i := hp
  have hfx := fl x
  refine ⟨⟨[.dat (scr ns), .dat (.int at'), .dat (.int m), .dat (.int w), .dat (.int h), .dat (.int rate), .own (acc.map zAd), .dat (.int (x : Int))], rfl, ?_⟩, by show (acc ++ f x).length <= 5 * (i + 1); rw [List.length_append]; omega⟩
  refine (zGg (ds := acc.map zAd) (es := (f x).map zAd) rfl ?_ (by rw [List.length_map, List.length_map]; omega)).trans ?_
  ·have := zIX (gi := zAR (zAa (eV 4) eNil)) (s := zAo 0) (t := eB (eOp dEq (zAh zAH (zAa (eV 2) (zAa (eOp zAu (eOp zAu (eOp zAu (eV 4) (eC (.int 3))) (eOp zAz (eC (.int 8)) (eV 1))) (eV 0)) (zAa (eV 3) eNil)))) (eC (.int 0))))
    (ge := eTup (zAa (eV 1) (zAa (eV 0) eNil))) (inner := [none, some 7, some 0, some 5, some 1]) (xs := List.range h) (ρ := [.dat (scr ns), .dat (.int at'), .dat (.int m), .dat (.int w), .dat (.int h), .dat (.int rate), .own (acc.map zAd), .dat (.int (x : Int))])
    (fun (k : Nat) => .int (k : Int)) (fun (y : Nat) => dr ns (at' + 3 + 8 * (x : Int) + (y : Int)) rate == 0) (fun (y : Nat) => zAd ((x : Int), (y : Int)))
    (fun ρ => ∃ s0, ρ = [s0, .dat (.int (x : Int)), .dat (scr ns), .dat (.int rate), .dat (.int at')]) (zEk (n := h) rfl (by omega)) (by rw [List.length_range]; omega) ⟨.no, rfl⟩ (by
     rintro y hy ρ ⟨s0, rfl⟩
     have e := (zB0 ns hn (at' + 3 + 8 * (x : Int) + (y : Int)) rate r0).1
     have m8 : zAz (.int 8) (.int (x : Int)) = some (.int (8 * (x : Int))) := zBG (okS (by decide) (by decide))
     exact ⟨[.dat (.int (y : Int)), .dat (.int (x : Int)), .dat (scr ns), .dat (.int rate), .dat (.int at')], rfl, ⟨_, rfl⟩, by simp only [id dn, zAk, if_true, if_false, reduceIte, Nat.reduceAdd, Nat.reduceSub, Nat.reduceLeDiff, m8, e], fun _ => rfl⟩)
   refine this.trans ?_
   rw [hf, List.map_map]
   rfl
  ·show some (Out.nx _) = some (Out.nx _)
   simp only [List.set_cons_succ, List.set_cons_zero, List.map_append]
 ·refine zBl ?_
  rw [zHe, zGY]
  have ff : (List.range w).flatMap f = (cells w h).filter fun c => dr ns (at' + 3 + 8 * (c.1.toNat : Int) + (c.2.toNat : Int)) rate == 0 := by
   rw [hf]
   exact zEB w h fun x y => dr ns (at' + 3 + 8 * (x : Int) + (y : Int)) rate == 0
  rw [List.nil_append, ff]
  rfl
end My
namespace My
open PySem PySem.StrLaws
open Builtin Builtin.Str
noncomputable def zAm (y : List Nat) : List (List Nat) -> List Nat
 | [] => []
 | [p] => p
 | p :: q :: r => p ++ y ++ zAm y (q :: r)
noncomputable def tl (x : Str) : List Nat := x.cps.toList
theorem zBQ {x y : Str} (h : tl x = tl y) : x = y := Str.ext' (Array.toList_inj.mp h)
theorem zAt (x : Str) : (tl x).length = x.length := by simp [tl, Str.length]
theorem zAS (x y : Str) : tl (x ++ y) = tl x ++ tl y := by simp [tl, Str.cps_append]
theorem zBw (y : Str) : ∀ xs : List Str, tl (Txt.join y xs) = zAm (tl y) (xs.map tl) := by
 intro xs
 show tl (glued y xs) = _
 rw [glued_eq_join]
 induction xs with
 | nil => rfl
 | cons x xs ih =>
  cases xs with
  | nil => rfl
  | cons z r =>
   show tl (x ++ y ++ Str.join y (z :: r)) = _
   rw [zAS, zAS, ih]
   rfl
noncomputable def Good (Y : List Nat) : List (List Nat) -> Prop
 | [] => True
 | [p] => ∀ k, k + Y.length <= p.length -> (p.drop k).take Y.length ≠ Y
 | p :: q :: r => (∀ k, k < p.length -> ∀ R, ((p ++ Y ++ R).drop k).take Y.length ≠ Y) /\ Good Y (q :: r)
theorem zDr (x y : Str) (k : Nat) : At x y x.length k ↔ k + (tl y).length <= (tl x).length /\ ((tl x).drop k).take (tl y).length = tl y := by
 unfold At
 rw [subAt_eq, zAt, zAt, beq_iff_eq]
 rfl
theorem zFW {x p : Str} {a c : Nat} (h : ((tl x).drop a).take (c - a) = tl p) : strSub x a c = p := zBQ ((strSub_toList x a c).trans h)
theorem zIi {x y : Str} : ∀ (cuts : List Nat) (a f : Nat) (p : Str) (ps : List Str), ChainG x y x.length a cuts f -> (∀ k, f <= k -> ¬ At x y x.length k) -> (tl x).drop a = zAm (tl y) ((p :: ps).map tl) -> a <= (tl x).length -> Good (tl y) ((p :: ps).map tl) ->
  partsFrom x y.length a cuts = p :: ps
 | [], a, f, p, [], h, hn, e, ha, g => by
  have e' : (tl x).drop a = tl p := e
  show [strSub x a x.length] = [p]
  rw [zFW (p := p)]
  rw [<- e', List.take_of_length_le (by rw [List.length_drop, zAt]; omega)]
 | [], a, f, p, q :: r, h, hn, e, ha, g => by
  have e' : (tl x).drop a = tl p ++ tl y ++ zAm (tl y) ((q :: r).map tl) := e
  have ef : f = a := h
  have le := congrArg List.length e'
  rw [List.length_drop, List.length_append, List.length_append] at le
  refine absurd ((zDr x y (a + (tl p).length)).mpr ⟨by omega, ?_⟩) (hn _ (by omega))
  rw [<- List.drop_drop, e', List.append_assoc, List.drop_left, List.take_left]
 | c :: r', a, f, p, [], h, hn, e, ha, g => by
  have e' : (tl x).drop a = tl p := e
  have le := congrArg List.length e'
  rw [List.length_drop] at le
  obtain ⟨h1, h2, _⟩ := h
  obtain ⟨h3, h4⟩ := (zDr x y c).mp h2
  refine absurd ?_ (g (c - a) (by omega))
  rw [<- e', List.drop_drop, show a + (c - a) = c by omega]
  exact h4
 | c :: r', a, f, p, q :: r, h, hn, e, ha, g => by
  have e' : (tl x).drop a = tl p ++ tl y ++ zAm (tl y) ((q :: r).map tl) := e
  have le := congrArg List.length e'
  rw [List.length_drop, List.length_append, List.length_append] at le
  obtain ⟨h1, h2, h5, h6⟩ := h
  obtain ⟨h3, h4⟩ := (zDr x y c).mp h2
  have here : At x y x.length (a + (tl p).length) := (zDr x y _).mpr ⟨by omega, by rw [<- List.drop_drop, e', List.append_assoc, List.drop_left, List.take_left]⟩
  have c1 : c <= a + (tl p).length := Nat.le_of_not_lt fun z => h5 _ (by omega) z here
  have c2 : a + (tl p).length <= c := Nat.le_of_not_lt fun z => by
   refine g.1 (c - a) (by omega) (zAm (tl y) ((q :: r).map tl)) ?_
   rw [<- e', List.drop_drop, show a + (c - a) = c by omega]
   exact h4
  have ec : c = a + (tl p).length := Nat.le_antisymm c1 c2
  show strSub x a c :: partsFrom x y.length (c + y.length) r' = _
  rw [zFW (p := p) (by rw [e', ec, Nat.add_sub_cancel_left, List.append_assoc, List.take_left])]
  refine congrArg _ (zIi r' (c + y.length) f q r h6 hn ?_ (by rw [<- zAt]; omega) g.2)
  rw [ec, <- zAt, Nat.add_assoc, <- List.drop_drop, e', <- List.length_append, List.drop_left]
theorem kind1 (x : Str) : 1 <= Builtin.Str.strKind x := by
 unfold Builtin.Str.strKind
 split
 ·exact Nat.le_refl _
 ·split <;> decide
theorem zDw (x y : Str) (hw : 1 <= y.length) (hk : Builtin.Str.strKind y = 1) : Txt.split x y = partsFrom x y.length 0 (occurrences x y 0 x.length (x.length + 1)) := by
 obtain ⟨f, hG, hn⟩ := occ_tight x y hw
 have one : occurrences x y 0 x.length (x.length + 1) = [] -> [x] = partsFrom x y.length 0 (occurrences x y 0 x.length (x.length + 1)) := fun e => by
  rw [e]
  show _ = [strSub x 0 x.length]
  rw [sub_whole]
 unfold Txt.split
 split
 ·rename_i hc
  rw [Bool.or_eq_true, decide_eq_true_eq, decide_eq_true_eq] at hc
  have := kind1 x
  refine one ?_
  cases q : occurrences x y 0 x.length (x.length + 1) with
  | nil => rfl
  | cons c r =>
   rw [q] at hG
   have := hG.2.1.1
   omega
 ·split
  ·rename_i he
   exact one (List.isEmpty_iff.mp he)
  ·rw [partsBetween_eq]
theorem zE2 {y p : Str} {ps : List Str} (hw : 1 <= y.length) (hk : Builtin.Str.strKind y = 1) (g : Good (tl y) ((p :: ps).map tl)) : Txt.split (Txt.join y (p :: ps)) y = p :: ps := by
 obtain ⟨f, hG, hn⟩ := occ_tight (Txt.join y (p :: ps)) y hw
 rw [zDw _ _ hw hk]
 exact zIi _ 0 f p ps hG hn (by rw [List.drop_zero, zBw]) (Nat.zero_le _) g
theorem zFo {c : Nat} : ∀ {ps : List (List Nat)}, (∀ p ∈ ps, c ∉ p) -> Good [c] ps
 | [], _ => trivial
 | [p], h => fun k hk e => by
  have e0 : ((p.drop k).take 1)[0]? = some c := by rw [show ((p.drop k).take 1) = [c] from e]; rfl
  rw [List.getElem?_take_of_lt (by decide), List.getElem?_drop] at e0
  exact h p List.mem_cons_self (List.mem_of_getElem? e0)
 | p :: q :: r, h => ⟨fun k hk R e => by
  have e0 : (((p ++ [c] ++ R).drop k).take 1)[0]? = some c := by rw [show (((p ++ [c] ++ R).drop k).take 1) = [c] from e]; rfl
  rw [List.getElem?_take_of_lt (by decide), List.getElem?_drop, Nat.add_zero, List.append_assoc, List.getElem?_append_left hk] at e0
  exact h p List.mem_cons_self (List.mem_of_getElem? e0), zFo fun p hp => h p (List.mem_cons_of_mem _ hp)⟩
structure Bk (c : Nat) (l : List Nat) : Prop where
 hd : ∃ d r, l = d :: r /\ d ≠ c
 la : ∀ k, k + 1 = l.length -> l[k]? ≠ some c
 ad : ∀ k, l[k]? = some c -> l[k + 1]? ≠ some c
theorem zHR {c : Nat} : ∀ {ps : List (List Nat)}, (∀ p ∈ ps, Bk c p) -> Good [c, c] ps
 | [], _ => trivial
 | [p], h => fun k hk e => by
  have e' : (p.drop k).take 2 = [c, c] := e
  have e0 : ((p.drop k).take 2)[0]? = some c := by rw [e']; rfl
  have e1 : ((p.drop k).take 2)[1]? = some c := by rw [e']; rfl
  rw [List.getElem?_take_of_lt (by decide), List.getElem?_drop] at e0 e1
  exact (h p List.mem_cons_self).ad k e0 e1
 | p :: q :: r, h => ⟨fun k hk R e => by
  have e' : ((p ++ [c, c] ++ R).drop k).take 2 = [c, c] := e
  have e0 : (((p ++ [c, c] ++ R).drop k).take 2)[0]? = some c := by rw [e']; rfl
  have e1 : (((p ++ [c, c] ++ R).drop k).take 2)[1]? = some c := by rw [e']; rfl
  rw [List.getElem?_take_of_lt (by decide), List.getElem?_drop, List.append_assoc] at e0 e1
  rw [Nat.add_zero, List.getElem?_append_left hk] at e0
  have b := h p List.mem_cons_self
  by_cases z : k + 1 = p.length
  ·exact b.la k z e0
  ·rw [List.getElem?_append_left (by omega)] at e1
   exact b.ad k e0 e1, zHR fun p hp => h p (List.mem_cons_of_mem _ hp)⟩
theorem zE7 {c : Nat} : ∀ {r : List Nat} {rs : List (List Nat)}, (∀ p ∈ r :: rs, p ≠ [] /\ c ∉ p) -> Bk c (zAm [c] (r :: rs))
 | r, [], h => by
  obtain ⟨h1, h2⟩ := h r List.mem_cons_self
  show Bk c r
  refine ⟨?_, fun k _ e => h2 (List.mem_of_getElem? e), fun k e => absurd (List.mem_of_getElem? e) h2⟩
  cases r with
  | nil => exact absurd rfl h1
  | cons d t => exact ⟨d, t, rfl, fun e => h2 (by rw [e]; exact List.mem_cons_self)⟩
 | r, s :: t, h => by
  obtain ⟨h1, h2⟩ := h r List.mem_cons_self
  have b := zE7 (c := c) (r := s) (rs := t) fun p hp => h p (List.mem_cons_of_mem _ hp)
  show Bk c (r ++ [c] ++ zAm [c] (s :: t))
  generalize zAm [c] (s :: t) = J at b
  obtain ⟨d, u, hJ, hd⟩ := b.hd
  have ge : ∀ k, (r ++ [c] ++ J)[k]? = if k < r.length then r[k]? else if k = r.length then some c else J[k - r.length - 1]? := fun k => by
   by_cases k1 : k < r.length
   ·rw [if_pos k1, List.append_assoc, List.getElem?_append_left k1]
   ·rw [if_neg k1]
    by_cases k2 : k = r.length
    ·rw [if_pos k2, k2, List.append_assoc, List.getElem?_append_right (Nat.le_refl _), Nat.sub_self]; rfl
    ·rw [if_neg k2, List.append_assoc, List.getElem?_append_right (by omega), List.getElem?_append_right (by simp only [List.length_singleton]; omega)]; rfl
  have nr : ∀ k, r[k]? ≠ some c := fun k e => h2 (List.mem_of_getElem? e)
  refine ⟨?_, fun k hk e => ?_, fun k e e2 => ?_⟩
  ·cases r with
   | nil => exact absurd rfl h1
   | cons d t => exact ⟨d, _, rfl, fun e => h2 (by rw [e]; exact List.mem_cons_self)⟩
  ·rw [List.length_append, List.length_append, List.length_singleton] at hk
   have lj : 0 < J.length := by rw [hJ]; simp
   rw [ge, if_neg (by omega), if_neg (by omega)] at e
   exact b.la _ (by omega) e
  ·rw [ge] at e e2
   by_cases k1 : k < r.length
   ·rw [if_pos k1] at e; exact nr k e
   ·rw [if_neg k1] at e
    rw [if_neg (by omega), if_neg (by omega)] at e2
    by_cases k2 : k = r.length
    ·rw [k2, show r.length + 1 - r.length - 1 = 0 by omega, hJ] at e2
     exact hd (by injection e2)
    ·rw [if_neg k2] at e
     rw [show k + 1 - r.length - 1 = (k - r.length - 1) + 1 by omega] at e2
     exact b.ad _ e e2
theorem zGl (y : List Nat) {B : Nat} : ∀ {a : List (List Nat)}, (∀ p ∈ a, p.length <= B) -> (zAm y a).length <= a.length * (B + y.length)
 | [], _ => Nat.zero_le _
 | [p], h => by
  have := h p List.mem_cons_self
  show p.length <= 1 * (B + y.length)
  omega
 | p :: q :: r, h => by
  have h1 := h p List.mem_cons_self
  have h2 := zGl y (a := q :: r) fun x hx => h x (List.mem_cons_of_mem _ hx)
  show (p ++ y ++ zAm y (q :: r)).length <= ((q :: r).length + 1) * (B + y.length)
  rw [List.length_append, List.length_append, Nat.succ_mul]
  omega
end My
namespace My
open PySem PySem.SeqAt L2 DL SD SL EL DC EX TX TB
theorem zD5 : ∀ l : List C, PyData.canLayAll0 (l.map zAd) = true /\ PyData.depthAll (l.map zAd) <= 1
 | [] => ⟨rfl, Nat.zero_le _⟩
 | c :: l => by
  obtain ⟨h1, h2⟩ := zD5 l
  refine ⟨by rw [List.map_cons, PyData.canLayAll0, h1]; rfl, ?_⟩
  rw [List.map_cons, PyData.depthAll]
  exact Nat.max_le.mpr ⟨Nat.le_refl _, h2⟩
theorem zHl (l : List C) : SeqAt.shaped (.list (l.map zAd)) = true := by
 obtain ⟨h1, h2⟩ := zD5 l
 have : PyData.depth (.list (l.map zAd)) <= 64 := by show PyData.depthAll (l.map zAd) + 1 <= 64; omega
 simp [SeqAt.shaped, PyData.canLay0, h1, this]
theorem zLv (l : List C) : SeqAt.shaped (.tuple (l.map zAd)) = true := by
 obtain ⟨h1, h2⟩ := zD5 l
 have : PyData.depth (.tuple (l.map zAd)) <= 64 := by show PyData.depthAll (l.map zAd) + 1 <= 64; omega
 simp [SeqAt.shaped, PyData.canLay0, h1, this]
theorem zNM (c : C) : SeqAt.shaped (zAd c) = true := id rfl
theorem zHP (a b : C) : PyData.eqv (zAd a) (zAd b) = (a == b) := by
 show ((a.1 == b.1) && ((a.2 == b.2) && true)) = _
 rw [Bool.and_true]
 obtain ⟨x, y⟩ := a
 obtain ⟨u, v⟩ := b
 rfl
theorem zDg : ∀ l m : List C, PyData.eqvAll (l.map zAd) (m.map zAd) = decide (l = m)
 | [], [] => rfl
 | [], _ :: _ => rfl
 | _ :: _, [] => rfl
 | a :: l, b :: m => by
  show (PyData.eqv (zAd a) (zAd b) && PyData.eqvAll (l.map zAd) (m.map zAd)) = _
  rw [zDg l m, zHP]
  by_cases h1 : a = b <;> by_cases h2 : l = m <;> simp [h1, h2]
theorem eq_Ls (l m : List C) : dEq (.list (l.map zAd)) (.list (m.map zAd)) = some (.bool (decide (l = m))) := by
 unfold dEq
 rw [zHl, zHl]
 show some (PyData.bool (PyData.eqvAll (l.map zAd) (m.map zAd))) = _
 rw [zDg]
theorem any_c (l : List C) (c : C) : ((l.map zAd).any fun y => PyData.eqv y (zAd c)) = l.contains c := by
 induction l with
 | nil => rfl
 | cons a l ih => rw [List.map_cons, List.any_cons, ih, zHP, List.contains_cons, Bool.beq_comm]
theorem in_T (neg : Bool) (c : C) (l : List C) : dIn neg (zAd c) (.tuple (l.map zAd)) = some (.bool (if neg then !l.contains c else l.contains c)) := by
 show (if (SeqAt.shaped (zAd c) && SeqAt.shaped (.tuple (l.map zAd))) = true then _ else _) = _
 rw [zNM, zLv, Bool.and_self, if_pos rfl, any_c]
noncomputable def sol (w h : Nat) (W : C -> Bool) (c : C) : Bool := inR w h c && W c
theorem zIs (w h : Nat) (W : C -> Bool) (c : C) : ((cells w h).filter W).contains c = sol w h W c := by
 rw [Bool.eq_iff_iff, List.contains_iff_mem, List.mem_filter, zBq]
 unfold sol
 rw [Bool.and_eq_true]
theorem in_W (neg : Bool) (c : C) (w h : Nat) (W : C -> Bool) : dIn neg (zAd c) (zAY w h W) = some (.bool (if neg then !sol w h W c else sol w h W c)) := by
 unfold zAY
 rw [in_T, zIs]
theorem zKz (i : Int) : isD "bool" (.int i) = false := id rfl
theorem zGP (i : Int) : zBD [.int i] = some (.bool true) := by
 simp only [zBD, zEF, id dn, zAk, if_true, if_false, reduceIte, Nat.reduceAdd, Nat.reduceSub, Nat.reduceLeDiff, zKz]
theorem zNH (c : C) : zCS [zAd c] = some (.bool true) := by
 simp only [zCS, zE9, id dn, zAk, if_true, if_false, reduceIte, Nat.reduceAdd, Nat.reduceSub, Nat.reduceLeDiff, zGP, beq_self_eq_true]
theorem zGF : ∀ l : List C, zCC (l.map zAd) = some (l.map row)
 | [] => rfl
 | c :: l => by
  show (zAC [.int c.1, .int c.2]).bind (fun is => (zCC (l.map zAd)).bind fun rs => some (is :: rs)) = _
  rw [zGF l]
  rfl
theorem zC4 {a b : C} (q : row a = row b) : a = b := by
 unfold row at q
 injection q with q1 q2
 injection q2 with q2 _
 exact Prod.ext q1 q2
theorem zNU {l : List C} (h : l.Nodup) : (l.map row).Nodup := by
 rw [List.Nodup, List.pairwise_map]
 exact h.imp fun {a b} q r => q (zC4 r)
noncomputable def mkD (l : List C) : D := .dict (l.map fun c => (zAd c, .bool true))
theorem zH8 (c : C) : decT (zAd c) = some (row c) := id rfl
theorem zGf (l : List C) (c : C) : hasD (l.map fun c => (zAd c, PyData.bool true)) (row c) = l.contains c := by
 unfold hasD
 rw [List.any_map]
 induction l with
 | nil => rfl
 | cons a l ih =>
  rw [List.any_cons, ih, List.contains_cons]
  congr 1
  show (decT (zAd a) == some (row c)) = _
  rw [zH8, Bool.eq_iff_iff, beq_iff_eq, beq_iff_eq]
  constructor
  ·intro q; exact (zC4 (Option.some.inj q)).symm
  ·intro q; rw [q]
theorem zNx (l : List C) : zBM (l.map fun c => (zAd c, PyData.bool true)) = true := by
 unfold zBM
 rw [List.all_map, List.all_eq_true]
 intro c _
 rfl
theorem in_mk (neg : Bool) (c : C) (l : List C) : dIn2 neg (zAd c) (mkD l) = some (.bool (if neg then !l.contains c else l.contains c)) := by
 show (decT (zAd c)).bind (fun k => if zBM (l.map fun c => (zAd c, PyData.bool true)) = true then some (PyData.bool (if neg then !hasD (l.map fun c => (zAd c, PyData.bool true)) k else hasD (l.map fun c => (zAd c, PyData.bool true)) k)) else none) = _
 rw [zH8, Option.bind_some, zNx, if_pos rfl, zGf]
theorem zIN : ∀ l : List C, zCB (l.map fun c => PyData.tuple [zAd c, .bool true]) = some (l.map fun c => (row c, .bool true))
 | [] => rfl
 | c :: l => by
  show (zDQ (.tuple [zAd c, .bool true])).bind (fun p => (zCB (l.map fun c => PyData.tuple [zAd c, .bool true])).bind fun ps => some (p :: ps)) = _
  rw [zIN l]
  rfl
theorem zMg (l : List C) (c : C) (h : c ∉ l) : putD (l.map fun c => (zAd c, PyData.bool true)) (row c) (.bool true) = (l ++ [c]).map fun c => (zAd c, PyData.bool true) := by
 unfold putD
 rw [zGf, if_neg (by rw [List.contains_iff_mem]; exact h), List.map_append]
 rfl
theorem zIW : ∀ (l acc : List C), (acc ++ l).Nodup -> (l.map fun c => (row c, PyData.bool true)).foldl (fun kvs p => putD kvs p.1 p.2) (acc.map fun c => (zAd c, PyData.bool true)) = (acc ++ l).map fun c => (zAd c, PyData.bool true)
 | [], acc, _ => by rw [List.append_nil]; rfl
 | c :: l, acc, h => by
  have hc : c ∉ acc := by
   rw [List.nodup_append] at h
   exact fun q => h.2.2 c q c List.mem_cons_self rfl
  rw [List.map_cons, List.foldl_cons]
  show (l.map _).foldl _ (putD _ (row c) (.bool true)) = _
  rw [zMg acc c hc, zIW l (acc ++ [c]) (by rw [List.append_assoc]; exact h), List.append_assoc]
  rfl
theorem zLU {l : List C} {d : D} (hd : seqD d = some (l.map zAd)) (hl : l.length <= 1000) (hn : l.Nodup) : zCP [d] = some (mkD l) := by
 refine zBN (zBl (zDi (ds := [.list (l.map fun c => PyData.tuple [zAd c, .bool true])]) ?_ ?_))
 ·have lc := zBJ (gi := iSeq (eV 0)) (s := zAo 0) (t := eT) (ge := eTup (zAa (eV 0) (zAa (eC (.bool true)) eNil))) (inner := [none]) (ρ := (zAF 1 [d]).map frz) (xs := l) zAd (fun _ => true) (fun c => PyData.tuple [zAd c, .bool true]) (fun ρ => ∃ s0, ρ = [s0]) (zCb rfl hd) hl ⟨_, rfl⟩ (by
   rintro c _ ρ ⟨s0, rfl⟩
   exact ⟨[.dat (zAd c)], rfl, ⟨_, rfl⟩, rfl, fun _ => rfl⟩) (by rw [zCl])
  simp only [id dn, zAk, if_true, if_false, reduceIte, Nat.reduceAdd, Nat.reduceSub, Nat.reduceLeDiff] at lc ⊢
  rw [lc]
  rfl
 ·show (if _ then _ else _) = _
  rw [if_pos (by rw [List.length_map]; exact hl), zIN, Option.bind_some]
  have := zIW l [] (by simpa using hn)
  rw [List.nil_append] at this
  unfold zC9 mkD
  rw [<- this]
  rfl
noncomputable def solD (w h : Nat) (W : C -> Bool) : D := mkD ((cells w h).filter W)
theorem zJO (neg : Bool) (c : C) (w h : Nat) (W : C -> Bool) : dIn2 neg (zAd c) (solD w h W) = some (.bool (if neg then !sol w h W c else sol w h W c)) := by
 unfold solD
 rw [in_mk, zIs]
theorem zCZ {t : Rho -> Option Bool} {g1 : Rho -> Option Out} {ρ : Rho} (h : t (ρ.map frz) = some false) : sIf t g1 zAO ρ = some (.nx ρ) := by
 unfold sIf
 rw [h]
 rfl
noncomputable def Nx (g : Rho -> Option Out) (ρ : Rho) (I : Rho -> Prop) : Prop := ∃ ρ2, g ρ = some (.nx ρ2) /\ I ρ2
section
variable {g g1 g2 rest : Rho -> Option Out} {ρ ρ' : Rho} {I : Rho -> Prop} {t : Rho -> Option Bool}
theorem zDq (h : g1 ρ = some (.nx ρ')) (h2 : Nx g2 ρ' I) : Nx (sSeq g1 g2) ρ I := by
 obtain ⟨ρ2, e, i⟩ := h2
 exact ⟨ρ2, zAD h e, i⟩
theorem zJc (h : t (ρ.map frz) = some false) (i : I ρ) : Nx (sIf t g1 zAO) ρ I := ⟨ρ, zCZ h, i⟩
theorem zGv {b : Bool} (h : t (ρ.map frz) = some b) (h1 : b = true -> Nx g1 ρ I) (h2 : b = false -> Nx g2 ρ I) : Nx (sIf t g1 g2) ρ I := by
 cases b with
 | true => obtain ⟨ρ2, e, i⟩ := h1 rfl; exact ⟨ρ2, zCT h (fun _ => e) (fun z => nomatch z), i⟩
 | false => obtain ⟨ρ2, e, i⟩ := h2 rfl; exact ⟨ρ2, zCT h (fun z => nomatch z) (fun _ => e), i⟩
theorem zJ6 {α : Type} {gi : Rho -> Option (List D)} {s : D -> Rho -> Option Rho} {r : Option Out} (item : α -> D) (J : Rho -> Prop) (xs : List α) (hi : gi ρ = some (xs.map item)) (h0 : J ρ)
  (h : ∀ a ∈ xs, ∀ ρ, J ρ -> ∃ ρ1, s (item a) ρ = some ρ1 /\ Nx g ρ1 J) (hr : ∀ ρ', J ρ' -> rest ρ' = r) : sSeq (sFor gi s g) rest ρ = r := by
 obtain ⟨ρ', e, i⟩ := zGx item J xs ρ h0 fun a ha ρ hρ => by
  obtain ⟨ρ1, e1, ρ2, e2, i2⟩ := h a ha ρ hρ
  exact ⟨ρ1, ρ2, e1, e2, i2⟩
 exact zAD (zIQ hi e) (hr ρ' i)
end
theorem zLI {w h : Nat} {W W' : C -> Bool} (e : ∀ c, inR w h c = true -> W c = W' c) : flD w h W = flD w h W' := by
 unfold flD zAY
 rw [List.filter_congr fun c hc => e c (zBq.mp hc)]
theorem zGs {f : C -> C} (hf : ∀ a b, f a = f b -> a = b) {l : List C} (h : l.Nodup) : (l.map f).Nodup := by
 rw [List.Nodup, List.pairwise_map]
 exact h.imp fun {a b} q r => q (hf _ _ r)
theorem zCv (c : C) : swp (swp c) = c := rfl
theorem zEu {w h : Nat} {c : C} : inR h w (swp c) = inR w h c := by
 rw [Bool.eq_iff_iff, zBs, zBs]
 show (0 <= c.2 /\ c.2 < h /\ 0 <= c.1 /\ c.1 < w) ↔ _
 omega
theorem zHO {f : C -> C} (hf : ∀ c, f (f c) = c) {l : List C} {c : C} : c ∈ l.map f ↔ f c ∈ l := by
 rw [List.mem_map]
 constructor
 ·rintro ⟨d, hd, rfl⟩; rw [hf]; exact hd
 ·intro q; exact ⟨f c, q, hf c⟩
theorem zNr {n : Nat} {g : Rho -> Option Out} {ds : List D} {d : D} (h : g (zAF n ds) = some (.rt d)) : fnX n g ds = some (.inl d) := by unfold fnX; rw [h]
theorem zJV {n : Nat} {g : Rho -> Option Out} {ds : List D} {x : Str} {ρ : Rho} (h : g (zAF n ds) = some (.ex x ρ)) : fnX n g ds = some (.inr x) := by unfold fnX; rw [h]
theorem zOz {g : Rho -> Option R} {ρ : Rho} {d : D} (h : g (ρ.map frz) = some (.inl d)) : zCK g ρ = some (.rt d) := by unfold zCK; rw [h]; rfl
theorem zMw {g : Rho -> Option R} {ρ : Rho} {x : Str} (h : g (ρ.map frz) = some (.inr x)) : zCK g ρ = some (.ex x (ρ.map frz)) := by unfold zCK; rw [h]; rfl
theorem zGJ {g1 g2 : Rho -> Option Out} {ρ ρ' : Rho} {x : Str} (h : g1 ρ = some (.ex x ρ')) : sSeq g1 g2 ρ = some (.ex x ρ') := by unfold sSeq; rw [h]; rfl
theorem zHZ {G : List D -> Option R} {gr : Rho -> Option (List D)} {ρ : Rho} {ds : List D} {r : Option R} (h : gr ρ = some ds) (h2 : G ds = r) : zBm G gr ρ = r := by unfold zBm; rw [h]; exact h2
theorem zNA {cs : List Str} {i : Nat} {gb gh : Rho -> Option Out} {ρ ρ' : Rho} {x : Str} {d : D} (h : gb ρ = some (.ex x ρ')) (hc : cs.contains x = true) (hh : gh ((ρ'.map frz).set i (.dat (excD x))) = some (.rt d)) : sTry cs i gb gh ρ = some (.rt d) := by
 unfold sTry
 rw [h]
 show (if cs.contains x = true then _ else _) = _
 rw [if_pos hc, hh]
 rfl
theorem zN1 {cs : List Str} {i : Nat} {gb gh : Rho -> Option Out} {ρ : Rho} {d : D} (h : gb ρ = some (.rt d)) : sTry cs i gb gh ρ = some (.rt d) := by
 unfold sTry
 rw [h]
 rfl
structure Fl where
 w : Nat
 h : Nat
 W : C -> Bool
noncomputable def fD (f : Fl) : D := flD f.w f.h f.W
noncomputable def sg (b : Bool) : Nat := if b then 35 else 46
noncomputable def rowN (w : Nat) (W : C -> Bool) (y : Nat) : List Nat := (List.range w).map fun (x : Nat) => sg (W ((x : Int), (y : Int)))
noncomputable def rowT (w : Nat) (W : C -> Bool) (y : Nat) : Str := ⟨(rowN w W y).toArray⟩
noncomputable def zAE (w h : Nat) (W : C -> Bool) : List Str := (List.range h).map (rowT w W)
noncomputable def txt (f : Fl) : Str := Txt.join "\n" (zAE f.w f.h f.W)
theorem zEj (w : Nat) (W : C -> Bool) (y : Nat) : tl (rowT w W y) = rowN w W y := rfl
theorem zCI (w : Nat) (W : C -> Bool) (y : Nat) : (rowT w W y).length = w := by
 rw [<- zAt, zEj, rowN, List.length_map, List.length_range]
theorem tl_n : tl ("\n" : Str) = [10] := by decide
theorem zBF : tl ("\n\n" : Str) = [10, 10] := by decide
theorem tl_0 : tl ("" : Str) = [] := by decide
theorem zIh : ∀ l : List Nat, zAm [] (l.map fun a => [a]) = l
 | [] => rfl
 | [a] => rfl
 | a :: b :: r => by
  show [a] ++ [] ++ zAm [] ((b :: r).map fun a => [a]) = _
  rw [zIh (b :: r)]
  rfl
theorem zG9 (w : Nat) (W : C -> Bool) (y : Nat) : Txt.join ("" : Str) ((List.range w).map fun (x : Nat) => if W ((x : Int), (y : Int)) = true then ("#" : Str) else ".") = rowT w W y := by
 refine zBQ ?_
 rw [zBw, tl_0, zEj, List.map_map]
 have e : ((List.range w).map (tl ∘ fun (x : Nat) => if W ((x : Int), (y : Int)) = true then ("#" : Str) else ".")) = (rowN w W y).map fun a => [a] := by
  rw [rowN, List.map_map]
  refine List.map_congr_left fun x _ => ?_
  show tl (if W ((x : Int), (y : Int)) = true then ("#" : Str) else ".") = [sg (W ((x : Int), (y : Int)))]
  cases W ((x : Int), (y : Int)) <;> decide
 rw [e, zIh]
theorem zHN : ∀ xs : List Str, (∀ x ∈ xs, x.length <= 1000) -> (xs.map (·.length)).sum <= xs.length * 1000
 | [], _ => Nat.zero_le _
 | x :: xs, h => by
  have h1 := h x List.mem_cons_self
  have h2 := zHN xs fun y hy => h y (List.mem_cons_of_mem _ hy)
  rw [List.map_cons, List.sum_cons, List.length_cons, Nat.succ_mul]
  omega
theorem dj {sep : Str} {xs : List Str} (h : ∀ x ∈ xs, x.length <= 1000) (hl : xs.length <= 1000) (hs : sep.length <= 16) : zA9 (.str sep) (.list (xs.map PyData.str)) = some (.str (Txt.join sep xs)) := by
 have s := zHN xs h
 show (zCE (xs.map PyData.str)).bind _ = _
 rw [zIJ, Option.bind_some, if_pos]
 rw [Bool.and_eq_true, decide_eq_true_eq, decide_eq_true_eq]
 exact ⟨by omega, hs⟩
theorem ds {z y : Str} (hy : 0 < y.length) (hz : z.length <= 1000) : zBC (.str z) (.str y) = some (.list ((Txt.split z y).map PyData.str)) := by
 show (if _ then _ else _) = _
 rw [if_pos]
 rw [Bool.and_eq_true, decide_eq_true_eq, decide_eq_true_eq]
 exact ⟨hy, hz⟩
theorem zGn {i : Nat} {g : Rho -> Option D} {ρ : Rho} {es : List D} {d : D} (h1 : ρ[i]? = some (.own es)) (h2 : g ρ = some d) (h3 : es.length < 1000) : sApp i g ρ = some (.nx (ρ.set i (.own (es ++ [d])))) := by
 rw [zIn, h1]
 show (g ρ).bind _ = _
 rw [h2, Option.bind_some, if_pos h3]
theorem zFq {α β : Type} (f : Nat -> α) (g : Nat -> β) : ∀ (l : List Nat) (acc : List α) (s : β), l.foldl (fun (b : List α × β) x => (b.1 ++ [f x], g x)) (acc, s) = (acc ++ l.map f, l.foldl (fun _ x => g x) s)
 | [], acc, s => by simp
 | x :: l, acc, s => by
  rw [List.foldl_cons, zFq f g l, List.map_cons, List.foldl_cons]
  simp
theorem zGq {α : Type} (f : α -> D) : ∀ (l : List α) (n : Nat), numbered n (l.map f) = (l.zipIdx n).map fun p => PyData.tuple [.int ((p.2 : Nat) : Int), f p.1]
 | [], _ => rfl
 | a :: l, n => by
  show PyData.tuple [.int n, f a] :: numbered (n + 1) (l.map f) = _
  rw [zGq f l (n + 1)]
  rfl
theorem zKJ (n : Nat) : ∀ k, (List.range' k n).zipIdx k = (List.range' k n).map fun i => (i, i) := by
 induction n with
 | zero => intro k; rfl
 | succ n ih => intro k; rw [List.range'_succ, List.zipIdx_cons, ih, List.map_cons]
theorem zGO (f : Nat -> D) (n : Nat) : numbered 0 ((List.range n).map f) = (List.range n).map fun (i : Nat) => .tuple [.int (i : Int), f i] := by
 rw [zGq, List.range_eq_range', zKJ, List.map_map]
 rfl
theorem sok {x : Str} (h : ∀ c ∈ tl x, c < 200) : PyData.strOk x = true := by
 unfold PyData.strOk
 rw [<- Array.all_toList]
 exact List.all_eq_true.mpr fun c hc => decide_eq_true (Nat.lt_trans (h c hc) (by decide))
theorem zDL {Y : List Nat} {c : Nat} : ∀ {ps : List (List Nat)}, c ∈ zAm Y ps -> c ∈ Y ∨ ∃ p ∈ ps, c ∈ p
 | [], h => by cases h
 | [p], h => .inr ⟨p, List.mem_cons_self, h⟩
 | p :: q :: r, h => by
  have h' : c ∈ p ++ Y ++ zAm Y (q :: r) := h
  rw [List.mem_append, List.mem_append] at h'
  rcases h' with (h' | h') | h'
  ·exact .inr ⟨p, List.mem_cons_self, h'⟩
  ·exact .inl h'
  ·rcases zDL h' with z | ⟨x, hx, z⟩
   ·exact .inl z
   ·exact .inr ⟨x, List.mem_cons_of_mem _ hx, z⟩
theorem zJm {w : Nat} {W : C -> Bool} {y c : Nat} (h : c ∈ rowN w W y) : c < 200 := by
 obtain ⟨x, _, e⟩ := List.mem_map.mp h
 rw [<- e]
 cases W ((x : Int), (y : Int)) <;> decide
theorem zHQ {f : Fl} {c : Nat} (h : c ∈ tl (txt f)) : c < 200 := by
 unfold txt at h
 rw [zBw, tl_n] at h
 rcases zDL h with z | ⟨p, hp, z⟩
 ·rw [List.mem_singleton.mp z]; decide
 ·obtain ⟨x, hx, rfl⟩ := List.mem_map.mp hp
  obtain ⟨y, _, rfl⟩ := List.mem_map.mp hx
  exact zJm z
theorem zKP (f : Fl) : PyData.strOk (txt f) = true := sok fun c hc => zHQ hc
theorem zGz {α : Type} (f : Nat -> List α) (g g' : Nat -> Sl) : ∀ (l : List Nat) (acc : List α) (s s' : Sl), l.foldl (fun (b : List α × Sl × Sl) x => (b.1 ++ f x, g x, g' x)) (acc, s, s') = (acc ++ l.flatMap f, l.foldl (fun _ x => g x) s, l.foldl (fun _ x => g' x) s')
 | [], acc, s, s' => by simp
 | x :: l, acc, s, s' => by
  rw [List.foldl_cons, zGz f g g' l, List.flatMap_cons, List.foldl_cons, List.foldl_cons]
  simp
theorem zER : Builtin.Str.strKind ("\n" : Str) = 1 := by decide +kernel
theorem zEO (w : Nat) (W : C -> Bool) (y : Nat) : 10 ∉ rowN w W y := fun h => by
 obtain ⟨x, _, e⟩ := List.mem_map.mp h
 revert e
 cases W ((x : Int), (y : Int)) <;> decide
theorem zDI {w h : Nat} {W : C -> Bool} (h1 : 1 <= h) : ∃ r rs, zAE w h W = r :: rs /\ r = rowT w W 0 := by
 obtain ⟨n, rfl⟩ : ∃ n, h = n + 1 := ⟨h - 1, by omega⟩
 refine ⟨rowT w W 0, (List.range n).map fun y => rowT w W (y + 1), ?_, rfl⟩
 rw [zAE, List.range_succ_eq_map, List.map_cons, List.map_map]
 rfl
theorem ne_s {a b : Str} (ha : PyData.strOk a = true) (hb : PyData.strOk b = true) : dNe (.str a) (.str b) = some (.bool (!(a == b))) := by
 unfold dNe
 simp [SeqAt.shaped, PyData.canLay0, PyData.depth, PyData.eqv, ha, hb]
theorem eq_s {a b : Str} (ha : PyData.strOk a = true) (hb : PyData.strOk b = true) : dEq (.str a) (.str b) = some (.bool (a == b)) := by
 unfold dEq
 simp [SeqAt.shaped, PyData.canLay0, PyData.depth, PyData.eqv, ha, hb]
end My
namespace My
open PySem PySem.SeqAt L2 DL SD SL EL DC EX TX TB
theorem zJB {w h : Nat} {W : C -> Bool} (hw : w <= 12) (hh : h <= 12) : zCP [zAY w h W] = some (solD w h W) :=
 zLU (seq_W w h W) (Nat.le_trans (List.length_filter_le _ _) (by rw [zMY]; exact Nat.le_trans (Nat.mul_le_mul hw hh) (by decide))) (zDh (zB3 (zBR w h) W))
theorem zI9 {w h : Nat} {W : C -> Bool} (w2 : w <= 12) (h2 : h <= 12) : zBE [flD w h W] = some (.str (txt ⟨w, h, W⟩)) := by
 refine zBN ?_
 unfold zFH
 rw [show zAF 4 [flD w h W] = [.dat (flD w h W), .no, .no, .no] from rfl]
 refine zAD (by (simp only [id dn, zAk, if_true, if_false, reduceIte, Nat.reduceAdd, Nat.reduceSub, Nat.reduceLeDiff, fl_2, zJB w2 h2] <;> rfl)) ?_
 refine zAD (by (simp only [id dn, zAk, if_true, if_false, reduceIte, Nat.reduceAdd, Nat.reduceSub, Nat.reduceLeDiff] <;> rfl)) ?_
 refine zAD (zEZ (n := h) (by simp only [id dn, zAk, if_true, if_false, reduceIte, Nat.reduceAdd, Nat.reduceSub, Nat.reduceLeDiff, fl_1]) (by omega) (zD0 (fun (k : Nat) => .int (k : Int)) (fun (b : List Str × Sl) => [.dat (flD w h W), .dat (solD w h W), .own (b.1.map PyData.str), b.2])
  (fun b y => (b.1 ++ [rowT w W y], .dat (.int (y : Int)))) (fun i b => b.1.length <= i) 12 (List.range h) 0 ([], .no) (by rw [List.length_range]; omega) (Nat.le_refl _) fun y hy i b hi hp => ?_)) ?_
 ·obtain ⟨acc, s3⟩ := b
  have hp' : acc.length <= i := hp
  have hy' : y < h := List.mem_range.mp hy
  refine ⟨⟨[.dat (flD w h W), .dat (solD w h W), .own (acc.map PyData.str), .dat (.int (y : Int))], rfl, ?_⟩, by show (acc ++ [rowT w W y]).length <= i + 1; rw [List.length_append, List.length_singleton]; omega⟩
  refine (zGn (es := acc.map PyData.str) (d := .str (rowT w W y)) rfl ?_ (by rw [List.length_map]; omega)).trans ?_
  ·have lc := zBJ (gi := zAR (zAa (eOp dIx (eV 0) (eC (.int 0))) eNil)) (s := zAo 0) (t := eT) (ge := eIf (eB (eOp (dIn2 false) (eTup (zAa (eV 0) (zAa (eV 2) eNil))) (eV 1))) (eC (.str "#")) (eC (.str "."))) (inner := [none, some 1, some 3]) (xs := List.range w)
    (ρ := [.dat (flD w h W), .dat (solD w h W), .own (acc.map PyData.str), .dat (.int (y : Int))]) (fun (k : Nat) => .int (k : Int)) (fun _ => true) (fun (x : Nat) => .str (if W ((x : Int), (y : Int)) = true then ("#" : Str) else ".")) (fun ρ => ∃ s0, ρ = [s0, .dat (solD w h W), .dat (.int (y : Int))]) (zEk (n := w) (by simp only [id dn, zAk, if_true, if_false, reduceIte, Nat.reduceAdd, Nat.reduceSub, Nat.reduceLeDiff, fl_0]) (by omega)) (by rw [List.length_range]; omega) ⟨.no, rfl⟩ (by
     rintro x hx ρ ⟨s0, rfl⟩
     have hx' : x < w := List.mem_range.mp hx
     have c0 : inR w h ((x : Int), (y : Int)) = true := zBs.mpr ⟨by omega, by show (x : Int) < w; omega, by show 0 <= (y : Int); omega, by show (y : Int) < h; omega⟩
     refine ⟨[.dat (.int (x : Int)), .dat (solD w h W), .dat (.int (y : Int))], rfl, ⟨_, rfl⟩, rfl, fun _ => ?_⟩
     have q := zJO false ((x : Int), (y : Int)) w h W
     simp only [id dn, zAk, if_true, if_false, reduceIte, Nat.reduceAdd, Nat.reduceSub, Nat.reduceLeDiff, q, sol, c0, Bool.true_and]
     cases W ((x : Int), (y : Int)) <;> rfl) rfl
   have e : (((List.range w).filter fun _ => true).map fun (x : Nat) => PyData.str (if W ((x : Int), (y : Int)) = true then ("#" : Str) else ".")) = ((List.range w).map fun (x : Nat) => if W ((x : Int), (y : Int)) = true then ("#" : Str) else ".").map PyData.str := by
    rw [zCl, List.map_map]
    rfl
   rw [e] at lc
   have j := dj (sep := "") (xs := (List.range w).map fun (x : Nat) => if W ((x : Int), (y : Int)) = true then ("#" : Str) else ".") (fun x hx => by
    obtain ⟨k, _, rfl⟩ := List.mem_map.mp hx
    split <;> decide) (by rw [List.length_map, List.length_range]; omega) (by decide)
   rw [zG9] at j
   simp only [zBn, ap_C, lc, O_bs]
   exact j
  ·show some (Out.nx _) = some (Out.nx _)
   simp only [List.set_cons_succ, List.set_cons_zero, List.map_append, List.map_cons, List.map_nil]
 ·refine zBl ?_
  rw [zFq]
  have j := dj (sep := "\n") (xs := zAE w h W) (fun x hx => by
   obtain ⟨k, _, rfl⟩ := List.mem_map.mp hx
   rw [zCI]; omega) (by rw [zAE, List.length_map, List.length_range]; omega) (by decide)
  rw [List.nil_append]
  simp only [id dn, zAk, if_true, if_false, reduceIte, Nat.reduceAdd, Nat.reduceSub, Nat.reduceLeDiff]
  exact j
theorem zOT : ("\n" : Str) = ⟨#[10]⟩ := zBQ (by decide)
noncomputable def rs (t : Str) : List Str := Txt.split t "\n"
theorem zFh (t : Str) : Txt.join "\n" (rs t) = t := by
 show Builtin.Str.glued "\n" (Txt.split t "\n") = t
 rw [StrLaws.glued_eq_join]
 exact StrLaws.join_split t "\n"
theorem zGQ (t : Str) : ∀ p ∈ rs t, 10 ∉ tl p := by
 unfold rs
 rw [zOT]
 exact StrLaws.split_free t 10
theorem zDX (t : Str) : rs t ≠ [] := by
 unfold rs
 rw [zDw t "\n" (by decide) zER]
 obtain ⟨p, r, e⟩ := StrLaws.partsFrom_ne t ("\n" : Str).length 0 (Builtin.Str.occurrences t "\n" 0 t.length (t.length + 1))
 rw [e]
 exact List.cons_ne_nil _ _
theorem zEm (c : Nat) : ∀ {ps : List (List Nat)}, ps ≠ [] -> (zAm [c] ps).length + 1 = (ps.map List.length).sum + ps.length
 | [], h => absurd rfl h
 | [p], _ => by show p.length + 1 = p.length + 0 + 1; omega
 | p :: q :: r, _ => by
  have ih := zEm c (ps := q :: r) (List.cons_ne_nil _ _)
  show (p ++ [c] ++ zAm [c] (q :: r)).length + 1 = p.length + ((q :: r).map List.length).sum + ((q :: r).length + 1)
  rw [List.length_append, List.length_append, List.length_singleton]
  omega
theorem zFB (t : Str) : zAm [10] ((rs t).map tl) = tl t := by
 rw [<- tl_n, <- zBw, zFh]
theorem zJo (t : Str) : t.length + 1 = ((rs t).map fun r => r.length).sum + (rs t).length := by
 have h := zEm 10 (ps := (rs t).map tl) (by simpa using zDX t)
 rw [zFB, zAt, List.length_map, List.map_map] at h
 rw [h]
 first
  | done
  | (congr 2; done)
  | (congr 2; exact List.map_congr_left fun x _ => zAt x)
theorem zFv {Y : List Nat} {c : Nat} : ∀ {ps : List (List Nat)} {p : List Nat}, p ∈ ps -> c ∈ p -> c ∈ zAm Y ps
 | [q], p, hp, hc => by rw [List.mem_singleton.mp hp] at hc; exact hc
 | q :: q' :: r, p, hp, hc => by
  show c ∈ q ++ Y ++ zAm Y (q' :: r)
  rw [List.mem_append, List.mem_append]
  rcases List.mem_cons.mp hp with rfl | hp
  ·exact .inl (.inl hc)
  ·exact .inr (zFv hp hc)
theorem zH1 {t p : Str} {c : Nat} (hp : p ∈ rs t) (hc : c ∈ tl p) : c ∈ tl t := by
 rw [<- zFB]
 exact zFv (List.mem_map_of_mem hp) hc
theorem zF0 : ∀ {l : List Nat} {a : Nat}, a ∈ l -> a <= l.sum
 | b :: l, a, h => by
  rw [List.sum_cons]
  rcases List.mem_cons.mp h with rfl | h
  ·omega
  ·have := zF0 h; omega
theorem zFz {t : Str} (o : PyData.strOk t = true) {c : Nat} (hc : c ∈ tl t) : c < 1114112 := by
 unfold PyData.strOk at o
 rw [<- Array.all_toList] at o
 exact of_decide_eq_true (List.all_eq_true.mp o c hc)
theorem zFK {t : Str} (h : ∀ c ∈ tl t, c < 1114112) : PyData.strOk t = true := by
 unfold PyData.strOk
 rw [<- Array.all_toList]
 exact List.all_eq_true.mpr fun c hc => decide_eq_true (h c hc)
theorem zNd {t p : Str} (o : PyData.strOk t = true) (hp : p ∈ rs t) : PyData.strOk p = true := zFK fun c hc => zFz o (zH1 hp hc)
noncomputable def zAn (R : List Str) (y : Nat) : Str := R.getD y ⟨#[]⟩
noncomputable def Wt (R : List Str) (c : C) : Bool := decide (0 <= c.1) && decide (0 <= c.2) && ((tl (zAn R c.2.toNat))[c.1.toNat]? == some 35)
theorem zEh (R : List Str) (x y : Nat) : Wt R ((x : Int), (y : Int)) = ((tl (zAn R y))[x]? == some 35) := by
 unfold Wt
 rw [decide_eq_true (show (0 : Int) <= (x : Int) by omega), decide_eq_true (show (0 : Int) <= (y : Int) by omega)]
 rfl
theorem zCA {α : Type} (d : α) : ∀ l : List α, l = (List.range l.length).map fun i => l.getD i d
 | [] => rfl
 | a :: l => by
  rw [List.length_cons, List.range_succ_eq_map, List.map_cons, List.map_map]
  exact congrArg (a :: ·) (zCA d l)
theorem zCy {R : List Str} {y : Nat} (h : y < R.length) : zAn R y ∈ R := by
 unfold zAn
 rw [List.getD_eq_getElem?_getD, List.getElem?_eq_getElem h]
 exact List.getElem_mem h
theorem zOR {n m : Nat} (h : n <= m) (p : Nat -> Bool) (hp : ∀ x, n <= x -> p x = false) : (List.range m).filter p = (List.range n).filter p := by
 obtain ⟨k, rfl⟩ : ∃ k, m = n + k := ⟨m - n, by omega⟩
 rw [List.range_add, List.filter_append]
 refine (congrArg ((List.range n).filter p ++ ·) ?_).trans (List.append_nil _)
 rw [List.filter_eq_nil_iff]
 intro x hx
 obtain ⟨j, _, rfl⟩ := List.mem_map.mp hx
 rw [hp _ (by omega)]
 decide
theorem zIY {α β : Type} {s : D -> Rho -> Option Rho} {g : Rho -> Option Out} (item : α -> D) (env : β -> Rho) (step : β -> α -> β) (G : List α -> β -> Prop) (all : List α)
  (h : ∀ pre x post b, pre ++ x :: post = all -> G pre b -> (∃ ρ1, s (item x) (env b) = some ρ1 /\ g ρ1 = some (.nx (env (step b x)))) /\ G (pre ++ [x]) (step b x)) :
  ∀ xs pre b, pre ++ xs = all -> G pre b -> forN s g (xs.map item) (env b) = some (.nx (env (xs.foldl step b)))
 | [], _, _, _, _ => rfl
 | x :: xs, pre, b, e, hb => by
  obtain ⟨⟨ρ1, e1, e2⟩, hg⟩ := h pre x xs b e hb
  rw [List.map_cons]
  unfold forN
  rw [e1, Option.bind_some, e2, Option.bind_some]
  exact zIY item env step G all h xs (pre ++ [x]) (step b x) (by rw [List.append_assoc]; exact e) hg
theorem eq_35 {c : Nat} (h : c < 1114112) : dEq (.str ⟨#[c]⟩) (.str "#") = some (.bool (c == 35)) := by
 rw [eq_s (zFK fun z hz => by rw [show tl ⟨#[c]⟩ = [c] from rfl, List.mem_singleton] at hz; rw [hz]; exact h) (by decide +kernel)]
 congr 2
 rw [Bool.eq_iff_iff, beq_iff_eq, beq_iff_eq]
 constructor
 ·intro e
  have := congrArg tl e
  rw [show tl ⟨#[c]⟩ = [c] from rfl, show tl ("#" : Str) = [35] by decide] at this
  injection this
 ·rintro rfl
  exact zBQ (by decide)
theorem zGj {f : Nat -> List C} {l : Nat -> Nat} (h : ∀ y, (f y).length <= l y) : ∀ xs : List Nat, (xs.flatMap f).length <= (xs.map l).sum
 | [] => Nat.le_refl _
 | x :: xs => by
  have := h x
  have := zGj h xs
  rw [List.flatMap_cons, List.length_append, List.map_cons, List.sum_cons]
  omega
section
variable {R : List Str} (o : ∀ p ∈ R, PyData.strOk p = true) (sl : (R.map fun r => r.length).sum <= 63) (hl : R.length <= 64)
noncomputable def fw (R : List Str) (y : Nat) : List C := ((List.range 64).filter fun (x : Nat) => Wt R ((x : Int), (y : Int))).map fun (x : Nat) => ((x : Int), (y : Int))
include sl in
theorem zEv {y : Nat} : (zAn R y).length <= 63 := by
 by_cases h : y < R.length
 ·exact Nat.le_trans (zF0 (List.mem_map_of_mem (f := fun r : Str => r.length) (zCy h))) sl
 ·unfold zAn
  rw [List.getD_eq_getElem?_getD, List.getElem?_eq_none (by omega)]
  decide
include sl in
theorem zIv (y : Nat) : fw R y = ((List.range (zAn R y).length).filter fun (x : Nat) => Wt R ((x : Int), (y : Int))).map fun (x : Nat) => ((x : Int), (y : Int)) := by
 unfold fw
 rw [zOR (Nat.le_trans (zEv sl (y := y)) (by decide))]
 intro x hx
 rw [zEh, List.getElem?_eq_none (by rw [zAt]; exact hx)]
 rfl
include sl in
theorem zIH : ((List.range R.length).flatMap (fw R)).length <= 63 := by
 refine Nat.le_trans (zGj (l := fun y => (zAn R y).length) (fun y => ?_) _) ?_
 ·rw [zIv sl, List.length_map]
  exact Nat.le_trans (List.length_filter_le _ _) (by rw [List.length_range]; exact Nat.le_refl _)
 ·have e := congrArg (fun l : List Str => (l.map fun r => r.length).sum) (zCA (⟨#[]⟩ : Str) R)
  rw [List.map_map] at e
  rw [e] at sl
  exact sl
theorem zL5 {w h : Nat} (P : C -> Bool) (g : ((cells w h).filter P).length <= 63) : zCf [.list ((((cells w h).filter P).map swp).map zAd)] = some (.list (((cells h w).filter fun c => P (swp c)).map zAd)) := by
 refine zG7 (zGs (fun a b q => by rw [<- zCv a, q, zCv]) (zDh (zB3 (zBR w h) P))) (by rw [List.length_map]; exact g) (zB3 (zBR h w) _) fun c => ?_
 rw [zHO zCv, List.mem_filter, List.mem_filter, zBq, zBq, <- zEu (w := h) (h := w) (c := c)]
include o sl hl in
theorem zKl : zDj [.list (R.map PyData.str)] = some (zAY 64 R.length (Wt R)) := by
 have fa := zIH sl
 refine zBN ?_
 unfold zFN
 rw [show zAF 4 [.list (R.map PyData.str)] = [.dat (.list (R.map PyData.str)), .no, .no, .no] from rfl]
 refine zAD (by (simp only [id dn, zAk, if_true, if_false, reduceIte, Nat.reduceAdd, Nat.reduceSub, Nat.reduceLeDiff] <;> rfl)) ?_
 have it : zDv (zAa (eV 0) eNil) [.dat (.list (R.map PyData.str)), .own [], .no, .no] = some ((List.range R.length).map fun (y : Nat) => .tuple [.int (y : Int), .str (zAn R y)]) := by
  show some (numbered 0 (R.map PyData.str)) = _
  have e : R.map PyData.str = (List.range R.length).map fun y => PyData.str (zAn R y) := by
   have := congrArg (List.map PyData.str) (zCA (⟨#[]⟩ : Str) R)
   rw [List.map_map] at this
   exact this
  rw [e, zGO]
 refine zAD (zIQ it (zIY (fun (y : Nat) => .tuple [.int (y : Int), .str (zAn R y)]) (fun (b : List C × Sl × Sl) => [.dat (.list (R.map PyData.str)), .own (b.1.map zAd), b.2.1, b.2.2])
  (fun b y => (b.1 ++ fw R y, .dat (.int (y : Int)), .dat (.str (zAn R y)))) (fun pre b => b.1 = pre.flatMap (fw R)) (List.range R.length) (fun pre y post b e hb => ?_) (List.range R.length) [] ([], .no, .no) rfl rfl)) ?_
 ·obtain ⟨acc, s2, s3⟩ := b
  have hb' : acc = pre.flatMap (fw R) := hb
  have hy : y < R.length := List.mem_range.mp (by rw [<- e]; simp)
  have hlen : acc.length + (fw R y).length <= 63 := by
   have e2 := congrArg (fun l : List Nat => (l.flatMap (fw R)).length) e
   rw [List.flatMap_append, List.flatMap_cons, List.length_append, List.length_append] at e2
   rw [hb']
   omega
  refine ⟨⟨[.dat (.list (R.map PyData.str)), .own (acc.map zAd), .dat (.int (y : Int)), .dat (.str (zAn R y))], rfl, ?_⟩, by show acc ++ fw R y = (pre ++ [y]).flatMap (fw R); rw [hb', List.flatMap_append]; simp⟩
  refine (zGg (ds := acc.map zAd) (es := (fw R y).map zAd) rfl ?_ (by rw [List.length_map, List.length_map]; omega)).trans ?_
  ·have rl := zEv sl (y := y)
   have it2 : zFt (zAa (eV 3) eNil) [.dat (.list (R.map PyData.str)), .own (acc.map zAd), .dat (.int (y : Int)), .dat (.str (zAn R y))] = some ((List.range (zAn R y).length).map fun (x : Nat) => .tuple [.int (x : Int), .str ⟨#[(tl (zAn R y)).getD x 0]⟩]) := by
    show some (numbered 0 ((sigs (zAn R y)).map PyData.str)) = _
    have e : (sigs (zAn R y)).map PyData.str = (List.range (zAn R y).length).map fun x => PyData.str ⟨#[(tl (zAn R y)).getD x 0]⟩ := by
     unfold sigs
     have := congrArg (List.map fun c => PyData.str ⟨#[c]⟩) (zCA 0 (tl (zAn R y)))
     rw [List.map_map, zAt] at this
     rw [List.map_map]
     exact this
    rw [e, zGO]
   rw [zIv sl]
   refine zBJ (xs := List.range (zAn R y).length) (fun (x : Nat) => .tuple [.int (x : Int), .str ⟨#[(tl (zAn R y)).getD x 0]⟩]) (fun (x : Nat) => Wt R ((x : Int), (y : Int))) (fun (x : Nat) => zAd ((x : Int), (y : Int))) (fun ρ => ∃ s0 s1, ρ = [s0, s1, .dat (.int (y : Int))]) it2 (by rw [List.length_range]; omega) ⟨.no, .no, rfl⟩ ?_ (by rw [List.map_map]; rfl)
   rintro x hx ρ ⟨s0, s1, rfl⟩
   refine ⟨[.dat (.int (x : Int)), .dat (.str ⟨#[(tl (zAn R y)).getD x 0]⟩), .dat (.int (y : Int))], rfl, ⟨_, _, rfl⟩, ?_, fun _ => rfl⟩
   have hx' : x < (tl (zAn R y)).length := by rw [zAt]; exact List.mem_range.mp hx
   have ge : (tl (zAn R y))[x]? = some ((tl (zAn R y)).getD x 0) := by rw [List.getD_eq_getElem?_getD, List.getElem?_eq_getElem hx']; rfl
   have q := eq_35 (c := (tl (zAn R y)).getD x 0) (zFz (o _ (zCy hy)) (List.mem_of_getElem? ge))
   have wx : Wt R ((x : Int), (y : Int)) = ((tl (zAn R y)).getD x 0 == 35) := by
    rw [zEh, ge, Bool.eq_iff_iff, beq_iff_eq, beq_iff_eq]
    exact ⟨fun z => by injection z, fun z => by rw [z]⟩
   simp only [ap_B, zBn, ap_V, ap_C, L_gs, L_g0, O_bs, q, zGW, wx]
  ·show some (Out.nx _) = some (Out.nx _)
   simp only [List.set_cons_succ, List.set_cons_zero, List.map_append]
 ·refine zBl ?_
  rw [zGz, List.nil_append]
  have fe : (List.range R.length).flatMap (fw R) = ((cells R.length 64).filter fun c => Wt R ((c.2.toNat : Int), (c.1.toNat : Int))).map swp := by
   rw [<- zEB R.length 64 fun y x => Wt R ((x : Int), (y : Int)), List.map_flatMap]
   congr 1
   funext y
   unfold fw
   rw [List.map_map]
   rfl
  have so := zL5 (w := R.length) (h := 64) (fun c => Wt R ((c.2.toNat : Int), (c.1.toNat : Int))) (by rw [fe, List.length_map] at fa; exact fa)
  have e : ((cells 64 R.length).filter fun c => (fun c : C => Wt R ((c.2.toNat : Int), (c.1.toNat : Int))) (swp c)) = (cells 64 R.length).filter (Wt R) := List.filter_congr fun c hc => by
   have q := zBs.mp (zBq.mp hc)
   show Wt R ((c.1.toNat : Int), (c.2.toNat : Int)) = Wt R c
   rw [show ((c.1.toNat : Int), (c.2.toNat : Int)) = c from Prod.ext (by dsimp only; omega) (by dsimp only; omega)]
  rw [e, <- fe] at so
  simp only [id dn, zAk, if_true, if_false, reduceIte, Nat.reduceAdd, Nat.reduceSub, Nat.reduceLeDiff, so]
  rfl
end
end My
namespace My
open PySem PySem.SeqAt L2 DL SD SL EL DC EX TX TB
theorem zOx (n : Nat) : zCa [.int n] = some (.bool (decide (1 <= n /\ n <= 12))) := by
 have q := zGP (n : Int)
 simp only [zCa, zEM, id dn, zAk, if_true, if_false, reduceIte, Nat.reduceAdd, Nat.reduceSub, Nat.reduceLeDiff, q]
 by_cases h1 : (1 : Int) <= n <;> by_cases h2 : (n : Int) <= 12
 ·rw [decide_eq_true h1, decide_eq_true (show 1 <= n /\ n <= 12 by omega)]; simp [h2]
 ·rw [decide_eq_true h1, decide_eq_false (show ¬ (1 <= n /\ n <= 12) by omega)]; simp [h2]
 ·rw [decide_eq_false h1, decide_eq_false (show ¬ (1 <= n /\ n <= 12) by omega)]; simp
 ·rw [decide_eq_false h1, decide_eq_false (show ¬ (1 <= n /\ n <= 12) by omega)]; simp
noncomputable def flX (w h : Nat) (d : D) : D := .tuple [.int w, .int h, d]
theorem fx_0 (w h : Nat) (d : D) : dIx (flX w h d) (.int 0) = some (.int w) := id rfl
theorem fx_1 (w h : Nat) (d : D) : dIx (flX w h d) (.int 1) = some (.int h) := id rfl
theorem fx_2 (w h : Nat) (d : D) : dIx (flX w h d) (.int 2) = some d := id rfl
theorem zMZ (w h : Nat) (d : D) (c : C) : zCe [flX w h d, zAd c] = some (.bool (inR w h c)) := by
 simp only [zCe, zEw, id dn, zAk, if_true, if_false, reduceIte, Nat.reduceAdd, Nat.reduceSub, Nat.reduceLeDiff, fx_0, fx_1, zNH, inR]
 cases decide (0 <= c.1) <;> cases decide (c.1 < w) <;> cases decide (0 <= c.2) <;> cases decide (c.2 < h) <;> rfl
theorem zIC (p : C -> Bool) : ∀ l : List C, boolsD (l.map fun c => PyData.bool (p c)) = some (l.map p)
 | [] => rfl
 | c :: l => by
  show (boolsD (l.map fun c => PyData.bool (p c))).bind _ = _
  rw [zIC p l]
  rfl
theorem zNI (p : C -> Bool) (l : List C) : dAll [.list (l.map fun c => PyData.bool (p c))] = some (.bool (l.all p)) := by
 show (boolsD (l.map fun c => PyData.bool (p c))).bind _ = _
 rw [zIC]
 show some (PyData.bool ((l.map p).all id)) = _
 rw [List.all_map]
 rfl
theorem zM6 {w h : Nat} {l : List C} (hl : l.length <= 63) (up : Up l) : zCU [flX w h (.tuple (l.map zAd)), .tuple (l.map zAd)] = some (.bool (l.all (inR w h))) := by
 have lc := zBJ (gi := iSeq (eV 1)) (s := zAo 0) (t := eT) (ge := zAh zCe (zAa (eV 1) (zAa (eV 0) eNil))) (inner := [none, some 0]) (ρ := [.dat (flX w h (.tuple (l.map zAd))), .dat (.tuple (l.map zAd))]) (xs := l) zAd (fun _ => true) (fun c => PyData.bool (inR w h c)) (fun ρ => ∃ s0, ρ = [s0, .dat (flX w h (.tuple (l.map zAd)))]) (zCb rfl rfl) (by omega) ⟨_, rfl⟩ (by
  rintro c hc ρ ⟨s0, rfl⟩
  exact ⟨[.dat (zAd c), .dat (flX w h (.tuple (l.map zAd)))], rfl, ⟨_, rfl⟩, rfl, fun _ => by simp only [id dn, zAk, if_true, if_false, reduceIte, Nat.reduceAdd, Nat.reduceSub, Nat.reduceLeDiff, zMZ]⟩) (by rw [zCl])
 have s1 : setD [.tuple (l.map zAd)] = some (l.map row) := by
  show (if _ then _ else _) = _
  rw [if_pos (by rw [List.length_map]; omega), zGF]
 have s3 : zDV (eSet (zAa (eV 1) eNil)) [.dat (flX w h (.tuple (l.map zAd))), .dat (.tuple (l.map zAd))] = some (.list (l.map zAd)) := by
  unfold zDV eSet
  simp only [id dn, zAk, if_true, if_false, reduceIte, Nat.reduceAdd, Nat.reduceSub, Nat.reduceLeDiff, s1]
  rw [zHE _ (zNU (zDh up)), zEP]
  exact zG7 (zDh up) hl up fun c => Iff.rfl
 refine zBN ?_
 unfold zFn
 rw [show zAF 2 [flX w h (.tuple (l.map zAd)), .tuple (l.map zAd)] = [.dat (flX w h (.tuple (l.map zAd))), .dat (.tuple (l.map zAd))] from rfl]
 have ao := zNI (inR w h) l
 cases q : l.all (inR w h) with
 | false =>
  refine zJ5 (zCT (b := true) ?_ (fun _ => zBl rfl) fun z => nomatch z)
  simp only [id dn, zAk, if_true, if_false, reduceIte, Nat.reduceAdd, Nat.reduceSub, Nat.reduceLeDiff, zFF, zEE, lc, ao, q, Bool.not_true, Bool.not_false]
 | true =>
  refine zAD (zCZ ?_) (zBl ?_)
  ·simp only [id dn, zAk, if_true, if_false, reduceIte, Nat.reduceAdd, Nat.reduceSub, Nat.reduceLeDiff, zFF, zEE, lc, ao, q, Bool.not_true]
  ·rw [show List.map frz [Sl.dat (flX w h (.tuple (l.map zAd))), Sl.dat (.tuple (l.map zAd))] = [.dat (flX w h (.tuple (l.map zAd))), .dat (.tuple (l.map zAd))] from rfl]
   simp only [zBn, zGD, zGV, zGS, ap_V, L_gs, L_g0, O_bs, zHC]
   rw [s3, Option.bind_some, eq_Ls]
   simp
theorem zKU {w h : Nat} {l : List C} (hl : l.length <= 63) (up : Up l) : zCd [flX w h (.tuple (l.map zAd))] = some (.bool (decide (1 <= w /\ w <= 12) && decide (1 <= h /\ h <= 12) && l.all (inR w h))) := by
 have i1 : isD "tuple" (flX w h (.tuple (l.map zAd))) = true := rfl
 have i2 : zBy (flX w h (.tuple (l.map zAd))) = false := rfl
 have i3 : dLen [flX w h (.tuple (l.map zAd))] = some (.int 3) := rfl
 have a := zM6 (w := w) (h := h) hl up
 simp only [zCd, zEl, id dn, zAk, if_true, if_false, reduceIte, Nat.reduceAdd, Nat.reduceSub, Nat.reduceLeDiff, i1, i2, i3, beq_self_eq_true, fx_0, fx_1, fx_2, zOx, a]
 cases decide (1 <= w /\ w <= 12) <;> cases decide (1 <= h /\ h <= 12) <;> rfl
section
variable {t : Str} (o : PyData.strOk t = true) (tl63 : t.length <= 63)
noncomputable def wd (t : Str) : Nat := (zAn (rs t) 0).length
noncomputable def ht (t : Str) : Nat := (rs t).length
structure WF (t : Str) : Prop where
 w1 : 1 <= wd t
 w2 : wd t <= 12
 h2 : ht t <= 12
 ro : ∀ p ∈ rs t, p.length = wd t
 ch : ∀ c ∈ tl t, c = 46 ∨ c = 35 ∨ c = 10
theorem zDM (t : Str) : 1 <= ht t := List.length_pos_iff.mpr (zDX t)
include tl63 in
theorem zIF : ((rs t).map fun r => r.length).sum <= 63 /\ (rs t).length <= 64 := by
 have e := zJo t
 have := zDM t
 unfold ht at this
 omega
theorem zMQ (wf : WF t) : rs t = zAE (wd t) (ht t) (Wt (rs t)) := by
 have e := zCA (⟨#[]⟩ : Str) (rs t)
 refine e.trans ?_
 unfold zAE ht
 refine List.map_congr_left fun y hy => ?_
 have hy' := List.mem_range.mp hy
 have mm := zCy hy'
 refine zBQ ?_
 show tl (zAn (rs t) y) = _
 rw [zEj, rowN]
 have e2 := zCA 0 (tl (zAn (rs t) y))
 rw [zAt, wf.ro _ mm] at e2
 refine e2.trans ?_
 refine List.map_congr_left fun x hx => ?_
 have hx' : x < (tl (zAn (rs t) y)).length := by rw [zAt, wf.ro _ mm]; exact List.mem_range.mp hx
 have ge : (tl (zAn (rs t) y))[x]? = some ((tl (zAn (rs t) y)).getD x 0) := by rw [List.getD_eq_getElem?_getD, List.getElem?_eq_getElem hx']; rfl
 rw [zEh, ge]
 have cm := List.mem_of_getElem? ge
 rcases wf.ch _ (zH1 mm cm) with z | z | z
 ·rw [z]; rfl
 ·rw [z]; rfl
 ·exact absurd (by rw [<- z]; exact cm) (zGQ t _ mm)
theorem zH7 (wf : WF t) : txt ⟨wd t, ht t, Wt (rs t)⟩ = t := by
 show Txt.join "\n" (zAE (wd t) (ht t) (Wt (rs t))) = t
 rw [<- zMQ wf, zFh]
theorem zHp {w h : Nat} {W : C -> Bool} (w1 : 1 <= w) (w2 : w <= 12) (h1 : 1 <= h) (h2 : h <= 12) (e : txt ⟨w, h, W⟩ = t) : WF t := by
 have sp : rs t = zAE w h W := by
  unfold rs
  rw [<- e]
  obtain ⟨r, R, er, _⟩ := zDI (w := w) (W := W) h1
  show Txt.split (Txt.join "\n" (zAE w h W)) "\n" = _
  rw [er]
  refine zE2 (by decide) zER ?_
  rw [tl_n]
  refine zFo fun p hp => ?_
  rw [<- er] at hp
  obtain ⟨x, hx, rfl⟩ := List.mem_map.mp hp
  obtain ⟨y, _, rfl⟩ := List.mem_map.mp hx
  exact zEO _ _ _
 have all : ∀ p ∈ rs t, p.length = w := fun p hp => by
  rw [sp] at hp
  obtain ⟨y, _, rfl⟩ := List.mem_map.mp hp
  exact zCI _ _ _
 have wde : wd t = w := all _ (zCy (zDM t))
 have hte : ht t = h := by unfold ht; rw [sp, zAE, List.length_map, List.length_range]
 refine ⟨by omega, by omega, by omega, fun p hp => by rw [wde]; exact all p hp, fun c hc => ?_⟩
 rw [<- e] at hc
 unfold txt at hc
 rw [zBw, tl_n] at hc
 rcases zDL hc with z | ⟨p, hp, z⟩
 ·exact .inr (.inr (List.mem_singleton.mp z))
 ·obtain ⟨x, hx, rfl⟩ := List.mem_map.mp hp
  obtain ⟨y, _, rfl⟩ := List.mem_map.mp hx
  obtain ⟨j, _, ej⟩ := List.mem_map.mp z
  rw [<- ej]
  show sg (W ((j : Int), (y : Int))) = 46 ∨ sg (W ((j : Int), (y : Int))) = 35 ∨ sg (W ((j : Int), (y : Int))) = 10
  cases W ((j : Int), (y : Int))
  ·exact .inl rfl
  ·exact .inr (.inl rfl)
include o tl63 in
theorem zMS : zBC (.str t) (.str "\n") = some (.list ((rs t).map PyData.str)) := ds (by decide) (by omega)
include o tl63 in
theorem zKL : dIx (.list ((rs t).map PyData.str)) (.int 0) = some (.str (zAn (rs t) 0)) := by
 cases e : rs t with
 | nil => exact absurd e (zDX t)
 | cons r R => rw [List.map_cons, ix0L]; rfl
include tl63 in
theorem zL6 : zCj [.str (zAn (rs t) 0)] = some (.int (wd t)) := by
 show (if decide ((zAn (rs t) 0).length <= 1000000) = true then some (PyData.int ((zAn (rs t) 0).length : Int)) else none) = _
 have := zEv (zIF tl63).1 (y := 0)
 rw [if_pos (by rw [decide_eq_true_eq]; omega)]
 rfl
noncomputable def flT (t : Str) : D := flD (wd t) (ht t) (Wt (rs t))
theorem zNv {w h : Nat} {W : C -> Bool} (hw : w <= 64) (hall : ((cells 64 h).filter W).all (inR w h) = true) : (cells 64 h).filter W = (cells w h).filter W := by
 refine zEb (zB3 (zBR 64 h) W) (zB3 (zBR w h) W) fun c => ?_
 rw [List.mem_filter, List.mem_filter, zBq, zBq]
 constructor
 ·rintro ⟨a, b⟩
  exact ⟨List.all_eq_true.mp hall c (List.mem_filter.mpr ⟨zBq.mpr a, b⟩), b⟩
 ·rintro ⟨a, b⟩
  refine ⟨?_, b⟩
  rw [zBs] at a ⊢
  omega
theorem zNV {l m : List C} (hn : l.Nodup) (hm : Up m) (h : ∀ c, c ∈ m ↔ c ∈ l) : m.length = l.length := by
 obtain ⟨m', e, up', mem'⟩ := zGN hn
 have e2 : m = m' := zEb hm up' fun c => (h c).trans (mem' c).symm
 have p := (zDy (l.map row)).length_eq
 rw [e, List.length_map, List.length_map] at p
 rw [e2]
 exact p
theorem zM9 {R : List Str} (s1 : (R.map fun r => r.length).sum <= 63) : ((cells 64 R.length).filter (Wt R)).length <= 63 := by
 have fa := zIH s1
 have fe : (List.range R.length).flatMap (fw R) = ((cells R.length 64).filter fun c => Wt R ((c.2.toNat : Int), (c.1.toNat : Int))).map swp := by
  rw [<- zEB R.length 64 fun y x => Wt R ((x : Int), (y : Int)), List.map_flatMap]
  congr 1
  funext y
  unfold fw
  rw [List.map_map]
  rfl
 rw [fe] at fa
 rw [zNV (l := ((cells R.length 64).filter fun c => Wt R ((c.2.toNat : Int), (c.1.toNat : Int))).map swp) (zGs (fun a b q => by rw [<- zCv a, q, zCv]) (zDh (zB3 (zBR _ _) _))) (zB3 (zBR _ _) _) fun c => ?_]
 ·exact fa
 ·rw [zHO zCv, List.mem_filter, List.mem_filter, zBq, zBq, <- zEu (w := 64) (h := R.length) (c := c)]
  refine and_congr_right fun q => ?_
  have q' := zBs.mp (zEu.symm.trans q)
  show Wt R c = true ↔ Wt R ((c.1.toNat : Int), (c.2.toNat : Int)) = true
  rw [show ((c.1.toNat : Int), (c.2.toNat : Int)) = c from Prod.ext (by dsimp only; omega) (by dsimp only; omega)]
noncomputable def isF (t : Str) : Bool := decide (1 <= wd t /\ wd t <= 12) && decide (1 <= ht t /\ ht t <= 12) && ((cells 64 (ht t)).filter (Wt (rs t))).all (inR (wd t) (ht t))
noncomputable def good (t : Str) : Bool := isF t && (txt ⟨wd t, ht t, Wt (rs t)⟩ == t)
theorem zEs : good t = true ↔ WF t := by
 unfold good isF
 rw [Bool.and_eq_true, Bool.and_eq_true, Bool.and_eq_true, decide_eq_true_eq, decide_eq_true_eq, beq_iff_eq]
 constructor
 ·rintro ⟨⟨⟨a, b⟩, _⟩, e⟩
  exact zHp a.1 a.2 b.1 b.2 e
 ·intro wf
  refine ⟨⟨⟨⟨wf.w1, wf.w2⟩, ⟨zDM t, wf.h2⟩⟩, ?_⟩, zH7 wf⟩
  refine List.all_eq_true.mpr fun c hc => ?_
  obtain ⟨c1, c2⟩ := List.mem_filter.mp hc
  have q := zBs.mp (zBq.mp c1)
  rw [zBs]
  refine ⟨q.1, ?_, q.2.2.1, q.2.2.2⟩
  unfold Wt at c2
  rw [Bool.and_eq_true, beq_iff_eq] at c2
  have lt := (List.getElem?_eq_some_iff.mp c2.2).1
  have hh : c.2.toNat < (rs t).length := by have := q.2.2.2; unfold ht at this; omega
  rw [zAt, wf.ro _ (zCy hh)] at lt
  omega
include o tl63 in
theorem zKd : zA4 [.str t] = some (if good t = true then .inl (flT t) else .inr "NoText") := by
 obtain ⟨s1, s2⟩ := zIF tl63
 have wg := zKl (R := rs t) (fun p hp => zNd o hp) s1 s2
 have fc := zM9 s1
 have up := zB3 (zBR 64 (rs t).length) (Wt (rs t))
 have ff := zKU (w := wd t) (h := ht t) fc up
 have fi : zCd [flX (wd t) (ht t) (zAY 64 (rs t).length (Wt (rs t)))] = some (.bool (isF t)) := ff
 have go : ∀ r : R, zDF [.dat (.str t), .no, .no] = (match r with | .inl d => some (.rt d) | .inr x => some (.ex x [.dat (.str t), .dat (.list ((rs t).map PyData.str)), .dat (flX (wd t) (ht t) (zAY 64 (rs t).length (Wt (rs t))))])) -> zA4 [.str t] = some r := fun r h => by
  cases r with
  | inl d => exact zNr h
  | inr x => exact zJV h
 refine go _ ?_
 unfold zDF
 refine zAD (zBo (d := .list ((rs t).map PyData.str)) (zMS o tl63)) ?_
 rw [show [Sl.dat (.str t), Sl.no, Sl.no].set 1 (.dat (.list ((rs t).map PyData.str))) = [.dat (.str t), .dat (.list ((rs t).map PyData.str)), .no] from rfl]
 have rf := zKL o tl63
 have wl := zL6 tl63
 have hl : ((rs t).map PyData.str).length = ht t := by rw [List.length_map]; rfl
 refine zAD (zBo (d := flX (wd t) (ht t) (zAY 64 (rs t).length (Wt (rs t)))) ?_) ?_
 ·simp only [id dn, zAk, if_true, if_false, reduceIte, Nat.reduceAdd, Nat.reduceSub, Nat.reduceLeDiff, rf, wl, hl, wg]
  rfl
 rw [show [Sl.dat (.str t), .dat (.list ((rs t).map PyData.str)), Sl.no].set 2 (.dat (flX (wd t) (ht t) (zAY 64 (rs t).length (Wt (rs t))))) = [.dat (.str t), .dat (.list ((rs t).map PyData.str)), .dat (flX (wd t) (ht t) (zAY 64 (rs t).length (Wt (rs t))))] from rfl]
 by_cases f : isF t = true
 ·have f' := f
  unfold isF at f'
  rw [Bool.and_eq_true, Bool.and_eq_true, decide_eq_true_eq, decide_eq_true_eq] at f'
  have wm := zNv (h := ht t) (W := Wt (rs t)) (w := wd t) (by omega) f'.2
  have e : flX (wd t) (ht t) (zAY 64 (rs t).length (Wt (rs t))) = flT t := by
   show flX (wd t) (ht t) (.tuple (((cells 64 (ht t)).filter (Wt (rs t))).map zAd)) = _
   rw [wm]
   rfl
  have wr : zBE [flT t] = some (.str (txt ⟨wd t, ht t, Wt (rs t)⟩)) := zI9 f'.1.1.2 f'.1.2.2
  rw [e] at fi ⊢
  rw [f] at fi
  have ne := ne_s (zKP ⟨wd t, ht t, Wt (rs t)⟩) o
  by_cases z : (txt ⟨wd t, ht t, Wt (rs t)⟩ == t) = true
  ·rw [if_pos (by unfold good; rw [f, z]; rfl)]
   refine zAD (zCZ ?_) (zBl rfl)
   rw [z] at ne
   simp only [id dn, zAk, if_true, if_false, reduceIte, Nat.reduceAdd, Nat.reduceSub, Nat.reduceLeDiff, fi, wr, ne, Bool.not_true]
  ·rw [if_neg (by unfold good; rw [f, Bool.true_and]; exact z)]
   refine zGJ (zCT (b := true) ?_ (fun _ => rfl) fun q => nomatch q)
   rw [Bool.eq_false_iff.mpr z] at ne
   simp only [id dn, zAk, if_true, if_false, reduceIte, Nat.reduceAdd, Nat.reduceSub, Nat.reduceLeDiff, fi, wr, ne, Bool.not_true, Bool.not_false]
 ·have f' : isF t = false := by simpa using f
  rw [if_neg (by unfold good; rw [f', Bool.false_and]; decide)]
  refine zGJ (zCT (b := true) ?_ (fun _ => rfl) fun q => nomatch q)
  rw [f'] at fi
  simp only [id dn, zAk, if_true, if_false, reduceIte, Nat.reduceAdd, Nat.reduceSub, Nat.reduceLeDiff, fi, Bool.not_false]
end
end My
namespace My
open PySem PySem.StrLaws PySem.SeqAt L2 DL SD SL EL DC EX TX TB
open Builtin Builtin.Str
noncomputable def pt (x : Str) : List Str := Txt.split x "\n\n"
theorem zEn : Builtin.Str.strKind ("\n\n" : Str) = 1 := by decide +kernel
theorem zEz (x : Str) : Txt.join "\n\n" (pt x) = x := by
 show Builtin.Str.glued "\n\n" (Txt.split x "\n\n") = x
 rw [StrLaws.glued_eq_join]
 exact StrLaws.join_split x "\n\n"
theorem pt_ne (x : Str) : pt x ≠ [] := by
 unfold pt
 rw [zDw x "\n\n" (by decide) zEn]
 obtain ⟨p, r, e⟩ := StrLaws.partsFrom_ne x ("\n\n" : Str).length 0 (Builtin.Str.occurrences x "\n\n" 0 x.length (x.length + 1))
 rw [e]
 exact List.cons_ne_nil _ _
noncomputable def NN (l : List Nat) : Prop := ∀ k, l[k]? = some 10 -> l[k + 1]? ≠ some 10
theorem zOS {l : List Nat} {j a b : Nat} (h1 : l[j]? = some a) (h2 : l[j + 1]? = some b) : (l.drop j).take 2 = [a, b] := by
 have l2 := (List.getElem?_eq_some_iff.mp h2).1
 have l1 : j < l.length := by omega
 rw [List.drop_eq_getElem_cons l1, List.drop_eq_getElem_cons l2]
 rw [List.getElem?_eq_getElem l1] at h1
 rw [List.getElem?_eq_getElem l2] at h2
 cases h1
 cases h2
 rfl
theorem zH0 {x : Str} {a c : Nat} (h : ∀ k, a <= k -> k < c -> ¬ At x "\n\n" x.length k) : NN (tl (strSub x a c)) := by
 have e : tl (strSub x a c) = ((tl x).drop a).take (c - a) := strSub_toList x a c
 rw [e]
 intro k h1 h2
 have k2 : k + 1 < c - a := by
  have := (List.getElem?_eq_some_iff.mp h2).1
  rw [List.length_take] at this
  omega
 rw [List.getElem?_take_of_lt (by omega), List.getElem?_drop] at h1
 rw [List.getElem?_take_of_lt k2, List.getElem?_drop] at h2
 refine h (a + k) (by omega) (by omega) ((zDr x "\n\n" (a + k)).mpr ?_)
 rw [zBF]
 have l2 := (List.getElem?_eq_some_iff.mp h2).1
 exact ⟨by show a + k + 2 <= _; omega, zOS h1 h2⟩
theorem zHb {x : Str} : ∀ (cuts : List Nat) (a f : Nat), ChainG x "\n\n" x.length a cuts f -> (∀ k, f <= k -> ¬ At x "\n\n" x.length k) -> ∀ p ∈ partsFrom x ("\n\n" : Str).length a cuts, NN (tl p)
 | [], a, f, h, hn, p, hp => by
  have hp' : p ∈ [strSub x a x.length] := hp
  rw [List.mem_singleton.mp hp']
  have ef : f = a := h
  exact zH0 fun k hk _ => hn k (by omega)
 | c :: r, a, f, h, hn, p, hp => by
  obtain ⟨_, _, h5, h6⟩ := h
  have hp' : p ∈ strSub x a c :: partsFrom x ("\n\n" : Str).length (c + ("\n\n" : Str).length) r := hp
  rcases List.mem_cons.mp hp' with rfl | hp'
  ·exact zH0 fun k h1 h2 => h5 k h1 h2
  ·exact zHb r _ f h6 hn p hp'
theorem pt_nn (x : Str) : ∀ p ∈ pt x, NN (tl p) := by
 unfold pt
 rw [zDw x "\n\n" (by decide) zEn]
 obtain ⟨f, hG, hn⟩ := occ_tight x "\n\n" (by decide)
 exact zHb _ 0 f hG hn
theorem zJi {Y : List Nat} : ∀ {ps : List (List Nat)} {p : List Nat}, p ∈ ps -> ∃ n, n + p.length <= (zAm Y ps).length /\ ∀ k, k < p.length -> (zAm Y ps)[n + k]? = p[k]?
 | [q], p, h => by
  rw [List.mem_singleton.mp h]
  exact ⟨0, by show 0 + q.length <= q.length; omega, fun k _ => by rw [Nat.zero_add]; rfl⟩
 | q :: q2 :: r, p, h => by
  rcases List.mem_cons.mp h with rfl | h
  ·refine ⟨0, ?_, fun k hk => ?_⟩
   ·show 0 + p.length <= (p ++ Y ++ zAm Y (q2 :: r)).length
    rw [List.length_append, List.length_append]
    omega
   ·show (p ++ Y ++ zAm Y (q2 :: r))[0 + k]? = _
    rw [Nat.zero_add, List.append_assoc, List.getElem?_append_left hk]
  ·obtain ⟨n, h1, h2⟩ := zJi (Y := Y) (ps := q2 :: r) h
   refine ⟨q.length + Y.length + n, ?_, fun k hk => ?_⟩
   ·show q.length + Y.length + n + p.length <= (q ++ Y ++ zAm Y (q2 :: r)).length
    rw [List.length_append, List.length_append]
    omega
   ·show (q ++ Y ++ zAm Y (q2 :: r))[q.length + Y.length + n + k]? = _
    rw [List.getElem?_append_right (by rw [List.length_append]; omega), List.length_append, show q.length + Y.length + n + k - (q.length + Y.length) = n + k by omega]
    exact h2 k hk
noncomputable def Win (X : List Nat) (n m : Nat) : Prop := n + m <= X.length /\ ∀ k, k + 1 < m -> X[n + k]? = some 10 -> X[n + k + 1]? ≠ some 10
theorem zF2 : ∀ {ps : List (List Nat)}, ps ≠ [] -> (∀ p ∈ ps, p.length <= 19) -> ∀ {n m : Nat}, Win (zAm [10, 10] ps) n m -> m <= 21 /\ (n = 0 -> m <= 20)
 | [], h, _, _, _, _ => absurd rfl h
 | [p], _, hp, n, m, w => by
  have := hp p List.mem_cons_self
  have h1 : n + m <= p.length := w.1
  omega
 | p :: q :: r, _, hp, n, m, w => by
  have lp := hp p List.mem_cons_self
  obtain ⟨J, hJ⟩ : ∃ J, J = zAm [10, 10] (q :: r) := ⟨_, rfl⟩
  have eX : zAm [10, 10] (p :: q :: r) = p ++ (10 :: 10 :: J) := by
   show p ++ [10, 10] ++ zAm [10, 10] (q :: r) = _
   rw [hJ, List.append_assoc]
   rfl
  rw [eX] at w
  obtain ⟨w1, w2⟩ := w
  rw [List.length_append, List.length_cons, List.length_cons] at w1
  have x0 : (p ++ (10 :: 10 :: J))[p.length]? = some 10 := by rw [List.getElem?_append_right (Nat.le_refl _), Nat.sub_self]; rfl
  have x1 : (p ++ (10 :: 10 :: J))[p.length + 1]? = some 10 := by rw [List.getElem?_append_right (by omega), show p.length + 1 - p.length = 1 by omega]; rfl
  have x2 : ∀ j, (p ++ (10 :: 10 :: J))[p.length + 2 + j]? = J[j]? := fun j => by rw [List.getElem?_append_right (by omega), show p.length + 2 + j - p.length = j + 2 by omega]; rfl
  have ih := fun {n m : Nat} => zF2 (ps := q :: r) (by simp) (fun p' h => hp p' (List.mem_cons_of_mem _ h)) (n := n) (m := m)
  rw [<- hJ] at ih
  by_cases c1 : n <= p.length
  ·by_cases c2 : p.length + 2 <= n + m
   ·exfalso
    refine w2 (p.length - n) (by omega) ?_ ?_
    ·rw [show n + (p.length - n) = p.length by omega]; exact x0
    ·rw [show n + (p.length - n) + 1 = p.length + 1 by omega]; exact x1
   ·omega
  ·by_cases c3 : n = p.length + 1
   ·by_cases c4 : m = 0
    ·omega
    ·have := (ih (n := 0) (m := m - 1) ⟨by omega, fun k hk h1 h2 => by
      refine w2 (k + 1) (by omega) ?_ ?_
      ·rw [show n + (k + 1) = p.length + 2 + k by omega, x2]; rw [Nat.zero_add] at h1; exact h1
      ·rw [show n + (k + 1) + 1 = p.length + 2 + (k + 1) by omega, x2]; rw [Nat.zero_add] at h2; exact h2⟩).2 rfl
     omega
   ·have := (ih (n := n - p.length - 2) (m := m) ⟨by omega, fun k hk h1 h2 => by
     refine w2 k hk ?_ ?_
     ·rw [show n + k = p.length + 2 + (n - p.length - 2 + k) by omega, x2]; exact h1
     ·rw [show n + k + 1 = p.length + 2 + (n - p.length - 2 + k + 1) by omega, x2]; exact h2⟩).1
    omega
theorem zK6 {X A B S : List Nat} {a b : Nat} (hX : ∀ {n m : Nat}, Win X n m -> m <= 21) (hA : A = X.take a) (hB : B = X.drop b) (hS : S.length <= 2) {n m : Nat} (w : Win (A ++ S ++ B) n m) : m <= 44 := by
 obtain ⟨w1, w2⟩ := w
 rw [List.length_append, List.length_append] at w1
 have la : A.length <= X.length := by rw [hA, List.length_take]; omega
 have atA : ∀ j, j < A.length -> (A ++ S ++ B)[j]? = X[j]? := fun j hj => by
  rw [List.append_assoc, List.getElem?_append_left hj, hA]
  refine List.getElem?_take_of_lt ?_
  rw [hA, List.length_take] at hj
  omega
 have atB : ∀ j, (A ++ S ++ B)[A.length + S.length + j]? = X[b + j]? := fun j => by
  rw [List.getElem?_append_right (by rw [List.length_append]; omega), List.length_append, show A.length + S.length + j - (A.length + S.length) = j by omega, hB, List.getElem?_drop]
 have lb : B.length <= X.length - b := by rw [hB, List.length_drop]; exact Nat.le_refl _
 have q1 : min (n + m) A.length - n <= 21 := by
  by_cases c : n <= A.length
  ·refine hX (n := n) ⟨by omega, fun k hk h1 h2 => w2 k (by omega) ?_ ?_⟩
   ·rw [atA _ (by omega)]; exact h1
   ·rw [atA _ (by omega)]; exact h2
  ·omega
 have q2 : n + m - max n (A.length + S.length) <= 21 := by
  by_cases c0 : b <= X.length
  case neg => omega
  by_cases c : A.length + S.length <= n + m
  ·refine hX (n := b + (max n (A.length + S.length) - (A.length + S.length))) ⟨?_, fun k hk h1 h2 => ?_⟩
   ·omega
   ·refine w2 (max n (A.length + S.length) - n + k) (by omega) ?_ ?_
    ·rw [show n + (max n (A.length + S.length) - n + k) = A.length + S.length + (max n (A.length + S.length) - (A.length + S.length) + k) by omega, atB]
     rw [<- Nat.add_assoc]; exact h1
    ·rw [show n + (max n (A.length + S.length) - n + k) + 1 = A.length + S.length + (max n (A.length + S.length) - (A.length + S.length) + k + 1) by omega, atB]
     rw [<- Nat.add_assoc, <- Nat.add_assoc]; exact h2
  ·omega
 omega
theorem zLi {x : Str} (h : ∀ {n m : Nat}, Win (tl x) n m -> m <= 44) : ∀ p ∈ pt x, p.length <= 44 := fun p hp => by
 have e : zAm [10, 10] ((pt x).map tl) = tl x := by
  have := zEz x
  have q := congrArg tl this
  rw [zBw, zBF] at q
  exact q
 obtain ⟨n, h1, h2⟩ := zJi (Y := [10, 10]) (List.mem_map_of_mem (f := tl) hp)
 rw [e] at h1 h2
 have nn := pt_nn x p hp
 rw [<- zAt]
 refine h (n := n) ⟨h1, fun k hk g1 g2 => ?_⟩
 rw [h2 k (by omega)] at g1
 rw [Nat.add_assoc, h2 (k + 1) hk] at g2
 exact nn k g1 g2
end My
namespace My
open PySem PySem.SeqAt L2 DL SD SL EL DC EX TX TB
open Builtin Builtin.Str
noncomputable def Sm (x : Str) : Prop := ∀ c ∈ tl x, c < 200
theorem zHG {x y : Str} (h1 : Sm x) (h2 : Sm y) : Sm (x ++ y) := fun c hc => by
 rw [zAS, List.mem_append] at hc
 exact hc.elim (h1 c) (h2 c)
theorem zFO (x y : Str) : (x ++ y).length = x.length + y.length := by rw [<- zAt, zAS, List.length_append, zAt, zAt]
theorem zL7 {w h : Nat} {W : C -> Bool} (h1 : 1 <= h) : rs (txt ⟨w, h, W⟩) = zAE w h W := by
 unfold rs
 obtain ⟨r, R, er, _⟩ := zDI (w := w) (W := W) h1
 show Txt.split (Txt.join "\n" (zAE w h W)) "\n" = _
 rw [er]
 refine zE2 (by decide) zER ?_
 rw [tl_n]
 refine zFo fun p hp => ?_
 rw [<- er] at hp
 obtain ⟨x, hx, rfl⟩ := List.mem_map.mp hp
 obtain ⟨y, _, rfl⟩ := List.mem_map.mp hx
 exact zEO _ _ _
theorem zC7 {x y : Str} (h1 : x.length <= 1000) (h2 : y.length <= 1000) : zBh (.str x) (.str y) = some (.str (x ++ y)) := by
 show (if decide (x.length + y.length <= 1000000) = true then some (PyData.str (x ++ y)) else none) = _
 rw [if_pos (by rw [decide_eq_true_eq]; omega)]
theorem sl_s {x : Str} (h1 : x.length <= 1000) (l u : Option Int) : dSlS (.str x) l u = some (.str (Txt.slice x l u)) := by
 show (if decide (x.length <= 1000000) = true then some (PyData.str (Txt.slice x l u)) else none) = _
 rw [if_pos (by rw [decide_eq_true_eq]; omega)]
theorem zKZ {w h : Nat} {W : C -> Bool} (w1 : 1 <= w) (w2 : w <= 12) (h1 : 1 <= h) (h2 : h <= 12) : good (txt ⟨w, h, W⟩) = true /\ flT (txt ⟨w, h, W⟩) = flD w h W := by
 have wf := zHp w1 w2 h1 h2 (W := W) rfl
 have rt := zL7 (w := w) (h := h) (W := W) h1
 have hte : ht (txt ⟨w, h, W⟩) = h := by unfold ht; rw [rt, zAE, List.length_map, List.length_range]
 have wde : wd (txt ⟨w, h, W⟩) = w := by
  have mm := zCy (zDM (txt ⟨w, h, W⟩))
  unfold wd
  generalize zAn (rs (txt ⟨w, h, W⟩)) 0 = p at mm
  rw [rt] at mm
  obtain ⟨y, _, rfl⟩ := List.mem_map.mp mm
  exact zCI _ _ _
 refine ⟨zEs.mpr wf, ?_⟩
 unfold flT
 rw [wde, hte]
 refine zLI fun c hc => ?_
 have q := zBs.mp hc
 have e : c = ((c.1.toNat : Int), (c.2.toNat : Int)) := Prod.ext (by dsimp only; omega) (by dsimp only; omega)
 rw [e, zEh, rt]
 have hy : c.2.toNat < h := by omega
 have hx : c.1.toNat < w := by omega
 have er : zAn (zAE w h W) c.2.toNat = rowT w W c.2.toNat := by
  unfold zAn zAE
  rw [List.getD_eq_getElem?_getD, List.getElem?_map, List.getElem?_range hy]
  rfl
 rw [er, zEj, rowN, List.getElem?_map, List.getElem?_range hx]
 show (some (sg (W ((c.1.toNat : Int), (c.2.toNat : Int)))) == some 35) = _
 cases W ((c.1.toNat : Int), (c.2.toNat : Int)) <;> rfl
noncomputable def bk (fs : List Fl) : Str := Txt.join "\n\n" (fs.map txt)
theorem eqv_F (f g : Fl) : PyData.eqv (fD f) (fD g) = true ↔ fD f = fD g := by
 have e : PyData.eqv (fD f) (fD g) = (((f.w : Int) == g.w) && (((f.h : Int) == g.h) && (PyData.eqvAll (((cells f.w f.h).filter f.W).map zAd) (((cells g.w g.h).filter g.W).map zAd) && true))) := rfl
 rw [e, zDg]
 simp only [Bool.and_eq_true, beq_iff_eq, decide_eq_true_eq, and_true]
 constructor
 ·rintro ⟨h1, h2, h3⟩
  unfold fD flD zAY
  rw [h1, h2, h3]
 ·intro h
  unfold fD flD zAY at h
  injection h with h
  injection h with h1 h
  injection h with h2 h
  injection h with h3 h
  injection h1 with h1
  injection h2 with h2
  injection h3 with h3
  refine ⟨h1, h2, ?_⟩
  have h4 := congrArg (fun d => PyData.eqvAll d (((cells g.w g.h).filter g.W).map zAd)) h3
  rw [zDg, zDg] at h4
  simpa using h4
theorem zI0 : ∀ fs gs : List Fl, PyData.eqvAll (fs.map fD) (gs.map fD) = true ↔ fs.map fD = gs.map fD
 | [], [] => ⟨fun _ => rfl, fun _ => rfl⟩
 | [], _ :: _ => ⟨(fun z => nomatch z), (fun z => nomatch z)⟩
 | _ :: _, [] => ⟨(fun z => nomatch z), (fun z => nomatch z)⟩
 | f :: fs, g :: gs => by
  show (PyData.eqv (fD f) (fD g) && PyData.eqvAll (fs.map fD) (gs.map fD)) = true ↔ _
  rw [Bool.and_eq_true, eqv_F, zI0 fs gs, List.map_cons, List.map_cons, List.cons.injEq]
theorem lay_F (f : Fl) : PyData.canLay0 (fD f) = true /\ PyData.depth (fD f) <= 3 := by
 obtain ⟨h1, h2⟩ := zD5 ((cells f.w f.h).filter f.W)
 refine ⟨?_, ?_⟩
 ·show PyData.canLay0 (.tuple [.int f.w, .int f.h, .tuple (((cells f.w f.h).filter f.W).map zAd)]) = true
  simp [PyData.canLay0, PyData.canLayAll0, h1]
 ·show Nat.max 0 (Nat.max 0 (Nat.max (PyData.depthAll (((cells f.w f.h).filter f.W).map zAd) + 1) 0)) + 1 <= 3
  exact Nat.succ_le_succ (Nat.max_le.mpr ⟨by decide, Nat.max_le.mpr ⟨by decide, Nat.max_le.mpr ⟨by omega, by decide⟩⟩⟩)
theorem zIR : ∀ fs : List Fl, PyData.canLayAll0 (fs.map fD) = true /\ PyData.depthAll (fs.map fD) <= 3
 | [] => ⟨rfl, by decide⟩
 | f :: fs => by
  obtain ⟨h1, h2⟩ := lay_F f
  obtain ⟨h3, h4⟩ := zIR fs
  refine ⟨?_, ?_⟩
  ·rw [List.map_cons, PyData.canLayAll0, h1, h3]; rfl
  ·rw [List.map_cons, PyData.depthAll]
   exact Nat.max_le.mpr ⟨h2, h4⟩
theorem zJn (fs : List Fl) : SeqAt.shaped (.list (fs.map fD)) = true := by
 obtain ⟨h1, h2⟩ := zIR fs
 have : PyData.depth (.list (fs.map fD)) <= 64 := by show PyData.depthAll (fs.map fD) + 1 <= 64; omega
 simp [SeqAt.shaped, PyData.canLay0, h1, this]
theorem zIx (l : List Nat) (a : Nat) : ∀ m, a + m <= l.length -> ((List.range m).map fun k => a + k).filterMap (fun i => l[i]?) = (l.drop a).take m
 | 0, _ => by simp
 | m + 1, h => by
  rw [List.range_succ, List.map_append, List.filterMap_append, zIx l a m (by omega), List.take_add_one, List.getElem?_drop, List.map_singleton, List.filterMap_cons, List.getElem?_eq_getElem (by omega)]
  rfl
theorem zII {w h : Nat} {W : C -> Bool} (w2 : w <= 12) (h2 : h <= 12) : zBz [flD w h W] = some (.str (txt ⟨w, h, W⟩)) := by
 refine zBN ?_
 unfold zFC
 rw [show zAF 3 [flD w h W] = [.dat (flD w h W), .no, .no] from rfl]
 refine zAD (by (simp only [id dn, zAk, if_true, if_false, reduceIte, Nat.reduceAdd, Nat.reduceSub, Nat.reduceLeDiff] <;> rfl)) ?_
 refine zAD (zEZ (n := h) (by simp only [id dn, zAk, if_true, if_false, reduceIte, Nat.reduceAdd, Nat.reduceSub, Nat.reduceLeDiff, fl_1]) (by omega) (zD0 (fun (k : Nat) => .int (k : Int)) (fun (b : List Str × Sl) => [.dat (flD w h W), .own (b.1.map PyData.str), b.2])
  (fun b y => (b.1 ++ [rowT w W y], .dat (.int (y : Int)))) (fun i b => b.1.length <= i) 12 (List.range h) 0 ([], .no) (by rw [List.length_range]; omega) (Nat.le_refl _) fun y hy i b hi hp => ?_)) ?_
 ·obtain ⟨acc, s3⟩ := b
  have hp' : acc.length <= i := hp
  have hy' : y < h := List.mem_range.mp hy
  refine ⟨⟨[.dat (flD w h W), .own (acc.map PyData.str), .dat (.int (y : Int))], rfl, ?_⟩, by show (acc ++ [rowT w W y]).length <= i + 1; rw [List.length_append, List.length_singleton]; omega⟩
  refine (zGn (es := acc.map PyData.str) (d := .str (rowT w W y)) rfl ?_ (by rw [List.length_map]; omega)).trans ?_
  ·have lc := zBJ (gi := zAR (zAa (eOp dIx (eV 0) (eC (.int 0))) eNil)) (s := zAo 0) (t := eT) (ge := eIf (eB (eOp (dIn false) (eTup (zAa (eV 0) (zAa (eV 1) eNil))) (eOp dIx (eV 2) (eC (.int 2))))) (eC (.str "#")) (eC (.str "."))) (inner := [none, some 2, some 0]) (xs := List.range w)
    (ρ := [.dat (flD w h W), .own (acc.map PyData.str), .dat (.int (y : Int))]) (fun (k : Nat) => .int (k : Int)) (fun _ => true) (fun (x : Nat) => .str (if W ((x : Int), (y : Int)) = true then ("#" : Str) else ".")) (fun ρ => ∃ s0, ρ = [s0, .dat (.int (y : Int)), .dat (flD w h W)]) (zEk (n := w) (by simp only [id dn, zAk, if_true, if_false, reduceIte, Nat.reduceAdd, Nat.reduceSub, Nat.reduceLeDiff, fl_0]) (by omega)) (by rw [List.length_range]; omega) ⟨.no, rfl⟩ (by
     rintro x hx ρ ⟨s0, rfl⟩
     have hx' : x < w := List.mem_range.mp hx
     have c0 : inR w h ((x : Int), (y : Int)) = true := zBs.mpr ⟨by omega, by show (x : Int) < w; omega, by show 0 <= (y : Int); omega, by show (y : Int) < h; omega⟩
     refine ⟨[.dat (.int (x : Int)), .dat (.int (y : Int)), .dat (flD w h W)], rfl, ⟨_, rfl⟩, rfl, fun _ => ?_⟩
     have q := in_W false ((x : Int), (y : Int)) w h W
     simp only [id dn, zAk, if_true, if_false, reduceIte, Nat.reduceAdd, Nat.reduceSub, Nat.reduceLeDiff, fl_2, q, sol, c0, Bool.true_and]
     cases W ((x : Int), (y : Int)) <;> rfl) rfl
   have e : (((List.range w).filter fun _ => true).map fun (x : Nat) => PyData.str (if W ((x : Int), (y : Int)) = true then ("#" : Str) else ".")) = ((List.range w).map fun (x : Nat) => if W ((x : Int), (y : Int)) = true then ("#" : Str) else ".").map PyData.str := by
    rw [zCl, List.map_map]
    rfl
   rw [e] at lc
   have j := dj (sep := "") (xs := (List.range w).map fun (x : Nat) => if W ((x : Int), (y : Int)) = true then ("#" : Str) else ".") (fun x hx => by
    obtain ⟨k, _, rfl⟩ := List.mem_map.mp hx
    split <;> decide) (by rw [List.length_map, List.length_range]; omega) (by decide)
   rw [zG9] at j
   simp only [zBn, ap_C, lc, O_bs]
   exact j
  ·show some (Out.nx _) = some (Out.nx _)
   simp only [List.set_cons_succ, List.set_cons_zero, List.map_append, List.map_cons, List.map_nil]
 ·refine zBl ?_
  rw [zFq]
  have j := dj (sep := "\n") (xs := zAE w h W) (fun x hx => by
   obtain ⟨k, _, rfl⟩ := List.mem_map.mp hx
   rw [zCI]; omega) (by rw [zAE, List.length_map, List.length_range]; omega) (by decide)
  rw [List.nil_append]
  simp only [id dn, zAk, if_true, if_false, reduceIte, Nat.reduceAdd, Nat.reduceSub, Nat.reduceLeDiff]
  exact j
noncomputable def refD : D := .tuple [.str "refused", .int 0]
theorem zN9 : zDo [excD "NoText"] = some refD := rfl
noncomputable def gd (x : Str) : Bool := (pt x).all good
structure OkT (x : Str) : Prop where
 ok : PyData.strOk x = true
 len : x.length <= 900
 sh : ∀ p ∈ pt x, p.length <= 63
theorem zEL (x : Str) : zAm [10, 10] ((pt x).map tl) = tl x := by
 have q := congrArg tl (zEz x)
 rw [zBw, zBF] at q
 exact q
theorem ok_pt {x : Str} (o : PyData.strOk x = true) {p : Str} (hp : p ∈ pt x) : PyData.strOk p = true := zFK fun c hc => zFz o (by
 rw [<- zEL x]
 exact zFv (List.mem_map_of_mem (f := tl) hp) hc)
theorem zHL : ∀ ps : List (List Nat), ps.length <= (zAm [10, 10] ps).length + 1
 | [] => Nat.zero_le _
 | [p] => by show 1 <= _; omega
 | p :: q :: r => by
  have := zHL (q :: r)
  show (q :: r).length + 1 <= (p ++ [10, 10] ++ zAm [10, 10] (q :: r)).length + 1
  rw [List.length_append, List.length_append]
  show (q :: r).length + 1 <= p.length + 2 + (zAm [10, 10] (q :: r)).length + 1
  omega
theorem zFL (x : Str) : (pt x).length <= x.length + 1 := by
 have := zHL ((pt x).map tl)
 rw [zEL, zAt, List.length_map] at this
 exact this
theorem zFS : ∀ (ps : List Str) (s0 : Sl), (∀ p ∈ ps, PyData.strOk p = true /\ p.length <= 63) -> zBU (zAo 0) (zBm zA4 (zAa (eV 0) eNil)) (ps.map PyData.str) [s0] = some (if ps.all good = true then .inl (ps.map flT) else .inr "NoText")
 | [], _, _ => rfl
 | p :: ps, s0, h => by
  obtain ⟨o, l⟩ := h p List.mem_cons_self
  have ra := zKd o l
  have ih := zFS ps (.dat (.str p)) fun q hq => h q (List.mem_cons_of_mem _ hq)
  have e : zBU (zAo 0) (zBm zA4 (zAa (eV 0) eNil)) ((p :: ps).map PyData.str) [s0] = (zA4 [.str p]).bind fun r => match r with
   | .inr x => some (.inr x)
   | .inl y => (zBU (zAo 0) (zBm zA4 (zAa (eV 0) eNil)) (ps.map PyData.str) [.dat (.str p)]).bind fun r2 => match r2 with
    | .inl ys => some (.inl (y :: ys))
    | .inr x => some (.inr x) := rfl
  rw [e, ra]
  by_cases g : good p = true
  ·rw [if_pos g, Option.bind_some]
   show (zBU (zAo 0) (zBm zA4 (zAa (eV 0) eNil)) (ps.map PyData.str) [.dat (.str p)]).bind _ = _
   rw [ih, Option.bind_some, List.all_cons, g, Bool.true_and]
   by_cases a : ps.all good = true
   ·rw [if_pos a, if_pos a]; rfl
   ·rw [if_neg a, if_neg a]
  ·rw [if_neg g, Option.bind_some, List.all_cons, Bool.eq_false_iff.mpr g, Bool.false_and, if_neg (by decide)]
theorem zNW {x : Str} (k : OkT x) : zDf [.str x] = some (if gd x = true then .inl (.list ((pt x).map flT)) else .inr "NoText") := by
 have l := k.len
 have sp : zBC (.str x) (.str "\n\n") = some (.list ((pt x).map PyData.str)) := ds (by decide) (by omega)
 have it : iSeq (eOp zBC (eV 0) (eC (.str "\n\n"))) (zAF 1 [.str x]) = some ((pt x).map PyData.str) := zCb (d := .list ((pt x).map PyData.str)) sp rfl
 have c := zFS (pt x) .no fun p hp => ⟨ok_pt k.ok hp, k.sh p hp⟩
 have n := zFL x
 show (iSeq (eOp zBC (eV 0) (eC (.str "\n\n"))) (zAF 1 [.str x])).bind _ = _
 rw [it, Option.bind_some, if_pos (by rw [List.length_map]; omega)]
 show (zBU (zAo 0) (zBm zA4 (zAa (eV 0) eNil)) ((pt x).map PyData.str) [.no]).bind _ = _
 rw [c, Option.bind_some]
 unfold gd
 by_cases a : (pt x).all good = true
 ·rw [if_pos a, if_pos a]
 ·rw [if_neg a, if_neg a]
theorem zEa {x : Str} (k : OkT x) : zAG [.str x] = some (if gd x = true then .list ((pt x).map flT) else refD) := by
 have ra := zNW k
 refine zBN ?_
 unfold zEp
 rw [show zAF 2 [.str x] = [.dat (.str x), .no] from rfl]
 by_cases g : gd x = true
 ·rw [if_pos g] at ra ⊢
  exact zN1 (zOz (zHZ rfl ra))
 ·rw [if_neg g] at ra ⊢
  exact zNA (x := "NoText") (zMw (zHZ rfl ra)) (by decide) (zBl (zDi rfl zN9))
structure Sm4 (f : Fl) : Prop where
 w1 : 1 <= f.w
 w4 : f.w <= 4
 h1 : 1 <= f.h
 h4 : f.h <= 4
theorem zEG {f : Fl} (o : Sm4 f) : (tl (txt f)).length <= 19 := by
 have e := zEm 10 (ps := (zAE f.w f.h f.W).map tl) (by
  obtain ⟨r, R, er, _⟩ := zDI (w := f.w) (W := f.W) o.h1
  rw [er]; simp)
 have q : tl (txt f) = zAm [10] ((zAE f.w f.h f.W).map tl) := by
  unfold txt
  rw [zBw, tl_n]
 have s : (((zAE f.w f.h f.W).map tl).map List.length).sum <= f.h * 4 := by
  have : ∀ l : List Nat, ((((l.map (rowT f.w f.W)).map tl).map List.length).sum) <= l.length * 4 := fun l => by
   induction l with
   | nil => exact Nat.le_refl _
   | cons a l ih =>
    rw [List.map_cons, List.map_cons, List.map_cons, List.sum_cons, List.length_cons, Nat.succ_mul]
    have : (tl (rowT f.w f.W a)).length <= 4 := by rw [zAt, zCI]; exact o.w4
    omega
  have z := this (List.range f.h)
  rw [List.length_range] at z
  exact z
 have c : ((zAE f.w f.h f.W).map tl).length = f.h := by rw [List.length_map, zAE, List.length_map, List.length_range]
 have := o.h4
 rw [q]
 omega
theorem zJN {f : Fl} (o : Sm4 f) : Bk 10 (tl (txt f)) := by
 obtain ⟨r, rs, e, _⟩ := zDI (w := f.w) (W := f.W) o.h1
 unfold txt
 rw [zBw, tl_n, e, List.map_cons]
 refine zE7 fun p hp => ?_
 rw [<- List.map_cons, <- e] at hp
 obtain ⟨x, hx, rfl⟩ := List.mem_map.mp hp
 obtain ⟨y, _, rfl⟩ := List.mem_map.mp hx
 refine ⟨fun z => ?_, zEO _ _ _⟩
 have z' := congrArg List.length z
 rw [zAt, zCI] at z'
 have := o.w1
 rw [z'] at this
 exact absurd this (by decide)
theorem pt_bk {fs : List Fl} (o : ∀ f ∈ fs, Sm4 f) (hn : fs ≠ []) : pt (bk fs) = fs.map txt := by
 cases fs with
 | nil => exact absurd rfl hn
 | cons f fs =>
  unfold pt bk
  rw [List.map_cons, zE2 (by decide) zEn]
  rw [zBF]
  refine zHR fun p hp => ?_
  rw [<- List.map_cons] at hp
  obtain ⟨x, hx, rfl⟩ := List.mem_map.mp hp
  obtain ⟨f', hf, rfl⟩ := List.mem_map.mp hx
  exact zJN (o f' hf)
theorem zE5 (fs : List Fl) : tl (bk fs) = zAm [10, 10] ((fs.map txt).map tl) := by
 unfold bk
 rw [zBw, zBF]
theorem zOJ {fs : List Fl} (o : ∀ f ∈ fs, Sm4 f) (hn : fs ≠ []) {n m : Nat} (w : Win (tl (bk fs)) n m) : m <= 21 := by
 rw [zE5] at w
 refine (zF2 (by simpa using hn) (fun p hp => ?_) w).1
 obtain ⟨x, hx, rfl⟩ := List.mem_map.mp hp
 obtain ⟨f, hf, rfl⟩ := List.mem_map.mp hx
 exact zEG (o f hf)
theorem zIE (fs : List Fl) : Sm (bk fs) := fun c hc => by
 rw [zE5] at hc
 rcases zDL hc with z | ⟨p, hp, z⟩
 ·have : c = 10 := by
   rcases List.mem_cons.mp z with z | z
   ·exact z
   ·exact List.mem_singleton.mp z
  rw [this]; decide
 ·obtain ⟨x, hx, rfl⟩ := List.mem_map.mp hp
  obtain ⟨f, _, rfl⟩ := List.mem_map.mp hx
  exact zHQ z
theorem zEW {fs : List Fl} (o : ∀ f ∈ fs, Sm4 f) (hl : fs.length <= 4) : (bk fs).length <= 84 := by
 rw [<- zAt, zE5]
 refine Nat.le_trans (zGl [10, 10] (B := 19) fun p hp => ?_) ?_
 ·obtain ⟨x, hx, rfl⟩ := List.mem_map.mp hp
  obtain ⟨f, hf, rfl⟩ := List.mem_map.mp hx
  exact zEG (o f hf)
 ·rw [List.length_map, List.length_map]
  show fs.length * 21 <= 84
  omega
theorem zD7 {fs : List Fl} (o : ∀ f ∈ fs, Sm4 f) (hn : fs ≠ []) (hl : fs.length <= 4) {x A S B : Str} {a b : Nat} (e : x = A ++ S ++ B) (hA : tl A = (tl (bk fs)).take a) (hB : tl B = (tl (bk fs)).drop b) (hS : S.length <= 2) (sS : Sm S) : OkT x := by
 have lT := zEW o hl
 have lA : A.length <= 84 := by rw [<- zAt, hA, List.length_take, zAt]; omega
 have lB : B.length <= 84 := by rw [<- zAt, hB, List.length_drop, zAt]; omega
 have sA : Sm A := fun c hc => zIE fs c (List.mem_of_mem_take (by rw [<- hA]; exact hc))
 have sB : Sm B := fun c hc => zIE fs c (List.mem_of_mem_drop (by rw [<- hB]; exact hc))
 refine ⟨?_, ?_, fun p hp => ?_⟩
 ·rw [e]; exact sok (zHG (zHG sA sS) sB)
 ·rw [e, zFO, zFO]; omega
 ·have := zLi (x := x) (fun {n m} w => by
   rw [e, zAS, zAS] at w
   exact zK6 (X := tl (bk fs)) (fun {n m} w => zOJ o hn w) hA hB (by rw [zAt]; exact hS) w) p hp
  omega
theorem zHJ {f : Fl} (o : Sm4 f) : good (txt f) = true /\ flT (txt f) = fD f := zKZ o.w1 (Nat.le_trans o.w4 (by decide)) o.h1 (Nat.le_trans o.h4 (by decide))
theorem zED {fs : List Fl} (o : ∀ f ∈ fs, Sm4 f) (hn : fs ≠ []) : gd (bk fs) = true /\ (pt (bk fs)).map flT = fs.map fD := by
 unfold gd
 rw [pt_bk o hn]
 refine ⟨List.all_eq_true.mpr fun x hx => ?_, ?_⟩
 ·obtain ⟨f, hf, rfl⟩ := List.mem_map.mp hx
  exact (zHJ (o f hf)).1
 ·rw [List.map_map]
  exact List.map_congr_left fun f hf => (zHJ (o f hf)).2
theorem zJ0 {p : Str} (g : good p = true) : Bk 10 (tl p) := by
 have wf := zEs.mp g
 have e := zFh p
 have ne := zDX p
 have q : tl p = zAm [10] ((rs p).map tl) := by rw [zFB]
 rw [q]
 cases er : rs p with
 | nil => exact absurd er ne
 | cons r R =>
  rw [List.map_cons]
  refine zE7 fun z hz => ?_
  rw [<- List.map_cons, <- er] at hz
  obtain ⟨x, hx, rfl⟩ := List.mem_map.mp hz
  refine ⟨fun y => ?_, zGQ p x hx⟩
  have l := wf.ro x hx
  have y' := congrArg List.length y
  rw [zAt, l] at y'
  have := wf.w1
  rw [y'] at this
  exact absurd this (by decide)
theorem zEU : ∀ {ps : List (List Nat)}, ps ≠ [] -> (∀ p ∈ ps, Bk 10 p) -> (∃ d r, zAm [10, 10] ps = d :: r /\ d ≠ 10) /\ ∀ k, k + 1 = (zAm [10, 10] ps).length -> (zAm [10, 10] ps)[k]? ≠ some 10
 | [], h, _ => absurd rfl h
 | [p], _, h => ⟨(h p List.mem_cons_self).hd, (h p List.mem_cons_self).la⟩
 | p :: q :: r, _, h => by
  obtain ⟨d, t, e, hd⟩ := (h p List.mem_cons_self).hd
  obtain ⟨_, la⟩ := zEU (ps := q :: r) (by simp) fun z hz => h z (List.mem_cons_of_mem _ hz)
  obtain ⟨⟨d2, t2, e2, _⟩, _⟩ := zEU (ps := q :: r) (by simp) fun z hz => h z (List.mem_cons_of_mem _ hz)
  refine ⟨⟨d, t ++ [10, 10] ++ zAm [10, 10] (q :: r), ?_, hd⟩, fun k hk => ?_⟩
  ·show p ++ [10, 10] ++ zAm [10, 10] (q :: r) = _
   rw [e]; rfl
  ·have hk' : k + 1 = (p ++ [10, 10] ++ zAm [10, 10] (q :: r)).length := hk
   show (p ++ [10, 10] ++ zAm [10, 10] (q :: r))[k]? ≠ some 10
   have l0 : 0 < (zAm [10, 10] (q :: r)).length := by rw [e2]; simp
   rw [List.length_append] at hk'
   rw [List.getElem?_append_right (by omega)]
   exact la _ (by omega)
theorem zH2 {x : Str} (g : gd x = true) : (∃ d r, tl x = d :: r /\ d ≠ 10) /\ ∀ k, k + 1 = (tl x).length -> (tl x)[k]? ≠ some 10 := by
 have := zEU (ps := (pt x).map tl) (by simpa using pt_ne x) fun p hp => by
  obtain ⟨z, hz, rfl⟩ := List.mem_map.mp hp
  exact zJ0 (List.all_eq_true.mp g z hz)
 rw [zEL] at this
 exact this
end My
namespace My
open PySem PySem.SeqAt L2 DL SD SL EL DC EX TX TB
open Builtin Builtin.Str
theorem zGZ {a b n : Nat} (h : a <= b) : sliceRange (a : Int) (b : Int) 1 = (List.range (b - a)).map fun k => a + k := by
 have cnt : (if (a : Int) < (b : Int) then ((b : Int) - a + 1 - 1) / 1 else 0).toNat = b - a := by
  rw [Int.ediv_one]
  split <;> omega
 show (List.range (if (a : Int) < (b : Int) then ((b : Int) - a + 1 - 1) / 1 else 0).toNat).map (fun (k : Nat) => ((a : Int) + 1 * (k : Int)).toNat) = _
 rw [cnt]
 exact List.map_congr_left fun k _ => by omega
theorem zF1 (v n : Nat) : max 0 (min (if (v : Int) < 0 then (v : Int) + (n : Int) else (v : Int)) (n : Int)) = ((min v n : Nat) : Int) := by omega
theorem zIo {x : Str} {l u : Option Int} {c m : Nat} (e : strSliceIndices l u 1 x.length = (List.range m).map fun k => c + k) (h : c + m <= x.length) : tl (Txt.slice x l u) = ((tl x).drop c).take m := by
 have hl := zAt x
 unfold Txt.slice
 rw [e, List.length_map, List.length_range]
 split
 ·rename_i q
  have : m = x.length := by simpa using q
  have a0 : c = 0 := by omega
  rw [a0, List.drop_zero, List.take_of_length_le (by omega)]
 ·show (((List.range m).map fun k => c + k).filterMap (x.cps[·]?)).toArray.toList = _
  have q := zIx (tl x) c m (by omega)
  have e2 : (fun (i : Nat) => (tl x)[i]?) = fun (i : Nat) => x.cps[i]? := by
   funext i
   show x.cps.toList[i]? = _
   rw [Array.getElem?_toList]
  rw [e2] at q
  exact q
theorem tl_to (x : Str) (a : Nat) : tl (Txt.slice x none (some (a : Int))) = (tl x).take a := by
 have hl := zAt x
 have e : strSliceIndices none (some (a : Int)) 1 x.length = (List.range (min a x.length)).map fun k => 0 + k := by
  show sliceRange 0 (max 0 (min (if (a : Int) < 0 then (a : Int) + (x.length : Int) else (a : Int)) (x.length : Int))) 1 = _
  rw [zF1]
  have := zGZ (a := 0) (b := min a x.length) (n := 0) (Nat.zero_le _)
  rw [Nat.sub_zero] at this
  exact this
 rw [zIo e (by omega), List.drop_zero]
 by_cases c : a <= x.length
 ·rw [Nat.min_eq_left c]
 ·rw [Nat.min_eq_right (by omega), List.take_of_length_le (by omega), List.take_of_length_le (by omega)]
theorem zNP (x : Str) (b : Nat) : tl (Txt.slice x (some (b : Int)) none) = (tl x).drop b := by
 have hl := zAt x
 have e : strSliceIndices (some (b : Int)) none 1 x.length = (List.range (x.length - min b x.length)).map fun k => min b x.length + k := by
  show sliceRange (max 0 (min (if (b : Int) < 0 then (b : Int) + (x.length : Int) else (b : Int)) (x.length : Int))) (x.length : Int) 1 = _
  rw [zF1]
  exact zGZ (n := 0) (by omega)
 rw [zIo e (by omega)]
 by_cases c : b <= x.length
 ·rw [Nat.min_eq_left c, List.take_of_length_le (by rw [List.length_drop]; omega)]
 ·rw [Nat.min_eq_right (by omega), List.drop_eq_nil_of_le (by omega), List.drop_eq_nil_of_le (by omega), List.take_nil]
noncomputable def zCO : List Str := ["#", ".", "\n", " ", "", "a"]
theorem zMk {k : Int} (h0 : 0 <= k) (h1 : k < 6) : ∃ s : Str, dIx (.list (zCO.map PyData.str)) (.int k) = some (.str s) /\ s.length <= 2 /\ Sm s := by
 have hk : k.toNat < zCO.length := by show k.toNat < 6; omega
 refine ⟨zCO[k.toNat], ?_, ?_⟩
 ·have z : atI (zCO.map PyData.str) ((k.toNat : Nat) : Int) = some (.str zCO[k.toNat]) := by
   refine zMN ?_
   rw [List.getElem?_map, List.getElem?_eq_getElem hk]
   rfl
  rw [show ((k.toNat : Nat) : Int) = k by omega] at z
  exact z
 ·have : (zCO.all fun t => (tl t).all (fun c => decide (c < 200)) && decide (t.length <= 2)) = true := by decide +kernel
  have q := List.all_eq_true.mp this _ (List.getElem_mem hk)
  rw [Bool.and_eq_true, List.all_eq_true, decide_eq_true_eq] at q
  exact ⟨q.2, fun c hc => of_decide_eq_true (q.1 c hc)⟩
theorem zG2 : dNe refD refD = some (.bool false) := by kernel_rfl
theorem ne_Fs (fs : List Fl) : dNe (.list (fs.map fD)) (.list (fs.map fD)) = some (.bool false) := by
 unfold dNe
 rw [zJn]
 show some (PyData.bool (!PyData.eqvAll (fs.map fD) (fs.map fD))) = _
 rw [(zI0 fs fs).mpr rfl]
 rfl
theorem zHd {x : Str} (o : PyData.strOk x = true) : dNe (.str x) (.str x) = some (.bool false) := by
 have := ne_s o o
 rw [beq_self_eq_true] at this
 exact this
theorem d1 : zAG [.str ""] = some refD := by kernel_rfl
theorem d2 : zAG [.str "\n"] = some refD := by kernel_rfl
theorem d3 : zAG [.str "\n\n"] = some refD := by kernel_rfl
theorem d4 : zAG [.str "#.\n#"] = some refD := by kernel_rfl
theorem d5 : zAG [.str "#\n\n\n."] = some refD := by kernel_rfl
theorem d6 : zAG [.str (repS "." 13)] = some refD := by kernel_rfl
theorem d7 : zAG [.str (repS ".\n" 12 ++ ".")] = some refD := by kernel_rfl
theorem d8 : zAG [.str ".#\n\n#\n."] = some (.list [.tuple [.int 2, .int 1, .tuple [.tuple [.int 1, .int 0]]], .tuple [.int 1, .int 2, .tuple [.tuple [.int 0, .int 0]]]]) := by kernel_rfl
theorem zIg {fs : List Fl} {G : List D -> Option D} (hG : ∀ f ∈ fs, G [fD f] = some (.str (txt f))) (hl : fs.length <= 4) {gi : Rho -> Option (List D)} {inner : List (Option Nat)} {ρ : Rho} (hi : gi ρ = some (fs.map fD)) (h0 : zA6 inner ρ = [.no]) : eLc (zAI gi (zAo 0) eT (zAh G (zAa (eV 0) eNil)) inner) ρ = some (.list ((fs.map txt).map PyData.str)) := by
 refine zBJ (xs := fs) fD (fun _ => true) (fun f => .str (txt f)) (fun ρ => ∃ s0, ρ = [s0]) hi (by omega) ⟨_, h0⟩ ?_ (by rw [zCl, List.map_map]; rfl)
 rintro f hf ρ ⟨s0, rfl⟩
 refine ⟨[.dat (fD f)], rfl, ⟨_, rfl⟩, rfl, fun _ => ?_⟩
 exact zDi rfl (hG f hf)
theorem zOb {x : Str} (k : OkT x) (g : gd x = true) {gi : Rho -> Option (List D)} {inner : List (Option Nat)} {ρ : Rho} (hi : gi ρ = some ((pt x).map flT)) (h0 : zA6 inner ρ = [.no]) : eLc (zAI gi (zAo 0) eT (zAh zBz (zAa (eV 0) eNil)) inner) ρ = some (.list ((pt x).map PyData.str)) := by
 have n := zFL x
 have l := k.len
 refine zBJ (xs := pt x) flT (fun _ => true) PyData.str (fun ρ => ∃ s0, ρ = [s0]) hi (by omega) ⟨_, h0⟩ ?_ (by rw [zCl])
 rintro p hp ρ ⟨s0, rfl⟩
 refine ⟨[.dat (flT p)], rfl, ⟨_, rfl⟩, rfl, fun _ => ?_⟩
 have wf := zEs.mp (List.all_eq_true.mp g p hp)
 have q : zBz [flT p] = some (.str (txt ⟨wd p, ht p, Wt (rs p)⟩)) := zII wf.w2 wf.h2
 rw [zH7 wf] at q
 exact zDi rfl q
theorem zMt {x : Str} (k : OkT x) : zA9 (.str "\n\n") (.list ((pt x).map PyData.str)) = some (.str x) := by
 have n := zFL x
 have l := k.len
 have q := dj (sep := "\n\n") (xs := pt x) (fun p hp => by have := k.sh p hp; omega) (by omega) (by decide)
 rw [zEz] at q
 exact q
section
variable {ns : List Int} {fs : List Fl} (hn : ns.length <= 63) (o : ∀ f ∈ fs, Sm4 f) (ne : fs ≠ []) (hl : fs.length <= 4)
noncomputable def fr (ns : List Int) (fs : List Fl) (s3 s4 s5 s6 s7 s8 : Sl) : Rho := [.dat (scr ns), .dat (.list (fs.map fD)), .dat (.str (bk fs)), s3, s4, s5, s6, s7, s8]
include o ne hl in
theorem zIK : OkT (bk fs) := by
 refine zD7 o ne hl (A := bk fs) (S := "") (B := "") (a := (tl (bk fs)).length) (b := (tl (bk fs)).length) ?_ (by rw [List.take_length]) (by rw [List.drop_length]; decide) (by decide) (fun c hc => by rw [show tl ("" : Str) = [] by decide] at hc; cases hc)
 refine zBQ ?_
 rw [zAS, zAS, show tl ("" : Str) = [] by decide, List.append_nil, List.append_nil]
include o ne hl hn in
theorem turn (k : Int) (s4 s5 s6 s7 : Sl) :
  Nx (sSeq (sSet 4 (zAh zAH (zAa (eV 0) (zAa (eOp zAu (eC (.int 210)) (eOp zAz (eC (.int 4)) (eV 3))) (zAa (eOp zAu (zAh zCj (zAa (eV 2) eNil)) (eC (.int 1))) eNil)))))
  (sSeq (sSet 5 (eOp dIx (eLst (zAa (eC (.str "#")) (zAa (eC (.str ".")) (zAa (eC (.str "\n")) (zAa (eC (.str " ")) (zAa (eC (.str "")) (zAa (eC (.str "a")) eNil))))))) (zAh zAH (zAa (eV 0) (zAa (eOp zAu (eC (.int 211)) (eOp zAz (eC (.int 4)) (eV 3))) (zAa (eC (.int 6)) eNil))))))
  (sSeq (sSet 6 (eOp zBh (eOp zBh (eSlS (eV 2) oNo (oE (eV 4))) (eV 5)) (eSlS (eV 2) (oE (eOp zAu (eV 4) (zAh zAH (zAa (eV 0) (zAa (eOp zAu (eC (.int 212)) (eOp zAz (eC (.int 4)) (eV 3))) (zAa (eC (.int 2)) eNil)))))) oNo)))
  (sSeq (sSet 7 (zAh zAG (zAa (eV 6) eNil)))
  (sIf (eB (eIs "tuple" (eV 7))) (sIf (eOr (eB (eOp dNe (eV 7) (eTup (zAa (eC (.str "refused")) (zAa (eC (.int 0)) eNil))))) (eB (eOp dEq (eV 6) (eV 2)))) (sRet (eC (.bool false))) zAO) (sIf (eB (eOp dNe (eOp zA9 (eC (.str "\n\n")) (eLc (zAI (iSeq (eV 7)) (zAo 0) eT (zAh zBz (zAa (eV 0) eNil)) [none]))) (eV 6))) (sRet (eC (.bool false))) zAO))))))
  (fr ns fs (.dat (.int k)) s4 s5 s6 s7 .no) (fun ρ => ∃ s3 s4 s5 s6 s7, ρ = fr ns fs s3 s4 s5 s6 s7 .no) := by
 have lT := zEW o hl
 have oT := zIK o ne hl
 have l1 : zCj [.str (bk fs)] = some (.int ((bk fs).length : Int)) := by
  show (if decide ((bk fs).length <= 1000000) = true then some (PyData.int ((bk fs).length : Int)) else none) = _
  rw [if_pos (by rw [decide_eq_true_eq]; omega)]
 have m4 : zAz (.int 4) (.int k) = some (.int (4 * k)) := zBG (okS (by decide) (by decide))
 obtain ⟨e1, a0, a1⟩ := zB0 ns hn (210 + 4 * k) (((bk fs).length : Int) + 1) (by omega)
 obtain ⟨e2, b0, b1⟩ := zB0 ns hn (211 + 4 * k) 6 (by omega)
 obtain ⟨e3, c0, c1⟩ := zB0 ns hn (212 + 4 * k) 2 (by omega)
 obtain ⟨sg, es, sl, sm⟩ := zMk b0 b1
 obtain ⟨a, ha⟩ : ∃ a : Nat, dr ns (210 + 4 * k) (((bk fs).length : Int) + 1) = (a : Int) := ⟨_, (Int.toNat_of_nonneg a0).symm⟩
 obtain ⟨b, hb⟩ : ∃ b : Nat, (a : Int) + dr ns (212 + 4 * k) 2 = (b : Int) := ⟨((a : Int) + dr ns (212 + 4 * k) 2).toNat, (Int.toNat_of_nonneg (by omega)).symm⟩
 rw [ha] at e1
 refine zDq (zBo (d := .int (a : Int)) (by unfold fr; simp only [id dn, zAk, if_true, if_false, reduceIte, Nat.reduceAdd, Nat.reduceSub, Nat.reduceLeDiff, m4, l1, e1])) ?_
 rw [show (fr ns fs (.dat (.int k)) s4 s5 s6 s7 .no).set 4 (.dat (.int (a : Int))) = fr ns fs (.dat (.int k)) (.dat (.int (a : Int))) s5 s6 s7 .no from rfl]
 have es' : dIx (.list [.str "#", .str ".", .str "\n", .str " ", .str "", .str "a"]) (.int (dr ns (211 + 4 * k) 6)) = some (.str sg) := es
 refine zDq (zBo (d := .str sg) (by unfold fr; simp only [id dn, zAk, if_true, if_false, reduceIte, Nat.reduceAdd, Nat.reduceSub, Nat.reduceLeDiff, m4, e2, es'])) ?_
 rw [show (fr ns fs (.dat (.int k)) (.dat (.int (a : Int))) s5 s6 s7 .no).set 5 (.dat (.str sg)) = fr ns fs (.dat (.int k)) (.dat (.int (a : Int))) (.dat (.str sg)) s6 s7 .no from rfl]
 obtain ⟨A, hA⟩ : ∃ A, A = Txt.slice (bk fs) none (some (a : Int)) := ⟨_, rfl⟩
 obtain ⟨B, hB⟩ : ∃ B, B = Txt.slice (bk fs) (some (b : Int)) none := ⟨_, rfl⟩
 obtain ⟨x, hx⟩ : ∃ x, x = A ++ sg ++ B := ⟨_, rfl⟩
 have lA : A.length <= 84 := by rw [hA]; exact Nat.le_trans (Txt.slice_le _ _ _) lT
 have lB : B.length <= 84 := by rw [hB]; exact Nat.le_trans (Txt.slice_le _ _ _) lT
 have s1 := sl_s (x := bk fs) (by omega) none (some (a : Int))
 have s2 := sl_s (x := bk fs) (by omega) (some (b : Int)) none
 rw [<- hA] at s1
 rw [<- hB] at s2
 have p1 := zC7 (x := A) (y := sg) (by omega) (by omega)
 have p2 := zC7 (x := A ++ sg) (y := B) (by rw [zFO]; omega) (by omega)
 rw [<- hx] at p2
 have ox : OkT x := zD7 o ne hl hx (by rw [hA]; exact tl_to _ _) (by rw [hB]; exact zNP _ _) sl sm
 refine zDq (zBo (d := .str x) (by unfold fr; simp only [id dn, zAk, if_true, if_false, reduceIte, Nat.reduceAdd, Nat.reduceSub, Nat.reduceLeDiff, eSlS, m4, s1, p1, e3, hb, s2, p2])) ?_
 rw [show (fr ns fs (.dat (.int k)) (.dat (.int (a : Int))) (.dat (.str sg)) s6 s7 .no).set 6 (.dat (.str x)) = fr ns fs (.dat (.int k)) (.dat (.int (a : Int))) (.dat (.str sg)) (.dat (.str x)) s7 .no from rfl]
 have tx := zEa ox
 by_cases g : gd x = true
 ·rw [if_pos g] at tx
  refine zDq (zBo (d := .list ((pt x).map flT)) (by unfold fr; simp only [id dn, zAk, if_true, if_false, reduceIte, Nat.reduceAdd, Nat.reduceSub, Nat.reduceLeDiff, tx])) ?_
  rw [show (fr ns fs (.dat (.int k)) (.dat (.int (a : Int))) (.dat (.str sg)) (.dat (.str x)) s7 .no).set 7 (.dat (.list ((pt x).map flT))) = fr ns fs (.dat (.int k)) (.dat (.int (a : Int))) (.dat (.str sg)) (.dat (.str x)) (.dat (.list ((pt x).map flT))) .no from rfl]
  refine zGv (b := false) rfl (fun z => by cases z) fun _ => zJc ?_ ⟨_, _, _, _, _, rfl⟩
  have po := zOb ox g (gi := iSeq (eV 7)) (inner := [none]) (ρ := fr ns fs (.dat (.int k)) (.dat (.int (a : Int))) (.dat (.str sg)) (.dat (.str x)) (.dat (.list ((pt x).map flT))) .no) (zCb rfl rfl) rfl
  have jp := zMt ox
  have nx := zHd ox.ok
  rw [show List.map frz (fr ns fs (.dat (.int k)) (.dat (.int (a : Int))) (.dat (.str sg)) (.dat (.str x)) (.dat (.list ((pt x).map flT))) .no) = fr ns fs (.dat (.int k)) (.dat (.int (a : Int))) (.dat (.str sg)) (.dat (.str x)) (.dat (.list ((pt x).map flT))) .no from rfl]
  rw [ap_B, zBn, zBn, po, ap_C, O_bs, O_bs, jp, O_bs]
  show (dNe (.str x) (.str x)).bind asB = _
  rw [nx]
  rfl
 ·rw [if_neg g] at tx
  refine zDq (zBo (d := refD) (by unfold fr; simp only [id dn, zAk, if_true, if_false, reduceIte, Nat.reduceAdd, Nat.reduceSub, Nat.reduceLeDiff, tx])) ?_
  rw [show (fr ns fs (.dat (.int k)) (.dat (.int (a : Int))) (.dat (.str sg)) (.dat (.str x)) s7 .no).set 7 (.dat refD) = fr ns fs (.dat (.int k)) (.dat (.int (a : Int))) (.dat (.str sg)) (.dat (.str x)) (.dat refD) .no from rfl]
  have xT : (x == bk fs) = false := beq_eq_false_iff_ne.mpr fun z => g (by rw [z]; exact (zED o ne).1)
  have q := eq_s ox.ok oT.ok
  rw [xT] at q
  have nr : dNe refD (.tuple [.str "refused", .int 0]) = some (.bool false) := zG2
  refine zGv (b := true) rfl (fun _ => zJc ?_ ⟨_, _, _, _, _, rfl⟩) fun z => by cases z
  rw [show List.map frz (fr ns fs (.dat (.int k)) (.dat (.int (a : Int))) (.dat (.str sg)) (.dat (.str x)) (.dat refD) .no) = fr ns fs (.dat (.int k)) (.dat (.int (a : Int))) (.dat (.str sg)) (.dat (.str x)) (.dat refD) .no from rfl]
  unfold fr
  simp only [id dn, zAk, if_true, if_false, reduceIte, Nat.reduceAdd, Nat.reduceSub, Nat.reduceLeDiff, nr, q]
end
theorem zHV {fs : List Fl} (o : ∀ f ∈ fs, Sm4 f) (ne : fs ≠ []) (hl : fs.length <= 4) {S : Str} (hS : S.length <= 2) (sS : Sm S) (hb : ∃ r, tl S = r ++ [10]) : zAG [.str (bk fs ++ S)] = some refD := by
 have ok : OkT (bk fs ++ S) := zD7 o ne hl (A := bk fs) (S := S) (B := "") (a := (tl (bk fs)).length) (b := (tl (bk fs)).length) (zBQ (by rw [zAS, zAS, zAS, show tl ("" : Str) = [] by decide, List.append_nil])) (by rw [List.take_length]) (by rw [List.drop_length]; decide) hS sS
 have t := zEa ok
 rw [if_neg] at t
 ·exact t
 ·intro g
  obtain ⟨r, hr⟩ := hb
  have e : tl (bk fs ++ S) = (tl (bk fs) ++ r) ++ [10] := by rw [zAS, hr, List.append_assoc]
  refine (zH2 g).2 (tl (bk fs) ++ r).length ?_ ?_
  ·rw [e, List.length_append (as := tl (bk fs) ++ r)]; rfl
  ·rw [e, List.getElem?_append_right (Nat.le_refl _), Nat.sub_self]; rfl
theorem zMc {fs : List Fl} (o : ∀ f ∈ fs, Sm4 f) (ne : fs ≠ []) (hl : fs.length <= 4) : zAG [.str ("\n\n" ++ bk fs)] = some refD := by
 have ok : OkT ("\n\n" ++ bk fs) := zD7 o ne hl (A := "") (S := "\n\n") (B := bk fs) (a := 0) (b := 0) (zBQ (by rw [zAS, zAS, zAS, show tl ("" : Str) = [] by decide, List.nil_append])) (by rw [List.take_zero]; decide) (by rw [List.drop_zero]) (by decide) (fun c hc => by
  rw [zBF] at hc
  rcases List.mem_cons.mp hc with z | z
  ·rw [z]; decide
  ·rw [List.mem_singleton.mp z]; decide)
 have t := zEa ok
 rw [if_neg] at t
 ·exact t
 ·intro g
  obtain ⟨d, r, e, hd⟩ := (zH2 g).1
  rw [zAS, zBF] at e
  injection e with e1 _
  exact hd e1.symm
theorem sm_n : Sm "\n" := fun c hc => by rw [tl_n, List.mem_singleton] at hc; rw [hc]; decide
theorem sm_nn : Sm "\n\n" := fun c hc => by
 rw [zBF] at hc
 rcases List.mem_cons.mp hc with z | z
 ·rw [z]; decide
 ·rw [List.mem_singleton.mp z]; decide
theorem zLW {ds : List D} {ρ : Rho} {gi : Rho -> Option D} (hi : gi ρ = some (.list ds)) (hl : ds.length <= 1000) (h : ∀ d ∈ ds, zAG [d] = some refD) : eLc (zAI (iSeq gi) (zAo 0) (eB (eOp dNe (zAh zAG (zAa (eV 0) eNil)) (eTup (zAa (eC (.str "refused")) (zAa (eC (.int 0)) eNil))))) (eV 0) [none]) ρ = some (.list []) := by
 refine zBJ (xs := ds) id (fun _ => false) id (fun ρ => ∃ s0, ρ = [s0]) ((zCb hi rfl).trans (by rw [List.map_id])) hl ⟨.no, rfl⟩ ?_ (by simp)
 rintro d hd ρ ⟨s0, rfl⟩
 refine ⟨[.dat d], rfl, ⟨_, rfl⟩, ?_, fun _ => rfl⟩
 have nr : dNe refD (.tuple [.str "refused", .int 0]) = some (.bool false) := zG2
 simp only [id dn, zAk, if_true, if_false, reduceIte, Nat.reduceAdd, Nat.reduceSub, Nat.reduceLeDiff, h d hd, nr]
theorem main (ns : List Int) (hn : ns.length <= 63) : Glaw [.list (ns.map PyData.int)] = some (.bool true) := by
 obtain ⟨ed, d0, d1'⟩ := zB0 ns hn 200 4 (by omega)
 obtain ⟨n, hN⟩ : ∃ n : Nat, 1 + dr ns 200 4 = (n : Int) := ⟨(1 + dr ns 200 4).toNat, (Int.toNat_of_nonneg (by omega)).symm⟩
 have n1 : 1 <= n := by omega
 have n4 : n <= 4 := by omega
 have pick : ∀ k : Nat, ∃ f : Fl, zB9 [scr ns, .int (30 * (k : Int)), .int 4] = some (fD f) /\ Sm4 f := fun k => by
  obtain ⟨w, h, W, ef, w1, w4, h1, h4⟩ := zLX ns hn (30 * (k : Int)) 4 (by decide) (by decide)
  exact ⟨⟨w, h, W⟩, ef, ⟨w1, w4, h1, h4⟩⟩
 obtain ⟨F, hF⟩ := Classical.axiomOfChoice pick
 obtain ⟨fs, hfs⟩ : ∃ fs, fs = (List.range n).map F := ⟨_, rfl⟩
 have hl : fs.length <= 4 := by rw [hfs, List.length_map, List.length_range]; exact n4
 have ne : fs ≠ [] := by
  intro z
  have := congrArg List.length z
  rw [hfs, List.length_map, List.length_range] at this
  simp at this
  omega
 have o : ∀ f ∈ fs, Sm4 f := fun f hf => by
  rw [hfs] at hf
  obtain ⟨k, _, rfl⟩ := List.mem_map.mp hf
  exact (hF k).2
 have oT := zIK o ne hl
 have lT := zEW o hl
 have dj2 : zA9 (.str "\n\n") (.list ((fs.map txt).map PyData.str)) = some (.str (bk fs)) := dj (sep := "\n\n") (xs := fs.map txt) (fun x hx => by
  obtain ⟨f, hf, rfl⟩ := List.mem_map.mp hx
  have := zEG (o f hf)
  rw [zAt] at this
  omega) (by rw [List.length_map]; omega) (by decide)
 refine zBN ?_
 unfold glaw
 rw [show zAF 9 [.list (ns.map PyData.int)] = [.dat (scr ns), .no, .no, .no, .no, .no, .no, .no, .no] from rfl]
 have lc := zBJ (gi := zAR (zAa (eOp zAu (eC (.int 1)) (zAh zAH (zAa (eV 0) (zAa (eC (.int 200)) (zAa (eC (.int 4)) eNil))))) eNil)) (s := zAo 0) (t := eT) (ge := zAh zB9 (zAa (eV 1) (zAa (eOp zAz (eC (.int 30)) (eV 0)) (zAa (eC (.int 4)) eNil)))) (inner := [none, some 0]) (ρ := [.dat (scr ns), .no, .no, .no, .no, .no, .no, .no, .no]) (xs := List.range n) (out := fs.map fD) (fun (k : Nat) => .int (k : Int)) (fun _ => true) (fun (k : Nat) => fD (F k)) (fun ρ => ∃ s0, ρ = [s0, .dat (scr ns)]) (zEk (n := n) (by simp only [id dn, zAk, if_true, if_false, reduceIte, Nat.reduceAdd, Nat.reduceSub, Nat.reduceLeDiff, ed, hN]) (by omega)) (by rw [List.length_range]; omega) ⟨.no, rfl⟩ (by
  rintro k _ ρ ⟨s0, rfl⟩
  refine ⟨[.dat (.int (k : Int)), .dat (scr ns)], rfl, ⟨_, rfl⟩, rfl, fun _ => ?_⟩
  have m := zBG (i := 30) (j := (k : Int)) (okS (by decide) (by decide))
  simp only [id dn, zAk, if_true, if_false, reduceIte, Nat.reduceAdd, Nat.reduceSub, Nat.reduceLeDiff, m, (hF k).1]) (by rw [zCl, hfs, List.map_map]; rfl)
 refine zAD (zBo lc) ?_
 rw [show [Sl.dat (scr ns), Sl.no, Sl.no, Sl.no, Sl.no, Sl.no, Sl.no, Sl.no, Sl.no].set 1 (.dat (.list (fs.map fD))) = [.dat (scr ns), .dat (.list (fs.map fD)), .no, .no, .no, .no, .no, .no, .no] from rfl]
 have tw := zIg (fs := fs) (G := zBz) (fun f hf => zII (Nat.le_trans (o f hf).w4 (by decide)) (Nat.le_trans (o f hf).h4 (by decide))) hl (gi := iSeq (eV 1)) (inner := [none]) (ρ := [.dat (scr ns), .dat (.list (fs.map fD)), .no, .no, .no, .no, .no, .no, .no]) (zCb rfl rfl) rfl
 refine zAD (zBo (d := .str (bk fs)) (by rw [zBn, ap_C, O_bs, tw, O_bs]; exact dj2)) ?_
 rw [show [Sl.dat (scr ns), .dat (.list (fs.map fD)), Sl.no, Sl.no, Sl.no, Sl.no, Sl.no, Sl.no, Sl.no].set 2 (.dat (.str (bk fs))) = fr ns fs .no .no .no .no .no .no from rfl]
 have bt : zDl [.list (fs.map fD)] = some (.str (bk fs)) := by
  refine zBN (zBl ?_)
  rw [show List.map frz (zAF 1 [.list (fs.map fD)]) = [.dat (.list (fs.map fD))] from rfl]
  have tb := zIg (fs := fs) (G := zBE) (fun f hf => zI9 (Nat.le_trans (o f hf).w4 (by decide)) (Nat.le_trans (o f hf).h4 (by decide))) hl (gi := iSeq (eV 0)) (inner := [none]) (ρ := [.dat (.list (fs.map fD))]) (zCb rfl rfl) rfl
  rw [zBn, ap_C, O_bs, tb, O_bs]
  exact dj2
 have tt := zEa oT
 rw [if_pos (zED o ne).1, (zED o ne).2] at tt
 have n1' := zHd oT.ok
 have n2' := ne_Fs fs
 refine zAD (zCZ (by unfold fr; simp only [id dn, zAk, if_true, if_false, reduceIte, Nat.reduceAdd, Nat.reduceSub, Nat.reduceLeDiff, bt, tt, n1', n2'])) ?_
 refine zJ6 (fun (k : Nat) => .int (k : Int)) (fun ρ => ∃ s3 s4 s5 s6 s7, ρ = fr ns fs s3 s4 s5 s6 s7 .no) (List.range 6) rfl ⟨_, _, _, _, _, rfl⟩ ?_ ?_
 ·rintro k _ ρ ⟨s3, s4, s5, s6, s7, rfl⟩
  exact ⟨fr ns fs (.dat (.int (k : Int))) s4 s5 s6 s7 .no, rfl, turn hn o ne hl (k : Int) s4 s5 s6 s7⟩
 rintro ρ ⟨s3, s4, s5, s6, s7, rfl⟩
 have p1 := zC7 (x := bk fs) (y := "\n") (by omega) (by decide)
 have p2 := zC7 (x := bk fs) (y := "\n\n") (by omega) (by decide)
 have p3 := zC7 (x := "\n\n") (y := bk fs) (by decide) (by omega)
 refine zAD (zBo (d := .list [.str "", .str "\n", .str "\n\n", .str (bk fs ++ "\n"), .str (bk fs ++ "\n\n"), .str ("\n\n" ++ bk fs), .str "#.\n#"]) (by unfold fr; simp only [id dn, zAk, if_true, if_false, reduceIte, Nat.reduceAdd, Nat.reduceSub, Nat.reduceLeDiff, p1, p2, p3])) ?_
 rw [show (fr ns fs s3 s4 s5 s6 s7 .no).set 8 (.dat (.list [.str "", .str "\n", .str "\n\n", .str (bk fs ++ "\n"), .str (bk fs ++ "\n\n"), .str ("\n\n" ++ bk fs), .str "#.\n#"])) = fr ns fs s3 s4 s5 s6 s7 (.dat (.list [.str "", .str "\n", .str "\n\n", .str (bk fs ++ "\n"), .str (bk fs ++ "\n\n"), .str ("\n\n" ++ bk fs), .str "#.\n#"])) from rfl]
 refine zAD (zBo (d := .list [.str "", .str "\n", .str "\n\n", .str (bk fs ++ "\n"), .str (bk fs ++ "\n\n"), .str ("\n\n" ++ bk fs), .str "#.\n#", .str "#\n\n\n.", .str (repS "." 13), .str (repS ".\n" 12 ++ ".")]) rfl) ?_
 rw [show (fr ns fs s3 s4 s5 s6 s7 (.dat (.list [.str "", .str "\n", .str "\n\n", .str (bk fs ++ "\n"), .str (bk fs ++ "\n\n"), .str ("\n\n" ++ bk fs), .str "#.\n#"]))).set 8 (.dat (.list [.str "", .str "\n", .str "\n\n", .str (bk fs ++ "\n"), .str (bk fs ++ "\n\n"), .str ("\n\n" ++ bk fs), .str "#.\n#", .str "#\n\n\n.", .str (repS "." 13), .str (repS ".\n" 12 ++ ".")])) = fr ns fs s3 s4 s5 s6 s7 (.dat (.list [.str "", .str "\n", .str "\n\n", .str (bk fs ++ "\n"), .str (bk fs ++ "\n\n"), .str ("\n\n" ++ bk fs), .str "#.\n#", .str "#\n\n\n.", .str (repS "." 13), .str (repS ".\n" 12 ++ ".")])) from rfl]
 have o1 := zHV o ne hl (S := "\n") (by decide) sm_n ⟨[], tl_n⟩
 have o2 := zHV o ne hl (S := "\n\n") (by decide) sm_nn ⟨[10], zBF⟩
 have o3 := zMc o ne hl
 refine zAD (zCZ ?_) (zBl ?_)
 ·have ln := zLW (ds := [.str "", .str "\n", .str "\n\n", .str (bk fs ++ "\n"), .str (bk fs ++ "\n\n"), .str ("\n\n" ++ bk fs), .str "#.\n#", .str "#\n\n\n.", .str (repS "." 13), .str (repS ".\n" 12 ++ ".")]) (gi := eV 8) (ρ := (fr ns fs s3 s4 s5 s6 s7 (.dat (.list [.str "", .str "\n", .str "\n\n", .str (bk fs ++ "\n"), .str (bk fs ++ "\n\n"), .str ("\n\n" ++ bk fs), .str "#.\n#", .str "#\n\n\n.", .str (repS "." 13), .str (repS ".\n" 12 ++ ".")]))).map frz) rfl (Nat.le_of_ble_eq_true rfl) (by
   intro d hd
   rcases List.mem_cons.mp hd with rfl | hd
   ·exact d1
   rcases List.mem_cons.mp hd with rfl | hd
   ·exact d2
   rcases List.mem_cons.mp hd with rfl | hd
   ·exact d3
   rcases List.mem_cons.mp hd with rfl | hd
   ·exact o1
   rcases List.mem_cons.mp hd with rfl | hd
   ·exact o2
   rcases List.mem_cons.mp hd with rfl | hd
   ·exact o3
   rcases List.mem_cons.mp hd with rfl | hd
   ·exact d4
   rcases List.mem_cons.mp hd with rfl | hd
   ·exact d5
   rcases List.mem_cons.mp hd with rfl | hd
   ·exact d6
   rw [List.mem_singleton.mp hd]
   exact d7)
  rw [ap_B, zBn, ln, O_bs]
  rfl
 ·rw [zBn, zDi rfl d8, O_bs]
  rfl
end My
namespace My
open PySem PySem.Spec PySem.SeqAt PyProof.Rows L2 CL DL SD ZL SL EL DC EX TX TB
theorem us1 {p : List Value -> Prop} {us : List Value} (h : us.length = 1) (q : ∀ a, p [a]) : p us := by
 rcases us with _ | ⟨a, _ | ⟨b, r⟩⟩
 ·cases h
 ·exact q a
 ·simp at h
theorem us2 {p : List Value -> Prop} {us : List Value} (h : us.length = 2) (q : ∀ a b, p [a, b]) : p us := by
 rcases us with _ | ⟨a, r⟩
 ·cases h
 ·exact us1 (p := fun r => p (a :: r)) (us := r) (by simpa using h) fun b => q a b
theorem us3 {p : List Value -> Prop} {us : List Value} (h : us.length = 3) (q : ∀ a b c, p [a, b, c]) : p us := by
 rcases us with _ | ⟨a, r⟩
 ·cases h
 ·exact us2 (p := fun r => p (a :: r)) (us := r) (by simpa using h) fun b c => q a b c
theorem us4 {p : List Value -> Prop} {us : List Value} (h : us.length = 4) (q : ∀ a b c d, p [a, b, c, d]) : p us := by
 rcases us with _ | ⟨a, r⟩
 ·cases h
 ·exact us3 (p := fun r => p (a :: r)) (us := r) (by simpa using h) fun b c d => q a b c d
theorem all_mk (main : ∀ ns : List Int, ns.length <= 63 -> Glaw [.list (ns.map PyData.int)] = some (.bool true)) {l : PySem.W.OpenLaw} {w : World} {K : PySem.W.Frag} {h : Heap} {mg : Str -> Option Value} {fa : Addr} {f0 : Addr} {od0 an0 : Option Addr} {sl0 : Array (Option Value)} {oc0 kV0 dc0 pm0 cd0 ct0 : Value} {f1 : Addr} {od1 an1 : Option Addr} {sl1 : Array (Option Value)} {oc1 kV1 dc1 pm1 cd1 ct1 : Value} {f2 : Addr} {od2 an2 : Option Addr} {sl2 : Array (Option Value)} {oc2 kV2 dc2 pm2 cd2 ct2 : Value} {f3 : Addr} {od3 an3 : Option Addr} {sl3 : Array (Option Value)} {oc3 kV3 dc3 pm3 cd3 ct3 : Value} {f4 : Addr} {od4 an4 : Option Addr} {sl4 : Array (Option Value)} {oc4 kV4 dc4 pm4 cd4 ct4 : Value} {f5 : Addr} {od5 an5 : Option Addr} {sl5 : Array (Option Value)} {oc5 kV5 dc5 pm5 cd5 ct5 : Value} {f6 : Addr} {od6 an6 : Option Addr} {sl6 : Array (Option Value)} {oc6 kV6 dc6 pm6 cd6 ct6 : Value} {f7 : Addr} {od7 an7 : Option Addr} {sl7 : Array (Option Value)} {oc7 kV7 dc7 pm7 cd7 ct7 : Value} {f8 : Addr} {od8 an8 : Option Addr} {sl8 : Array (Option Value)} {oc8 kV8 dc8 pm8 cd8 ct8 : Value} {f9 : Addr} {od9 an9 : Option Addr} {sl9 : Array (Option Value)} {oc9 kV9 dc9 pm9 cd9 ct9 : Value} {f10 : Addr} {od10 an10 : Option Addr} {sl10 : Array (Option Value)} {oc10 kV10 dc10 pm10 cd10 ct10 : Value} {f11 : Addr} {od11 an11 : Option Addr} {sl11 : Array (Option Value)} {oc11 kV11 dc11 pm11 cd11 ct11 : Value} {f12 : Addr} {od12 an12 : Option Addr} {sl12 : Array (Option Value)} {oc12 kV12 dc12 pm12 cd12 ct12 : Value} {f13 : Addr} {od13 an13 : Option Addr} {sl13 : Array (Option Value)} {oc13 kV13 dc13 pm13 cd13 ct13 : Value} {f14 : Addr} {od14 an14 : Option Addr} {sl14 : Array (Option Value)} {oc14 kV14 dc14 pm14 cd14 ct14 : Value} {f15 : Addr} {od15 an15 : Option Addr} {sl15 : Array (Option Value)} {oc15 kV15 dc15 pm15 cd15 ct15 : Value} {f16 : Addr} {od16 an16 : Option Addr} {sl16 : Array (Option Value)} {oc16 kV16 dc16 pm16 cd16 ct16 : Value} {f17 : Addr} {od17 an17 : Option Addr} {sl17 : Array (Option Value)} {oc17 kV17 dc17 pm17 cd17 ct17 : Value} {f18 : Addr} {od18 an18 : Option Addr} {sl18 : Array (Option Value)} {oc18 kV18 dc18 pm18 cd18 ct18 : Value} {t0 : Tok} {t1 : Tok} {y_LampError : Addr} {y_NoText : Addr} (X : K.In h) (G : h.Ns mainGlobals mg) (hfa : mg "law" = some (.ref fa))
  (a0 : PySem.W.nsIn K mainGlobals "is_whole" = some (some (.ref f0)))
  (l0 : K.lookup f0 = some ⟨oc0, od0, .func (PySem.W.fnOf "is_whole" "is_whole" (zAB s_qc) (zAv s_qc) (zAf s_qc) .none kV0 dc0 pm0 an0 cd0 ct0), sl0⟩)
  (c0 : PySem.W.codeIn K cd0 "is_whole" = true)
  (k0 : PySem.W.keepIn K (.ref f0) = true)
  (a1 : PySem.W.nsIn K mainGlobals "marked" = some (some (.ref f1)))
  (l1 : K.lookup f1 = some ⟨oc1, od1, .func (PySem.W.fnOf "marked" "marked" (zAB s_qg) (zAv s_qg) (zAf s_qg) .none kV1 dc1 pm1 an1 cd1 ct1), sl1⟩)
  (c1 : PySem.W.codeIn K cd1 "marked" = true)
  (k1 : PySem.W.keepIn K (.ref f1) = true)
  (a2 : PySem.W.nsIn K mainGlobals "walls_in" = some (some (.ref f2)))
  (l2 : K.lookup f2 = some ⟨oc2, od2, .func (PySem.W.fnOf "walls_in" "walls_in" (zAB s_qb) (zAv s_qb) (zAf s_qb) .none kV2 dc2 pm2 an2 cd2 ct2), sl2⟩)
  (c2 : PySem.W.codeIn K cd2 "walls_in" = true)
  (k2 : PySem.W.keepIn K (.ref f2) = true)
  (a3 : PySem.W.nsIn K mainGlobals "_law_cell" = some (some (.ref f3)))
  (l3 : K.lookup f3 = some ⟨oc3, od3, .func (PySem.W.fnOf "_law_cell" "_law_cell" (zAB s_q5) (zAv s_q5) (zAf s_q5) .none kV3 dc3 pm3 an3 cd3 ct3), sl3⟩)
  (c3 : PySem.W.codeIn K cd3 "_law_cell" = true)
  (k3 : PySem.W.keepIn K (.ref f3) = true)
  (a4 : PySem.W.nsIn K mainGlobals "_law_written" = some (some (.ref f4)))
  (l4 : K.lookup f4 = some ⟨oc4, od4, .func (PySem.W.fnOf "_law_written" "_law_written" (zAB s_q1) (zAv s_q1) (zAf s_q1) .none kV4 dc4 pm4 an4 cd4 ct4), sl4⟩)
  (c4 : PySem.W.codeIn K cd4 "_law_written" = true)
  (k4 : PySem.W.keepIn K (.ref f4) = true)
  (a5 : PySem.W.nsIn K mainGlobals "_law_refused" = some (some (.ref f5)))
  (l5 : K.lookup f5 = some ⟨oc5, od5, .func (PySem.W.fnOf "_law_refused" "_law_refused" (zAB s_q2) (zAv s_q2) (zAf s_q2) .none kV5 dc5 pm5 an5 cd5 ct5), sl5⟩)
  (c5 : PySem.W.codeIn K cd5 "_law_refused" = true)
  (k5 : PySem.W.keepIn K (.ref f5) = true)
  (a6 : PySem.W.nsIn K mainGlobals "is_side" = some (some (.ref f6)))
  (l6 : K.lookup f6 = some ⟨oc6, od6, .func (PySem.W.fnOf "is_side" "is_side" (zAB s_qe) (zAv s_qe) (zAf s_qe) .none kV6 dc6 pm6 an6 cd6 ct6), sl6⟩)
  (c6 : PySem.W.codeIn K cd6 "is_side" = true)
  (k6 : PySem.W.keepIn K (.ref f6) = true)
  (a7 : PySem.W.nsIn K mainGlobals "is_whole_couple" = some (some (.ref f7)))
  (l7 : K.lookup f7 = some ⟨oc7, od7, .func (PySem.W.fnOf "is_whole_couple" "is_whole_couple" (zAB s_q0) (zAv s_q0) (zAf s_q0) .none kV7 dc7 pm7 an7 cd7 ct7), sl7⟩)
  (c7 : PySem.W.codeIn K cd7 "is_whole_couple" = true)
  (k7 : PySem.W.keepIn K (.ref f7) = true)
  (a8 : PySem.W.nsIn K mainGlobals "written" = some (some (.ref f8)))
  (l8 : K.lookup f8 = some ⟨oc8, od8, .func (PySem.W.fnOf "written" "written" (zAB s_qf) (zAv s_qf) (zAf s_qf) .none kV8 dc8 pm8 an8 cd8 ct8), sl8⟩)
  (c8 : PySem.W.codeIn K cd8 "written" = true)
  (k8 : PySem.W.keepIn K (.ref f8) = true)
  (a9 : PySem.W.nsIn K mainGlobals "_law_drawn" = some (some (.ref f9)))
  (l9 : K.lookup f9 = some ⟨oc9, od9, .func (PySem.W.fnOf "_law_drawn" "_law_drawn" (zAB s_q4) (zAv s_q4) (zAf s_q4) .none kV9 dc9 pm9 an9 cd9 ct9), sl9⟩)
  (c9 : PySem.W.codeIn K cd9 "_law_drawn" = true)
  (k9 : PySem.W.keepIn K (.ref f9) = true)
  (a10 : PySem.W.nsIn K mainGlobals "is_cell" = some (some (.ref f10)))
  (l10 : K.lookup f10 = some ⟨oc10, od10, .func (PySem.W.fnOf "is_cell" "is_cell" (zAB s_qd) (zAv s_qd) (zAf s_qd) .none kV10 dc10 pm10 an10 cd10 ct10), sl10⟩)
  (c10 : PySem.W.codeIn K cd10 "is_cell" = true)
  (k10 : PySem.W.keepIn K (.ref f10) = true)
  (a11 : PySem.W.nsIn K mainGlobals "book_text" = some (some (.ref f11)))
  (l11 : K.lookup f11 = some ⟨oc11, od11, .func (PySem.W.fnOf "book_text" "book_text" (zAB s_q6) (zAv s_q6) (zAf s_q6) .none kV11 dc11 pm11 an11 cd11 ct11), sl11⟩)
  (c11 : PySem.W.codeIn K cd11 "book_text" = true)
  (k11 : PySem.W.keepIn K (.ref f11) = true)
  (a12 : PySem.W.nsIn K mainGlobals "_law_floor" = some (some (.ref f12)))
  (l12 : K.lookup f12 = some ⟨oc12, od12, .func (PySem.W.fnOf "_law_floor" "_law_floor" (zAB s_q3) (zAv s_q3) (zAf s_q3) .none kV12 dc12 pm12 an12 cd12 ct12), sl12⟩)
  (c12 : PySem.W.codeIn K cd12 "_law_floor" = true)
  (k12 : PySem.W.keepIn K (.ref f12) = true)
  (a13 : PySem.W.nsIn K mainGlobals "are_walls" = some (some (.ref f13)))
  (l13 : K.lookup f13 = some ⟨oc13, od13, .func (PySem.W.fnOf "are_walls" "are_walls" (zAB s_q8) (zAv s_q8) (zAf s_q8) .none kV13 dc13 pm13 an13 cd13 ct13), sl13⟩)
  (c13 : PySem.W.codeIn K cd13 "are_walls" = true)
  (k13 : PySem.W.keepIn K (.ref f13) = true)
  (a14 : PySem.W.nsIn K mainGlobals "is_floor" = some (some (.ref f14)))
  (l14 : K.lookup f14 = some ⟨oc14, od14, .func (PySem.W.fnOf "is_floor" "is_floor" (zAB s_qa) (zAv s_qa) (zAf s_qa) .none kV14 dc14 pm14 an14 cd14 ct14), sl14⟩)
  (c14 : PySem.W.codeIn K cd14 "is_floor" = true)
  (k14 : PySem.W.keepIn K (.ref f14) = true)
  (a15 : PySem.W.nsIn K mainGlobals "read" = some (some (.ref f15)))
  (l15 : K.lookup f15 = some ⟨oc15, od15, .func (PySem.W.fnOf "read" "read" (zAB s_qh) (zAv s_qh) (zAf s_qh) .none kV15 dc15 pm15 an15 cd15 ct15), sl15⟩)
  (c15 : PySem.W.codeIn K cd15 "read" = true)
  (k15 : PySem.W.keepIn K (.ref f15) = true)
  (a16 : PySem.W.nsIn K mainGlobals "read_book" = some (some (.ref f16)))
  (l16 : K.lookup f16 = some ⟨oc16, od16, .func (PySem.W.fnOf "read_book" "read_book" (zAB s_q7) (zAv s_q7) (zAf s_q7) .none kV16 dc16 pm16 an16 cd16 ct16), sl16⟩)
  (c16 : PySem.W.codeIn K cd16 "read_book" = true)
  (k16 : PySem.W.keepIn K (.ref f16) = true)
  (a17 : PySem.W.nsIn K mainGlobals "_law_told" = some (some (.ref f17)))
  (l17 : K.lookup f17 = some ⟨oc17, od17, .func (PySem.W.fnOf "_law_told" "_law_told" (zAB s_q9) (zAv s_q9) (zAf s_q9) .none kV17 dc17 pm17 an17 cd17 ct17), sl17⟩)
  (c17 : PySem.W.codeIn K cd17 "_law_told" = true)
  (k17 : PySem.W.keepIn K (.ref f17) = true)
  (a18 : PySem.W.nsIn K mainGlobals "law" = some (some (.ref f18)))
  (l18 : K.lookup f18 = some ⟨oc18, od18, .func (PySem.W.fnOf "law" "law" (zAB s_qi) (zAv s_qi) (zAf s_qi) .none kV18 dc18 pm18 an18 cd18 ct18), sl18⟩)
  (c18 : PySem.W.codeIn K cd18 "law" = true)
  (k18 : PySem.W.keepIn K (.ref f18) = true)
  (z0 : PySem.W.nsIn K mainGlobals "isinstance" = some none)
  (z1 : PySem.W.nsIn K mainGlobals "int" = some none)
  (z2 : PySem.W.nsIn K mainGlobals "bool" = some none)
  (z3 : PySem.W.nsIn K mainGlobals "dict" = some none)
  (z4 : PySem.W.nsIn K mainGlobals "enumerate" = some none)
  (z5 : PySem.W.nsIn K mainGlobals "sorted" = some none)
  (z6 : PySem.W.nsIn K mainGlobals "tuple" = some none)
  (z7 : PySem.W.nsIn K mainGlobals "len" = some none)
  (z8 : PySem.W.nsIn K mainGlobals "range" = some none)
  (z9 : PySem.W.nsIn K mainGlobals "ValueError" = some none)
  (z10 : PySem.W.nsIn K mainGlobals "all" = some none)
  (z11 : PySem.W.nsIn K mainGlobals "list" = some none)
  (z12 : PySem.W.nsIn K mainGlobals "set" = some none)
  (q0 : PySem.W.nsIn K mainGlobals "LONGEST_SIDE" = some (some (.int 12 t0)))
  (q1 : PySem.W.nsIn K mainGlobals "BETWEEN" = some (some (.str "\n\n" t1)))
  (ye_NoText : PySem.W.excIn K y_NoText [.type "ValueError", .type "Exception", .type "BaseException", .type "object"] "ValueError.__new__" = true)
  (yn_NoText : PySem.W.nsIn K mainGlobals "NoText" = some (some (.ref y_NoText)))
  (yk0_NoText : PySem.W.findIn K (.ref y_NoText) "__getattribute__" = some (some (.builtin "BaseException.__getattribute__")))
  (yk1_NoText : PySem.W.findIn K (.ref y_NoText) "__getattr__" = some none)
  (yk2_NoText : PySem.W.findIn K (.ref y_NoText) "__class__" = some (some (.builtin "object.__class__")))
  (yk3_NoText : PySem.W.subIn K (.ref y_NoText) (.type "BaseException") = some true)
  (yk4_NoText : PySem.W.subIn K (.ref y_NoText) (.type (".".intercalate ("object.__class__".cutAt '.').dropLast)) = some true)
  (yi_NoText_NoText : PySem.W.kitOne K (.ref y_NoText) (.ref y_NoText) = some true)
  (yi_NoText_ValueError : PySem.W.kitOne K (.ref y_NoText) (.type "ValueError") = some true)
  (ye_LampError : PySem.W.excIn K y_LampError [.type "ValueError", .type "Exception", .type "BaseException", .type "object"] "ValueError.__new__" = true)
  (yt_NoText_LampError : PySem.W.subIn K (.ref y_NoText) (.ref y_LampError) = some true)
  (yn_LampError : PySem.W.nsIn K mainGlobals "LampError" = some (some (.ref y_LampError)))
  (yb_LampError : PySem.W.subIn K (.ref y_LampError) (.type "BaseException") = some true) :
  ∃ fd : FuncData, (∀ (s : Shared) (v : Value), BindsTo s fd ⟨[v], []⟩ [("_law_script", v)]) /\ ∀ base : Heap, K.In base -> base.Ns mainGlobals mg -> FnOk l.prog w K mg base CX0 9 fa fd ["_law_script"] (zEi K Glaw) := by
 have e := (PySem.W.mg_of X G a18).symm.trans hfa
 cases e
 have F0 := zAL (st := s_qc) l0 c0 k0
 have F1 := zAL (st := s_qg) l1 c1 k1
 have F2 := zAL (st := s_qb) l2 c2 k2
 have F3 := zAL (st := s_q5) l3 c3 k3
 have F4 := zAL (st := s_q1) l4 c4 k4
 have F5 := zAL (st := s_q2) l5 c5 k5
 have F6 := zAL (st := s_qe) l6 c6 k6
 have F7 := zAL (st := s_q0) l7 c7 k7
 have F8 := zAL (st := s_qf) l8 c8 k8
 have F9 := zAL (st := s_q4) l9 c9 k9
 have F10 := zAL (st := s_qd) l10 c10 k10
 have F11 := zAL (st := s_q6) l11 c11 k11
 have F12 := zAL (st := s_q3) l12 c12 k12
 have F13 := zAL (st := s_q8) l13 c13 k13
 have F14 := zAL (st := s_qa) l14 c14 k14
 have F15 := zAL (st := s_qh) l15 c15 k15
 have F16 := zAL (st := s_q7) l16 c16 k16
 have F17 := zAL (st := s_q9) l17 c17 k17
 have F18 := zAL (st := s_qi) l18 c18 k18
 have T : Txt K mg f0 _ f1 _ f2 _ f3 _ f4 _ f5 _ f6 _ f7 _ f8 _ f9 _ f10 _ f11 _ f12 _ f13 _ f14 _ f15 _ f16 _ f17 _ fa _ y_LampError y_NoText := ⟨(F0), (PySem.W.mg_of X G a0), (F0.binds (ps := ["thing"]) fun _ _ _ _ _ _ us hl => us1 (p := fun us => bindArgs _ ⟨us, []⟩ = pure (List.zip _ us)) hl fun _ => rfl), (F1), (PySem.W.mg_of X G a1), (F1.binds (ps := ["things"]) fun _ _ _ _ _ _ us hl => us1 (p := fun us => bindArgs _ ⟨us, []⟩ = pure (List.zip _ us)) hl fun _ => rfl), (F2), (PySem.W.mg_of X G a2), (F2.binds (ps := ["rows"]) fun _ _ _ _ _ _ us hl => us1 (p := fun us => bindArgs _ ⟨us, []⟩ = pure (List.zip _ us)) hl fun _ => rfl), (F3), (PySem.W.mg_of X G a3), (F3.binds (ps := ["_law_script", "_law_k"]) fun _ _ _ _ _ _ us hl => us2 (p := fun us => bindArgs _ ⟨us, []⟩ = pure (List.zip _ us)) hl fun _ _ => rfl), (F4), (PySem.W.mg_of X G a4), (F4.binds (ps := ["_law_floor_here"]) fun _ _ _ _ _ _ us hl => us1 (p := fun us => bindArgs _ ⟨us, []⟩ = pure (List.zip _ us)) hl fun _ => rfl), (F5), (PySem.W.mg_of X G a5), (F5.binds (ps := ["_law_e"]) fun _ _ _ _ _ _ us hl => us1 (p := fun us => bindArgs _ ⟨us, []⟩ = pure (List.zip _ us)) hl fun _ => rfl), (F6), (PySem.W.mg_of X G a6), (F6.binds (ps := ["thing"]) fun _ _ _ _ _ _ us hl => us1 (p := fun us => bindArgs _ ⟨us, []⟩ = pure (List.zip _ us)) hl fun _ => rfl), (F7), (PySem.W.mg_of X G a7), (F7.binds (ps := ["thing"]) fun _ _ _ _ _ _ us hl => us1 (p := fun us => bindArgs _ ⟨us, []⟩ = pure (List.zip _ us)) hl fun _ => rfl), (F8), (PySem.W.mg_of X G a8), (F8.binds (ps := ["floor"]) fun _ _ _ _ _ _ us hl => us1 (p := fun us => bindArgs _ ⟨us, []⟩ = pure (List.zip _ us)) hl fun _ => rfl), (F9), (PySem.W.mg_of X G a9), (F9.binds (ps := ["_law_script", "_law_k", "_law_many"]) fun _ _ _ _ _ _ us hl => us3 (p := fun us => bindArgs _ ⟨us, []⟩ = pure (List.zip _ us)) hl fun _ _ _ => rfl), (F10), (PySem.W.mg_of X G a10), (F10.binds (ps := ["floor", "thing"]) fun _ _ _ _ _ _ us hl => us2 (p := fun us => bindArgs _ ⟨us, []⟩ = pure (List.zip _ us)) hl fun _ _ => rfl), (F11), (PySem.W.mg_of X G a11), (F11.binds (ps := ["floors"]) fun _ _ _ _ _ _ us hl => us1 (p := fun us => bindArgs _ ⟨us, []⟩ = pure (List.zip _ us)) hl fun _ => rfl), (F12), (PySem.W.mg_of X G a12), (F12.binds (ps := ["_law_script", "_law_at", "_law_most"]) fun _ _ _ _ _ _ us hl => us3 (p := fun us => bindArgs _ ⟨us, []⟩ = pure (List.zip _ us)) hl fun _ _ _ => rfl), (F13), (PySem.W.mg_of X G a13), (F13.binds (ps := ["floor", "thing"]) fun _ _ _ _ _ _ us hl => us2 (p := fun us => bindArgs _ ⟨us, []⟩ = pure (List.zip _ us)) hl fun _ _ => rfl), (F14), (PySem.W.mg_of X G a14), (F14.binds (ps := ["thing"]) fun _ _ _ _ _ _ us hl => us1 (p := fun us => bindArgs _ ⟨us, []⟩ = pure (List.zip _ us)) hl fun _ => rfl), (F15), (PySem.W.mg_of X G a15), (F15.binds (ps := ["text"]) fun _ _ _ _ _ _ us hl => us1 (p := fun us => bindArgs _ ⟨us, []⟩ = pure (List.zip _ us)) hl fun _ => rfl), (F16), (PySem.W.mg_of X G a16), (F16.binds (ps := ["text"]) fun _ _ _ _ _ _ us hl => us1 (p := fun us => bindArgs _ ⟨us, []⟩ = pure (List.zip _ us)) hl fun _ => rfl), (F17), (PySem.W.mg_of X G a17), (F17.binds (ps := ["_law_text"]) fun _ _ _ _ _ _ us hl => us1 (p := fun us => bindArgs _ ⟨us, []⟩ = pure (List.zip _ us)) hl fun _ => rfl), (F18), (PySem.W.mg_of X G a18), (F18.binds (ps := ["_law_script"]) fun _ _ _ _ _ _ us hl => us1 (p := fun us => bindArgs _ ⟨us, []⟩ = pure (List.zip _ us)) hl fun _ => rfl), (PySem.W.mg_none_of X G z0), (PySem.W.mg_none_of X G z1), (PySem.W.mg_none_of X G z2), (PySem.W.mg_none_of X G z3), (PySem.W.mg_none_of X G z4), (PySem.W.mg_none_of X G z5), (PySem.W.mg_none_of X G z6), (PySem.W.mg_none_of X G z7), (PySem.W.mg_none_of X G z8), (PySem.W.mg_none_of X G z9), (PySem.W.mg_none_of X G z10), (PySem.W.mg_none_of X G z11), (PySem.W.mg_none_of X G z12), (⟨_, PySem.W.mg_of X G q0⟩), (⟨_, PySem.W.mg_of X G q1⟩), (ye_NoText), (yn_NoText), (⟨yk0_NoText, yk1_NoText, yk2_NoText, yk3_NoText, yk4_NoText, (zIz ye_NoText).1⟩), (yi_NoText_NoText), (PySem.W.mg_of X G yn_NoText), (yi_NoText_ValueError), (ye_LampError), (yt_NoText_LampError), (yn_LampError), (PySem.W.mg_of X G yn_LampError), (yb_LampError)⟩
 refine ⟨PySem.W.fnOf "law" "law" (zAB s_qi) (zAv s_qi) (zAf s_qi) .none kV18 dc18 pm18 an18 cd18 ct18, fun s v => .of_eq rfl, fun base _ _ => ?_⟩
 have G_qc := ok_qc (P := l.prog) (w := w) (base := base) T
 have G_qg := ok_qg (P := l.prog) (w := w) (base := base) T
 have G_qb := ok_qb (P := l.prog) (w := w) (base := base) T
 have G_q5 := ok_q5 (P := l.prog) (w := w) (base := base) T
 have G_q1 := ok_q1 (P := l.prog) (w := w) (base := base) T
 have H__law_refused := zNu (P := l.prog) (w := w) (base := base) T
 have G_qe := ok_qe (P := l.prog) (w := w) (base := base) T G_qc
 have G_q0 := ok_q0 (P := l.prog) (w := w) (base := base) T G_qc
 have G_qf := ok_qf (P := l.prog) (w := w) (base := base) T G_qg
 have G_q4 := ok_q4 (P := l.prog) (w := w) (base := base) T G_q5
 have G_qd := ok_qd (P := l.prog) (w := w) (base := base) T G_q0
 have G_q6 := ok_q6 (P := l.prog) (w := w) (base := base) T G_qf
 have G_q3 := ok_q3 (P := l.prog) (w := w) (base := base) T G_q4
 have G_q8 := ok_q8 (P := l.prog) (w := w) (base := base) T G_qd
 have G_qa := ok_qa (P := l.prog) (w := w) (base := base) T G_qe G_q8
 have GX_read := zMT (P := l.prog) (w := w) (base := base) T G_qb G_qa G_qf
 have G_qh := zHr (G' := zGo) rfl GX_read
 have GX_read_book := zL1 (P := l.prog) (w := w) (base := base) T G_qh GX_read
 have G_q7 := zHr (G' := zIj) rfl GX_read_book
 have G_q9 := ok_q9 (P := l.prog) (w := w) (base := base) T G_q7 H__law_refused GX_read_book
 have G_qi := ok_qi (P := l.prog) (w := w) (base := base) T G_q3 G_q4 G_q9 G_q1 G_q6
 exact law_D G_qi main
theorem walk {l : PySem.W.OpenLaw} {q : Program} {loose : List Str} {XP : (Str -> Option Value) -> Heap -> Prop} {YP : World -> Heap -> Prop} {d : DefRec} {K : Params -> PySem.W.Frag} (hn : l.most = some 63) (hdf : d.params.defaults = [])
  (hY : ∀ (w : World) (h : Heap), YP w h -> (K w.params).In h)
  (F : ∀ (w : World) (mg : Str -> Option Value) (fa : Addr) (h : Heap), (K w.params).In h -> h.Ns mainGlobals mg -> mg d.name = some (.ref fa) ->
   ∃ fd : FuncData, (∀ (s : Shared) (u : Value), BindsTo s fd ⟨[u], []⟩ [("_law_script", u)]) /\ ∀ base : Heap, (K w.params).In base -> base.Ns mainGlobals mg -> FnOk l.prog w (K w.params) mg base CX0 9 fa fd ["_law_script"] (zEi (K w.params) Glaw)) :
  PySem.W.WalkO q loose XP YP l.row.toRowW d [] (fun f vs => PySem.call f vs) :=
 L2.walk_of (n := 63) (k := 9) (x := "_law_script") (CX := fun _ => CX0) (sp := fun w => zEi (K w.params) Glaw) hn (by decide) hdf ⟨rfl, by decide, by decide, rfl⟩ hY F (fun _ _ a ns hl _ hS => ⟨a, ns, rfl, hS, hl, fun _ => rfl⟩) fun _ _ _ _ _ z => z
end My
open PySem PySem.W PyProof.Rows
set_option maxRecDepth 100000 in
set_option maxHeartbeats 0 in
theorem PySem.Challenge.cw_lampfloor_k91_books_holds : PySem.Challenge.rw_lampfloor_k91_books.Holds := by
 w_on; o_law; k_head; (case hw => w_witness2)
 k_fill
 refine My.walk (l := PySem.Challenge.rw_lampfloor_k91_books) rfl rfl (fun w h Y => PySem.W.kIn_of Y) ?F
 case F =>
  intro w mg fa h KX G hmg
  refine' My.all_mk My.main KX G hmg ?a0 ?l0 ?c0 ?k0 ?a1 ?l1 ?c1 ?k1 ?a2 ?l2 ?c2 ?k2 ?a3 ?l3 ?c3 ?k3 ?a4 ?l4 ?c4 ?k4 ?a5 ?l5 ?c5 ?k5 ?a6 ?l6 ?c6 ?k6 ?a7 ?l7 ?c7 ?k7 ?a8 ?l8 ?c8 ?k8 ?a9 ?l9 ?c9 ?k9 ?a10 ?l10 ?c10 ?k10 ?a11 ?l11 ?c11 ?k11 ?a12 ?l12 ?c12 ?k12 ?a13 ?l13 ?c13 ?k13 ?a14 ?l14 ?c14 ?k14 ?a15 ?l15 ?c15 ?k15 ?a16 ?l16 ?c16 ?k16 ?a17 ?l17 ?c17 ?k17 ?a18 ?l18 ?c18 ?k18 ?z0 ?z1 ?z2 ?z3 ?z4 ?z5 ?z6 ?z7 ?z8 ?z9 ?z10 ?z11 ?z12 ?q0 ?q1 ?ye_NoText ?yn_NoText ?yk0_NoText ?yk1_NoText ?yk2_NoText ?yk3_NoText ?yk4_NoText ?yi_NoText_NoText ?yi_NoText_ValueError ?ye_LampError ?yt_NoText_LampError ?yn_LampError ?yb_LampError
  (case a0 => k_is)
  (case l0 => k_is)
  (case c0 => k_is)
  (case k0 => k_is)
  (case a1 => k_is)
  (case l1 => k_is)
  (case c1 => k_is)
  (case k1 => k_is)
  (case a2 => k_is)
  (case l2 => k_is)
  (case c2 => k_is)
  (case k2 => k_is)
  (case a3 => k_is)
  (case l3 => k_is)
  (case c3 => k_is)
  (case k3 => k_is)
  (case a4 => k_is)
  (case l4 => k_is)
  (case c4 => k_is)
  (case k4 => k_is)
  (case a5 => k_is)
  (case l5 => k_is)
  (case c5 => k_is)
  (case k5 => k_is)
  (case a6 => k_is)
  (case l6 => k_is)
  (case c6 => k_is)
  (case k6 => k_is)
  (case a7 => k_is)
  (case l7 => k_is)
  (case c7 => k_is)
  (case k7 => k_is)
  (case a8 => k_is)
  (case l8 => k_is)
  (case c8 => k_is)
  (case k8 => k_is)
  (case a9 => k_is)
  (case l9 => k_is)
  (case c9 => k_is)
  (case k9 => k_is)
  (case a10 => k_is)
  (case l10 => k_is)
  (case c10 => k_is)
  (case k10 => k_is)
  (case a11 => k_is)
  (case l11 => k_is)
  (case c11 => k_is)
  (case k11 => k_is)
  (case a12 => k_is)
  (case l12 => k_is)
  (case c12 => k_is)
  (case k12 => k_is)
  (case a13 => k_is)
  (case l13 => k_is)
  (case c13 => k_is)
  (case k13 => k_is)
  (case a14 => k_is)
  (case l14 => k_is)
  (case c14 => k_is)
  (case k14 => k_is)
  (case a15 => k_is)
  (case l15 => k_is)
  (case c15 => k_is)
  (case k15 => k_is)
  (case a16 => k_is)
  (case l16 => k_is)
  (case c16 => k_is)
  (case k16 => k_is)
  (case a17 => k_is)
  (case l17 => k_is)
  (case c17 => k_is)
  (case k17 => k_is)
  (case a18 => k_is)
  (case l18 => k_is)
  (case c18 => k_is)
  (case k18 => k_is)
  (case z0 => k_is)
  (case z1 => k_is)
  (case z2 => k_is)
  (case z3 => k_is)
  (case z4 => k_is)
  (case z5 => k_is)
  (case z6 => k_is)
  (case z7 => k_is)
  (case z8 => k_is)
  (case z9 => k_is)
  (case z10 => k_is)
  (case z11 => k_is)
  (case z12 => k_is)
  (case q0 => k_is)
  (case q1 => k_is)
  (case yn_NoText => k_is)
  (case yn_LampError => k_is)
  (case ye_NoText => k_exc)
  (case yk0_NoText => k_is)
  (case yk1_NoText => k_is)
  (case yk2_NoText => k_is)
  (case yk3_NoText => k_is)
  (case yk4_NoText => k_is)
  (case yi_NoText_NoText => kit_is)
  (case yi_NoText_ValueError => kit_is)
  (case ye_LampError => k_exc)
  (case yt_NoText_LampError => k_is)
  (case yb_LampError => k_is)
