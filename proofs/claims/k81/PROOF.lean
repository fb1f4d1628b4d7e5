import PyProof.Rows.All
import Wide.All
import OpenK.AllK
import Wide.FinOn
import Lean
import PyProof.EqAt
import PyProof.EqKinds
import PyProof.TupleCall
import PyProof.Rows.SortShellK
import PyProof.StationsW
import PyProof.SetKind
import PyProof.TupleKey
import PyProof.DictKinds
import PyProof.IsRules
import PyProof.Slots
import PyProof.Rows.SetFrom
import PyProof.SetRoads
import PyProof.WalksMore
import KE.KDictSum
import PyProof.Draws
import PyProof.Rows.EnumRows
import PyProof.ConsumeWalk
import KE.KDictOf
import PyProof.DictRoadsH
import PyProof.AttrMissSeq
import PyProof.Conv_int_bool
import PyProof.StrCalls2
import PyProof.Rows.StrWeight2
import PyProof.EnumMake
import PyProof.FitsReplace
import PyProof.StrLawsOcc
import PyProof.DictRoads
import PyProof.Rows.SortStr
import PySem.Challenge.RW_lampfloor_k81_whole_eyes
set_option Elab.async false
set_option linter.all false
set_option maxRecDepth 100000
set_option maxHeartbeats 4000000
set_option genInjectivity false
set_option genSizeOf false
set_option genSizeOfSpec false
set_option bootstrap.genMatcherCode false
noncomputable section
namespace L2
open PySem PySem.Spec PyProof.Rows
abbrev Key := Sum Int Str
noncomputable def keyIs : Key -> Value -> Bool
 | .inl k, v => Value.isInt k v
 | .inr x, v => Value.isStrOf x v
noncomputable def keyH (w : World) : Key -> Int
 | .inl k => hashInt k
 | .inr x => hashStr w x
theorem keyIs_shape : ∀ {k : Key} {v : Value}, keyIs k v = true -> (∃ i t, k = Sum.inl i /\ v = Value.int i t) ∨ (∃ x t, k = Sum.inr x /\ v = Value.str x t)
 | .inl i, v, h => by
  obtain ⟨t, e⟩ := Value.isInt_shape (k := i) (v := v) h
  exact .inl ⟨i, t, rfl, e⟩
 | .inr x, v, h => by
  obtain ⟨t, e⟩ := Value.isStrOf_shape (x := x) (v := v) h
  exact .inr ⟨x, t, rfl, e⟩
theorem key_ll (a b : Int) : decide ((Sum.inl a : Key) = Sum.inl b) = (a == b) := by
 by_cases e : a = b
 ·subst e; simp
 ·have h : ¬ (Sum.inl a : Key) = Sum.inl b := fun q => e (Sum.inl.inj q)
  rw [decide_eq_false h]
  exact (beq_eq_false_iff_ne.mpr e).symm
theorem key_rr (a b : Str) : decide ((Sum.inr a : Key) = Sum.inr b) = decide (a = b) := by
 by_cases e : a = b
 ·subst e; simp
 ·have h : ¬ (Sum.inr a : Key) = Sum.inr b := fun q => e (Sum.inr.inj q)
  rw [decide_eq_false h, decide_eq_false e]
theorem key_lr (a : Int) (b : Str) : decide ((Sum.inl a : Key) = Sum.inr b) = false := decide_eq_false (fun q => nomatch q)
theorem key_rl (a : Str) (b : Int) : decide ((Sum.inr a : Key) = Sum.inl b) = false := decide_eq_false (fun q => nomatch q)
noncomputable def mixKind (prog : Program) (w : World) : PySem.KeyKind prog w Key where
 is := keyIs
 hash := keyH w
 inj := fun v a b ha hb => by
  rcases keyIs_shape ha with ⟨i, t, rfl, rfl⟩ | ⟨x, t, rfl, rfl⟩
  ·rcases keyIs_shape hb with ⟨j, u, rfl, e⟩ | ⟨y, u, rfl, e⟩
   ·injection e with e1 _; rw [e1]
   ·exact nomatch e
  ·rcases keyIs_shape hb with ⟨j, u, rfl, e⟩ | ⟨y, u, rfl, e⟩
   ·exact nomatch e
   ·injection e with e1 _; rw [e1]
 byValue := fun k v h => by
  rcases keyIs_shape h with ⟨i, t, rfl, rfl⟩ | ⟨x, t, rfl, rfl⟩ <;> rfl
 pyHash := fun hv h => by
  rcases keyIs_shape hv with ⟨i, t, rfl, rfl⟩ | ⟨x, t, rfl, rfl⟩
  ·exact wpAny_pyHash_int h
  ·exact wpAny_pyHash_str h
 eqBool := fun hu hv h => by
  rcases keyIs_shape hu with ⟨i, t, rfl, rfl⟩ | ⟨x, t, rfl, rfl⟩
  ·rcases keyIs_shape hv with ⟨j, u, rfl, rfl⟩ | ⟨y, u, rfl, rfl⟩
   ·rw [key_ll] at h; exact wpAny_eqBool_int h
   ·rw [key_lr] at h; exact SeqAt.EqAt.int_str i t y u _ _ _ _ h
  ·rcases keyIs_shape hv with ⟨j, u, rfl, rfl⟩ | ⟨y, u, rfl, rfl⟩
   ·rw [key_rl] at h; exact SeqAt.EqAt.str_int x t j u _ _ _ _ h
   ·rw [key_rr] at h; exact wpAny_eqBool_str h
 «strs» := fun k x t v h => by
  rcases keyIs_shape h with ⟨i, u, rfl, e⟩ | ⟨y, u, rfl, e⟩
  ·exact nomatch e
  ·injection e with e1 _
   subst e1
   cases v <;> rfl
end L2
namespace L2
open PySem PySem.Spec PyProof.Rows
inductive V where
 | non | bl (b : Bool) | int (i : Int) | str (x : Str) | byt (b : Array UInt8) | flt (b : UInt64) | ref (a : Addr) | ty (n : String)
 deriving DecidableEq
noncomputable def RelV : V -> Value -> Prop
 | .non, u => u = Value.none
 | .bl b, u => u = Value.bool b
 | .int i, u => ∃ t, u = Value.int i t
 | .str x, u => ∃ t, u = Value.str x t
 | .byt b, u => ∃ t, u = Value.bytes b t
 | .flt b, u => ∃ t, u = Value.float b t
 | .ref a, u => u = Value.ref a
 | .ty n, u => u = Value.type n
abbrev Vals : List V -> List Value -> Prop := Paired RelV
theorem Vals.length {xs : List V} {us : List Value} (r : Vals xs us) : xs.length = us.length := Paired.length r
theorem Vals.get : ∀ {xs : List V} {us : List Value} {i : Nat} {x : V}, Vals xs us -> xs[i]? = some x -> ∃ u, us[i]? = some u /\ RelV x u
 | _, _, _, _, .nil, e => by simp at e
 | _, _, 0, _, .cons r _, e => by simp at e; subst e; exact ⟨_, rfl, r⟩
 | _, _, i + 1, x, .cons _ t, e => by
  obtain ⟨u, h1, h2⟩ := Vals.get (i := i) (x := x) t (by simpa using e)
  exact ⟨u, by simpa using h1, h2⟩
theorem Vals.append : ∀ {xs ys : List V} {us ws : List Value}, Vals xs us -> Vals ys ws -> Vals (xs ++ ys) (us ++ ws)
 | _, _, _, _, .nil, s => s
 | _, _, _, _, .cons r t, s => .cons r (Vals.append t s)
theorem Vals.take : ∀ {xs : List V} {us : List Value} (n : Nat), Vals xs us -> Vals (xs.take n) (us.take n)
 | _, _, 0, _ => .nil
 | _, _, _ + 1, .nil => .nil
 | _, _, n + 1, .cons r t => .cons r (Vals.take n t)
theorem Vals.drop : ∀ {xs : List V} {us : List Value} (n : Nat), Vals xs us -> Vals (xs.drop n) (us.drop n)
 | _, _, 0, r => r
 | _, _, _ + 1, .nil => .nil
 | _, _, n + 1, .cons _ t => Vals.drop n t
noncomputable def RelO : Option V -> Option Value -> Prop
 | some v, some u => RelV v u
 | none, none => True
 | _, _ => False
noncomputable def KV {κ : Type} : List (κ × V) -> List (κ × Value) -> Prop := Paired fun (p : κ × V) (q : κ × Value) => p.1 = q.1 /\ RelV p.2 q.2
noncomputable def kV : Key -> V
 | .inl i => .int i
 | .inr x => .str x
inductive HO where
 | lst (xs : List V)
 | tup (xs : List V)
 | dK (kvs : List (Key × V)) | dT (kvs : List (List Key × V))
 | set (S : Int -> Bool) (n : Nat)
 | ins (C dx : Addr) (fs : List (Str × V))
 | own (x : Addr)
 | xd (fs : List (Str × V))
 | met (f x : Addr)
 | rng (lo hi : Int)
 | frz (o : Obj) (u : HO)
 | tbl (ps : Array Value)
 | ext (φ : Heap -> Prop)
abbrev Hp := Addr -> Option HO
noncomputable def upd (H : Hp) (a : Addr) (o : HO) : Hp := fun b => if b = a then some o else H b
theorem upd_same {H : Hp} {a : Addr} {o : HO} : upd H a o a = some o := by unfold upd; rw [if_pos rfl]
theorem upd_ne {H : Hp} {a b : Addr} {o : HO} (h : b ≠ a) : upd H a o b = H b := by unfold upd; rw [if_neg h]
theorem ne_of_none {H : Hp} {a b : Addr} {o : HO} (h : H a = some o) (h' : H b = none) : a ≠ b := by
 intro e; subst e; rw [h] at h'; cases h'
section
variable (P : Program) (w : World)
noncomputable def ObjOk (H : Hp) (h : Heap) (a : Addr) : HO -> Prop
 | .lst xs => xs.length <= sizeLine /\ ∃ (its : List Value) (n : Nat), Vals xs its /\ h.get? a = some { cls := .type "list", data := .seq its.toArray n }
 | .tup xs => xs.length <= sizeLine /\ ∃ its : List Value, Vals xs its /\ IsTup h a its.toArray
 | .dK kvs => kvs.length <= sizeLine /\ (a == sysModules) = false /\ ∃ vs, KV kvs vs /\ h.DictOf (mixKind P w) a vs
 | .dT kvs => kvs.length <= sizeLine /\ (a == sysModules) = false /\ ∃ xs : List (List Key × Addr × Value),
   Paired (fun (p : List Key × V) (q : List Key × Addr × Value) => p.1 = q.1 /\ H q.2.1 = some (.tup (p.1.map kV)) /\ RelV p.2 q.2.2) kvs xs /\
   ∃ o es ep, h.get? a = some o /\ o.ExactDict /\ o.data = .dict es ep /\ es.toList = xs.map (entryOfKey (tupleKind (mixKind P w))) /\ (xs.map (·.1)).Nodup
 | .set S n => h.SetOf (intKind P w) a S n
 | .ins C dx fs => H dx = some (.own a) /\ fs.length <= 1000 /\ dx ≠ a /\ h.get? a = some (PySem.W.instObj C dx) /\
   ∃ mA, h.Ns1 dx mA /\ (∀ f, RelO (fs.lookup f) (mA f)) /\ PySem.Within mA (fs.map (·.1))
 | .own _ => ∃ o, h.get? a = some o
 | .xd fs => ∃ mA, h.Ns1 a mA /\ ∀ f, RelO (fs.lookup f) (mA f)
 | .rng lo hi => ∃ t u v, h.get? a = some { cls := .type "range", data := .fields #[.int lo t, .int hi u, .int 1 v] }
 | .frz o u => h.get? a = some o /\ ObjOk H h a u
 | .tbl ps => h.get? a = some { cls := .none, data := .fields ps }
 | .met f x => h.get? a = some (PySem.W.methodObj (.ref f) (.ref x))
 | .ext φ => φ h /\ (∃ o, h.get? a = some o) /\ ∀ h1 h2 : Heap, φ h1 -> (∀ o, h1.get? a = some o -> h2.get? a = some o) -> φ h2
noncomputable def HOk (H : Hp) (h : Heap) : Prop := ∀ a o, H a = some o -> ObjOk P w H h a o
end
section
variable {P : Program} {w : World} {H H' : Hp} {h h' : Heap} {a : Addr} {o : HO}
theorem ObjOk.lt (x : ObjOk P w H h a o) : a < h.objs.size := by
 cases o with
 | lst xs => obtain ⟨_, _, _, _, e⟩ := x; exact Heap.lt_size e
 | tup xs => obtain ⟨_, _, _, p⟩ := x; exact p.lt
 | dK kvs => obtain ⟨_, _, _, _, o, _, _, e, _⟩ := x; exact Heap.lt_size e
 | dT kvs => obtain ⟨_, _, _, _, o, _, _, e, _⟩ := x; exact Heap.lt_size e
 | set S n => obtain ⟨o, _, _, _, e, _⟩ := x; exact Heap.lt_size e
 | ins C dx fs => obtain ⟨_, _, _, e, _⟩ := x; exact Heap.lt_size e
 | own y => obtain ⟨_, e⟩ := x; exact Heap.lt_size e
 | xd fs => obtain ⟨_, ⟨_, _, _, e, _⟩, _⟩ := x; exact Heap.lt_size e
 | rng lo hi => obtain ⟨_, _, _, e⟩ := x; exact Heap.lt_size e
 | frz ob u => obtain ⟨e, _⟩ := x; exact Heap.lt_size e
 | tbl ps => exact Heap.lt_size (show h.get? a = some _ from x)
 | met f y => exact Heap.lt_size (show h.get? a = some _ from x)
 | ext φ => obtain ⟨_, ⟨_, e⟩, _⟩ := x; exact Heap.lt_size e
theorem Paired.mapP {α β : Type} {F G : α -> β -> Prop} : ∀ {l₁ : List α} {l₂ : List β}, Paired F l₁ l₂ -> (∀ a b, F a b -> G a b) -> Paired G l₁ l₂
 | _, _, .nil, _ => .nil
 | _, _, .cons r t, f => .cons (f _ _ r) (Paired.mapP t f)
theorem ObjOk.stay (x : ObjOk P w H h a o) (k : ∀ b u, (b = a ∨ H b = some (.own a)) -> h.get? b = some u -> h'.get? b = some u)
  (ho : ∀ b, H b = some (.own a) -> H' b = some (.own a)) (ht : ∀ b xs, H b = some (.tup xs) -> H' b = some (.tup xs)) : ObjOk P w H' h' a o := by
 induction o with
 | lst xs => obtain ⟨z, its, n, r, e⟩ := x; exact ⟨z, its, n, r, k _ _ (.inl rfl) e⟩
 | tup xs => obtain ⟨z, its, r, ob, e, c⟩ := x; exact ⟨z, its, r, ob, k _ _ (.inl rfl) e, c⟩
 | dK kvs => obtain ⟨z, y, vs, r, ob, es, ep, e, c⟩ := x; exact ⟨z, y, vs, r, ob, es, ep, k _ _ (.inl rfl) e, c⟩
 | dT kvs =>
  obtain ⟨z, y, xs, r, ob, es, ep, e, c⟩ := x
  exact ⟨z, y, xs, Paired.mapP r fun p q z => ⟨z.1, ht _ _ z.2.1, z.2.2⟩, ob, es, ep, k _ _ (.inl rfl) e, c⟩
 | set S n => obtain ⟨ob, es, ep, t, e, c⟩ := x; exact ⟨ob, es, ep, t, k _ _ (.inl rfl) e, c⟩
 | ins C dx fs =>
  obtain ⟨d, z, ne, e, mA, ⟨od, es, ep, e2, c⟩, r⟩ := x
  exact ⟨ho _ d, z, ne, k _ _ (.inl rfl) e, mA, ⟨od, es, ep, k _ _ (.inr d) e2, c⟩, r⟩
 | own y => obtain ⟨ob, e⟩ := x; exact ⟨ob, k _ _ (.inl rfl) e⟩
 | xd fs => obtain ⟨mA, ⟨od, es, ep, e, c⟩, r⟩ := x; exact ⟨mA, ⟨od, es, ep, k _ _ (.inl rfl) e, c⟩, r⟩
 | rng lo hi => obtain ⟨t, u, v, e⟩ := x; exact ⟨t, u, v, k _ _ (.inl rfl) e⟩
 | frz ob u ih => obtain ⟨e, q⟩ := x; exact ⟨k _ _ (.inl rfl) e, ih q⟩
 | tbl ps =>
  have e : h.get? a = some { cls := .none, data := .fields ps } := x
  show h'.get? a = some { cls := .none, data := .fields ps }
  exact k a _ (.inl rfl) e
 | met f y =>
  have e : h.get? a = some (PySem.W.methodObj (.ref f) (.ref y)) := x
  show h'.get? a = some (PySem.W.methodObj (.ref f) (.ref y))
  exact k a _ (.inl rfl) e
 | ext φ => obtain ⟨p, ⟨o, e⟩, st⟩ := x; exact ⟨st _ _ p fun o q => k _ _ (.inl rfl) q, ⟨o, k _ _ (.inl rfl) e⟩, st⟩
theorem HOk.lt (x : HOk P w H h) (e : H a = some o) : a < h.objs.size := (x a o e).lt
theorem HOk.fresh (x : HOk P w H h) (e : h.objs.size <= a) : H a = none := by
 cases q : H a with
 | none => rfl
 | some u => exact absurd (Nat.lt_of_lt_of_le (x.lt q) e) (Nat.lt_irrefl _)
theorem HOk.kept (x : HOk P w H h) (k : ∀ b u, h.get? b = some u -> h'.get? b = some u) : HOk P w H h' := fun a o e =>
 (x a o e).stay (fun b u _ q => k b u q) (fun _ q => q) fun _ _ q => q
theorem HOk.laid (x : HOk P w H h) (k : ∀ b u, h.get? b = some u -> h'.get? b = some u) (hp : h.objs.size <= a) (new : ObjOk P w (upd H a o) h' a o) : HOk P w (upd H a o) h' := fun b u e => by
 have hn := x.fresh hp
 by_cases hb : b = a
 ·subst hb; rw [upd_same] at e; cases e; exact new
 ·rw [upd_ne hb] at e
  exact (x b u e).stay (fun c v _ q => k c v q) (fun c q => by rw [upd_ne (ne_of_none q hn)]; exact q) fun c xs q => by rw [upd_ne (ne_of_none q hn)]; exact q
end
noncomputable def Rd (H : Hp) (a : Addr) (u : HO) : Prop := H a = some u ∨ ∃ o, H a = some (.frz o u)
theorem Rd.ok {P : Program} {w : World} {H : Hp} {h : Heap} {a : Addr} {u : HO} (r : Rd H a u) (x : HOk P w H h) : ObjOk P w H h a u := by
 rcases r with r | ⟨o, r⟩
 ·exact x a u r
 ·obtain ⟨_, q⟩ := x a _ r
  exact q
noncomputable def Mut : Option HO -> Prop
 | some (.lst _) => True
 | some (.dK _) => True
 | some (.dT _) => True
 | some (.set _ _) => True
 | some (.ins _ _ _) => True
 | some (.ext _) => True
 | _ => False
section
variable {P : Program} {w : World} {H : Hp} {h h' : Heap} {x e : Addr} {o' : HO}
theorem HOk.write (ok : HOk P w H h) (mu : Mut (H x)) (he : e = x ∨ H e = some (.own x)) (k : ∀ b u, b ≠ e -> h.get? b = some u -> h'.get? b = some u) (heo : ∃ u, h'.get? e = some u)
  (new : ObjOk P w (upd H x o') h' x o') : HOk P w (upd H x o') h' := fun b u q => by
 have nown : ∀ c y, H c = some (.own y) -> c ≠ x := fun c y r z => by subst z; rw [r] at mu; exact mu
 have ntup : ∀ c xs, H c = some (.tup xs) -> c ≠ x := fun c xs r z => by subst z; rw [r] at mu; exact mu
 by_cases hb : b = x
 ·subst hb; rw [upd_same] at q; cases q; exact new
 ·rw [upd_ne hb] at q
  by_cases hbe : b = e
  ·have q' : H b = some (.own x) := by
    rcases he with z | z
    ·exact absurd (hbe.trans z) hb
    ·rw [hbe]; exact z
   rw [q] at q'; cases q'
   obtain ⟨v, hv⟩ := heo
   exact ⟨v, by rw [hbe]; exact hv⟩
  ·refine (ok b u q).stay (fun c v hc r => k c v ?_ r) (fun c r => by rw [upd_ne (nown c b r)]; exact r) fun c xs r => by rw [upd_ne (ntup c xs r)]; exact r
   rcases hc with rfl | hc
   ·exact hbe
   ·rintro rfl
    rcases he with z | z
    ·exact nown c b hc z
    ·rw [hc] at z; cases z; exact hb rfl
end
structure Un (fs ex : List Addr) (H H' : Hp) (h h' : Heap) : Prop where
 keep : ∀ b o, h.get? b = some o -> H b = none -> b ∉ fs -> b ∉ ex -> h'.get? b = some o
 slot : ∀ b o, h.get? b = some o -> H b = none -> b ∈ fs -> b ∉ ex -> ∃ sl, h'.get? b = some { o with slots := sl }
 free : ∀ b o, h.get? b = some o -> H b = none -> b ∉ ex -> H' b = none
 there : ∀ b o, h.get? b = some o -> b ∉ ex -> ∃ o', h'.get? b = some o'
 tups : ∀ b xs, H b = some (.tup xs) -> H' b = some (.tup xs)
 frzs : ∀ b o u, H b = some (.frz o u) -> H' b = some (.frz o u)
 tbls : ∀ b ps, H b = some (.tbl ps) -> ∃ more, H' b = some (.tbl (ps ++ more))
section
variable {fs fs' ex ex' : List Addr} {H H1 H2 : Hp} {h h1 h2 h' : Heap} {a x e : Addr} {o : HO}
theorem Un.any (u : Un fs ex H H1 h h1) {b : Addr} {ob : Obj} (q : h.get? b = some ob) (n : H b = none) (hx : b ∉ ex) : ∃ sl, h1.get? b = some { ob with slots := sl } := by
 by_cases hb : b ∈ fs
 ·exact u.slot b ob q n hb hx
 ·exact ⟨ob.slots, u.keep b ob q n hb hx⟩
theorem Un.kept (k : ∀ b u, h.get? b = some u -> h'.get? b = some u) : Un fs ex H H h h' :=
 ⟨fun b ob q _ _ _ => k b ob q, fun b ob q _ _ _ => ⟨ob.slots, k b ob q⟩, fun _ _ _ n _ => n, fun b ob q _ => ⟨ob, k b ob q⟩, fun _ _ q => q, fun _ _ _ q => q, fun _ ps q => ⟨#[], by rw [q]; simp⟩⟩
theorem Un.refl : Un fs ex H H h h := Un.kept fun _ _ q => q
theorem Un.laid (k : ∀ b u, h.get? b = some u -> h'.get? b = some u) (hp : h.objs.size <= a) (hn : H a = none) : Un fs ex H (upd H a o) h h' where
 keep := fun b u q _ _ _ => k b u q
 slot := fun b u q _ _ _ => ⟨u.slots, k b u q⟩
 free := fun b u q n _ => by rw [upd_ne (Nat.ne_of_lt (Nat.lt_of_lt_of_le (Heap.lt_size q) hp))]; exact n
 there := fun b u q _ => ⟨u, k b u q⟩
 tups := fun b xs q => by rw [upd_ne (ne_of_none q hn)]; exact q
 frzs := fun b u xs q => by rw [upd_ne (ne_of_none q hn)]; exact q
 tbls := fun b ps q => ⟨#[], by rw [upd_ne (ne_of_none q hn), q]; simp⟩
theorem Un.write (mu : Mut (H x)) (he : e = x ∨ H e = some (.own x)) (k : ∀ b u, b ≠ e -> h.get? b = some u -> h'.get? b = some u) (heo : ∃ u, h'.get? e = some u) : Un fs ex H (upd H x o) h h' := by
 have hx : ∀ b, H b = none -> b ≠ x := fun b n z => by subst z; rw [n] at mu; exact mu
 have hb : ∀ b, H b = none -> b ≠ e := fun b n z => by
  subst z
  rcases he with r | r
  ·exact hx b n r
  ·rw [n] at r; cases r
 have hm : ∀ b u, H b = some u -> ¬ Mut (some u) -> b ≠ x := fun b u q nm z => by subst z; rw [q] at mu; exact nm mu
 refine ⟨fun b u q n _ _ => k b u (hb b n) q, fun b u q n _ _ => ⟨u.slots, k b u (hb b n) q⟩, fun b u q n _ => by rw [upd_ne (hx b n)]; exact n, fun b u q _ => ?_,
  fun b xs q => by rw [upd_ne (hm b _ q fun z => z)]; exact q, fun b u xs q => by rw [upd_ne (hm b _ q fun z => z)]; exact q, fun b ps q => ⟨#[], by rw [upd_ne (hm b _ q fun z => z), q]; simp⟩⟩
 by_cases hbe : b = e
 ·subst hbe; exact heo
 ·exact ⟨u, k b u hbe q⟩
end
noncomputable def trk (h : Heap) (H : Hp) : List Addr := (List.range h.objs.size).filter fun a => (H a).isSome
noncomputable def hidT (h : Heap) (H : Hp) : Heap := PySem.W.hideAll h (trk h H)
theorem hidT_size (h : Heap) (H : Hp) : (hidT h H).objs.size = h.objs.size := PySem.W.hideAll_size _ _
theorem hidT_get {h : Heap} {H : Hp} {b : Addr} {o : Obj} (e : h.get? b = some o) (n : H b = none) : (hidT h H).get? b = some o :=
 PySem.W.hideAll_get _ e fun hm => by
  have q : (H b).isSome = true := (List.mem_filter.mp hm).2
  rw [n] at q; simp at q
theorem of_hidT {h : Heap} {H : Hp} {b : Addr} {o : Obj} (e : (hidT h H).get? b = some o) : h.get? b = some o /\ H b = none := by
 have e' : h.get? b = some o := PySem.W.of_hideAll (trk h H) e
 refine ⟨e', ?_⟩
 cases q : H b with
 | none => rfl
 | some x =>
  have hm : b ∈ trk h H := List.mem_filter.mpr ⟨List.mem_range.mpr (Heap.lt_size e'), by simp [q]⟩
  have z : (hidT h H).get? b = none := PySem.W.hideAll_none (trk h H) hm
  rw [z] at e; cases e
end L2
namespace L2
open PySem PySem.Spec PyProof.Rows
structure Mod (K : PySem.W.Frag) (mg : Str -> Option Value) (base : Heap) : Prop where
 kin : K.In base
 glob : base.Ns mainGlobals mg
 blt : ∃ mb, base.Ns builtinsNs mb /\ ∀ x : Str, x ≠ "__name__" -> mb x = bootBuiltins x
 nolimit : base.NoLimit
structure Cx where
 prog : Program
 w : World
 K : PySem.W.Frag
 mg : Str -> Option Value
 base : Heap
 A : Around
 N : List Str
 s₀ : Shared
 H₀ : Hp
 env : Env
 outer : List Env
 stack : List Env
 ex : List Addr
 fn : Str -> Bool
 calm : Bool
 pn : List (Addr × Obj)
 xe : Value -> Shared -> Prop
noncomputable def frs (l : List Env) : List Addr := l.filterMap (·.frame)
abbrev Cx.fs (X : Cx) : List Addr := frs X.outer
noncomputable def Vis (sc : Scope) (x : Str) : Prop := sc.names.lookup x = some .local ∨ sc.names.lookup x = some .cell ∨ sc.names.lookup x = some .free
noncomputable def Loc (sc : Scope) (x : Str) : Prop := sc.names.lookup x = some .local ∨ sc.names.lookup x = some .cell
noncomputable def Look (env : Env) (h : Heap) (m : Str -> Option Value) (x : Str) (u : Value) : Prop :=
 (env.kindOf x = some .local /\ m x = some u) ∨ ((env.kindOf x = some .cell ∨ env.kindOf x = some .free) /\ ∃ c, env.cells.lookup x = some c /\ h.IsCell c (some u))
structure Cx.Ok (X : Cx) : Prop where
 mod : Mod X.K X.mg X.base
 kind : X.env.scope.kind = .function
 glob : X.env.globals = mainGlobals
 blt : X.env.builtins = builtinsNs
 above : X.s₀.heap.objs.size <= X.env.locals
 inj : ∀ x y c, X.env.cells.lookup x = some c -> X.env.cells.lookup y = some c -> x = y
 has : ∀ x, (X.env.kindOf x = some .cell ∨ X.env.kindOf x = some .free) -> ∃ c, X.env.cells.lookup x = some c
 cab : ∀ x c, X.fn x = true -> X.env.cells.lookup x = some c -> X.s₀.heap.objs.size <= c
 hd : X.calm = true -> X.A.handled = none
 frames : X.A.frames = some X.stack
 stk : X.stack = X.outer ∨ (X.stack = X.env :: X.outer /\ X.env.frame = some X.env.locals)
 exf : ∀ b ∈ X.ex, b ≠ X.env.locals /\ ∀ x c, X.env.cells.lookup x = some c -> c ≠ b
 bs : ∀ b o, X.base.get? b = some o -> X.s₀.heap.get? b = some o /\ X.H₀ b = none
 bsz : X.base.objs.size <= X.s₀.heap.objs.size
 noex : ∀ b o, X.base.get? b = some o -> b ∉ X.ex
 exfs : ∀ b ∈ X.ex, b ∉ X.fs
 funs : X.s₀.heap.FunFrames X.base X.outer
 frf : ∀ b ∈ X.fs, X.H₀ b = none
structure Inv (X : Cx) (pins : List (Addr × Obj)) (σ : List (Option V)) (H : Hp) (s : Shared) : Prop where
 ok : X.Ok
 os : s.os = X.s₀.os
 bare : AllBare s.gens
 base : Un X.fs X.ex X.H₀ H X.s₀.heap s.heap
 loc : ∃ m, s.heap.Ns X.env.locals m /\ ∀ (i : Nat) (x : Str) (v : V), X.N[i]? = some x -> σ[i]? = some (some v) -> Vis X.env.scope x -> ∃ u, RelV v u /\ Look X.env s.heap m x u
 cell : ∀ x c, X.env.cells.lookup x = some c -> ∃ v, s.heap.IsCell c v
 free : H X.env.locals = none
 freeC : ∀ x c, X.env.cells.lookup x = some c -> H c = none
 pin : ∀ p ∈ X.pn ++ pins, s.heap.get? p.1 = some p.2 /\ H p.1 = none /\ p.1 ≠ X.env.locals /\ p.1 ∉ X.fs /\ ∀ v, p.2.data ≠ .cell v
 hok : HOk X.prog X.w H s.heap
 len : σ.length = X.N.length
section
variable {X : Cx} {pins : List (Addr × Obj)} {σ : List (Option V)} {H H' : Hp} {s : Shared} {h' : Heap}
theorem Cx.Ok.nofr (ok : X.Ok) {b : Addr} {o : Obj} (e : X.base.get? b = some o) : b ∉ X.fs := fun hb => by
 have := (ok.funs.mem hb).1
 rw [e] at this; cases this
theorem Inv.bs (I : Inv X pins σ H s) : ∀ b o, X.base.get? b = some o -> s.heap.get? b = some o /\ H b = none := fun b o e =>
 ⟨I.base.keep b o (I.ok.bs b o e).1 (I.ok.bs b o e).2 (I.ok.nofr e) (I.ok.noex b o e), I.base.free b o (I.ok.bs b o e).1 (I.ok.bs b o e).2 (I.ok.noex b o e)⟩
theorem Inv.bk (I : Inv X pins σ H s) : ∀ b o, X.base.get? b = some o -> s.heap.get? b = some o := fun b o e => (I.bs b o e).1
theorem Inv.mod (I : Inv X pins σ H s) : Mod X.K X.mg X.base := I.ok.mod
theorem Inv.kIn (I : Inv X pins σ H s) : X.K.In s.heap := I.ok.mod.kin.keeps I.bk
theorem Inv.lt (I : Inv X pins σ H s) : X.env.locals < s.heap.objs.size := let ⟨_, hn, _⟩ := I.loc; hn.lt
theorem Inv.sz (I : Inv X pins σ H s) : X.s₀.heap.objs.size <= s.heap.objs.size := Nat.le_trans I.ok.above (Nat.le_of_lt I.lt)
theorem Inv.nofs (I : Inv X pins σ H s) {a : Addr} (h : s.heap.objs.size <= a) : a ∉ X.fs := fun hb => by
 obtain ⟨_, o, ho, _⟩ := I.ok.funs.mem hb
 exact absurd (Nat.lt_of_lt_of_le (Heap.lt_size ho) (Nat.le_trans I.sz h)) (Nat.lt_irrefl _)
theorem Inv.cne (I : Inv X pins σ H s) : ∀ x c, X.env.cells.lookup x = some c -> c ≠ X.env.locals := fun x c e z => by
 obtain ⟨v, o, ho, hd⟩ := I.cell x c e
 obtain ⟨m, ⟨o', es, ep, ho', hd', _⟩, _⟩ := I.loc
 rw [z, ho'] at ho; cases ho; rw [hd'] at hd; cases hd
theorem Inv.funs (I : Inv X pins σ H s) : s.heap.FunFrames X.base X.outer := by
 have all : ∀ (l : List Env), (∀ b ∈ frs l, b ∈ X.fs) -> X.s₀.heap.FunFrames X.base l -> s.heap.FunFrames X.base l := by
  intro l
  induction l with
  | nil => intro _ _; trivial
  | cons env r ih =>
   intro hs hl
   obtain ⟨hk, ⟨L, o, hf, hn, ho, hd⟩, hr⟩ := hl
   have hL : L ∈ X.fs := hs L (by unfold frs; rw [List.filterMap_cons, hf]; exact List.mem_cons_self)
   obtain ⟨sl, e⟩ := I.base.slot L o ho (I.ok.frf L hL) hL fun z => I.ok.exfs L z hL
   exact ⟨hk, ⟨L, _, hf, hn, e, hd⟩, ih (fun b hb => hs b (by unfold frs; rw [List.filterMap_cons, hf]; exact List.mem_cons_of_mem _ hb)) hr⟩
 exact all X.outer (fun _ hb => hb) I.ok.funs
theorem Inv.stack (I : Inv X pins σ H s) : s.heap.FunFrames X.base X.stack := by
 rcases I.ok.stk with e | ⟨e, hf⟩
 ·rw [e]; exact I.funs
 ·rw [e]
  obtain ⟨m, hn, _⟩ := I.loc
  refine .cons (by rw [I.ok.kind]; decide) hf hn ?_ I.funs
  exact Heap.get?_none_of_le (Nat.le_trans I.ok.bsz I.ok.above)
theorem Inv.stkSub (I : Inv X pins σ H s) : ∀ b ∈ frs X.stack, b ∈ X.env.locals :: X.fs := fun b hb => by
 rcases I.ok.stk with e | ⟨e, hf⟩
 ·rw [e] at hb; exact List.mem_cons_of_mem _ hb
 ·rw [e] at hb
  unfold frs at hb
  rw [List.filterMap_cons, hf] at hb
  exact hb
theorem Inv.stkFree (I : Inv X pins σ H s) : ∀ b ∈ frs X.stack, H b = none := fun b hb => by
 rcases List.mem_cons.mp (I.stkSub b hb) with e | hb
 ·rw [e]; exact I.free
 ·obtain ⟨_, o, ho, _⟩ := I.ok.funs.mem hb
  exact I.base.free b o ho (I.ok.frf b hb) fun z => I.ok.exfs b z hb
theorem Inv.step {g' : Array GenState} {t' : Nat} {d' : Drawn} {ch : List Addr} (I : Inv X pins σ H s)
  (hch : ∀ b ∈ ch, (b ∈ X.ex ∨ X.s₀.heap.objs.size <= b) /\ b ≠ X.env.locals /\ (∀ x c, X.env.cells.lookup x = some c -> c ≠ b) /\ ∀ p ∈ X.pn ++ pins, p.1 ≠ b)
  (keep : ∀ b o, b ≠ X.env.locals -> b ∉ X.fs -> b ∉ ch -> s.heap.get? b = some o -> H b = none -> h'.get? b = some o)
  (slot : ∀ b o, b ≠ X.env.locals -> b ∈ X.fs -> b ∉ ch -> s.heap.get? b = some o -> H b = none -> ∃ sl, h'.get? b = some { o with slots := sl }) (free : ∀ b o, b ∉ ch -> s.heap.get? b = some o -> H b = none -> H' b = none)
  (there : ∀ b o, b ∉ ch -> s.heap.get? b = some o -> ∃ o', h'.get? b = some o')
  (tups : ∀ b xs, H b = some (.tup xs) -> H' b = some (.tup xs)) (frzs : ∀ b o u, H b = some (.frz o u) -> H' b = some (.frz o u)) (tbls : ∀ b ps, H b = some (.tbl ps) -> ∃ more, H' b = some (.tbl (ps ++ more)))
  (ns : ∀ m, s.heap.Ns X.env.locals m -> h'.Ns X.env.locals m) (hok : HOk X.prog X.w H' h') (hg : AllBare g') :
  Inv X pins σ H' { s with heap := h', gens := g', drawn := d', toks := t' } := by
 have neL : ∀ b o, X.s₀.heap.get? b = some o -> b ≠ X.env.locals := fun b o e => Nat.ne_of_lt (Nat.lt_of_lt_of_le (Heap.lt_size e) I.ok.above)
 have neC : ∀ b o, X.s₀.heap.get? b = some o -> b ∉ X.ex -> b ∉ ch := fun b o e hx hb => by
  rcases (hch b hb).1 with z | z
  ·exact hx z
  ·exact absurd (Nat.lt_of_lt_of_le (Heap.lt_size e) z) (Nat.lt_irrefl _)
 have cellK : ∀ x c, X.env.cells.lookup x = some c -> ∀ v, s.heap.IsCell c v -> h'.IsCell c v := fun x c e v zz => by
  obtain ⟨o, ho, hd⟩ := zz
  have nch : c ∉ ch := fun z => (hch c z).2.2.1 x c e rfl
  by_cases hc : c ∈ X.fs
  ·obtain ⟨sl, q⟩ := slot c o (I.cne x c e) hc nch ho (I.freeC x c e)
   exact ⟨_, q, hd⟩
  ·exact ⟨o, keep c o (I.cne x c e) hc nch ho (I.freeC x c e), hd⟩
 refine ⟨I.ok, I.os, hg, ⟨fun b o e n hb hx => ?_, fun b o e n hb hx => ?_, fun b o e n hx => ?_, fun b o e hx => ?_, fun b xs e => tups b xs (I.base.tups b xs e), fun b o xs e => frzs b o xs (I.base.frzs b o xs e), fun b ps e => ?_⟩, ?_, fun x c e => ?_, ?_, fun x c e => ?_, fun p hp => ?_, hok, I.len⟩
 ·exact keep b o (neL b o e) hb (neC b o e hx) (I.base.keep b o e n hb hx) (I.base.free b o e n hx)
 ·obtain ⟨sl, e1⟩ := I.base.slot b o e n hb hx
  obtain ⟨sl', e2⟩ := slot b _ (neL b o e) hb (neC b o e hx) e1 (I.base.free b o e n hx)
  exact ⟨sl', e2⟩
 ·obtain ⟨o', e1⟩ := I.base.there b o e hx
  exact free b o' (neC b o e hx) e1 (I.base.free b o e n hx)
 ·obtain ⟨o', e1⟩ := I.base.there b o e hx
  exact there b o' (neC b o e hx) e1
 ·obtain ⟨m1, e1⟩ := I.base.tbls b ps e
  obtain ⟨m2, e2⟩ := tbls b _ e1
  exact ⟨m1 ++ m2, by rw [e2, Array.append_assoc]⟩
 ·obtain ⟨m, hn, hl⟩ := I.loc
  refine ⟨m, ns m hn, fun i x v e1 e2 e3 => ?_⟩
  obtain ⟨u, r, l⟩ := hl i x v e1 e2 e3
  refine ⟨u, r, ?_⟩
  rcases l with l | ⟨k, c, e, z⟩
  ·exact .inl l
  ·exact .inr ⟨k, c, e, cellK x c e _ z⟩
 ·obtain ⟨v, z⟩ := I.cell x c e
  exact ⟨v, cellK x c e v z⟩
 ·obtain ⟨m, ⟨o, _, _, ho, _⟩, _⟩ := I.loc
  exact free _ o (fun z => (hch _ z).2.1 rfl) ho I.free
 ·obtain ⟨v, o, ho, hd⟩ := I.cell x c e
  exact free c o (fun z => (hch c z).2.2.1 x c e rfl) ho (I.freeC x c e)
 ·obtain ⟨e, n, ne, nf, d⟩ := I.pin p hp
  have nch : p.1 ∉ ch := fun z => (hch p.1 z).2.2.2 p hp rfl
  exact ⟨keep p.1 p.2 ne nf nch e n, free p.1 p.2 nch e n, ne, nf, d⟩
theorem Inv.un {t' : Nat} (I : Inv X pins σ H s) (u : Un X.fs [] H H' s.heap h') (hok : HOk X.prog X.w H' h') : Inv X pins σ H' { s with heap := h', toks := t' } := by
 obtain ⟨m, ⟨o, es, ep, ho, r⟩, _⟩ := id I.loc
 obtain ⟨sl, hL⟩ := u.any ho I.free (by simp)
 exact I.step (g' := s.gens) (d' := s.drawn) (ch := []) (fun _ z => nomatch z) (fun b o _ hb _ e n => u.keep b o e n hb (by simp)) (fun b o _ hb _ e n => u.slot b o e n hb (by simp)) (fun b o _ e n => u.free b o e n (by simp)) (fun b o _ e => u.there b o e (by simp)) u.tups u.frzs u.tbls (fun m' hm => by
  obtain ⟨o', es', ep', ho', r'⟩ := hm
  rw [ho] at ho'; cases ho'
  exact ⟨_, es', ep', hL, r'⟩) hok I.bare
theorem Inv.call {g' : Array GenState} {t' : Nat} {d' : Drawn} {ch : List Addr} (I : Inv X pins σ H s) (u : Un (frs X.stack) ch H H' s.heap h') (hok : HOk X.prog X.w H' h') (hg : AllBare g')
  (hch : ∀ b ∈ ch, (b ∈ X.ex ∨ X.s₀.heap.objs.size <= b) /\ b ≠ X.env.locals /\ (∀ x c, X.env.cells.lookup x = some c -> c ≠ b) /\ ∀ p ∈ X.pn ++ pins, p.1 ≠ b) :
  Inv X pins σ H' { s with heap := h', gens := g', drawn := d', toks := t' } := by
 obtain ⟨m, ⟨o, es, ep, ho, r⟩, _⟩ := id I.loc
 obtain ⟨sl, hL⟩ := u.any ho I.free fun z => (hch _ z).2.1 rfl
 exact I.step (ch := ch) hch (fun b o hL hb hc e n => u.keep b o e n (fun z => (List.mem_cons.mp (I.stkSub b z)).elim hL hb) hc) (fun b o _ _ hc e n => u.any e n hc) (fun b o hc e n => u.free b o e n hc) (fun b o hc e => u.there b o e hc) u.tups u.frzs u.tbls (fun m' hm => by
  obtain ⟨o', es', ep', ho', r'⟩ := hm
  rw [ho] at ho'; cases ho'
  exact ⟨_, es', ep', hL, r'⟩) hok hg
theorem Inv.turned {t' : Nat} {it : Addr} (I : Inv X pins σ H s) (k : ∀ b o, b ≠ it -> s.heap.get? b = some o -> h'.get? b = some o) (hn : H it = none) (hL : it ≠ X.env.locals)
  (h1 : it ∈ X.ex ∨ X.s₀.heap.objs.size <= it) (h2 : ∀ x c, X.env.cells.lookup x = some c -> c ≠ it) (h3 : ∀ p ∈ X.pn ++ pins, p.1 ≠ it) : Inv X pins σ H { s with heap := h', toks := t' } := by
 have nit : ∀ b u, H b = some u -> b ≠ it := fun b u e z => by rw [z, hn] at e; cases e
 refine I.step (g' := s.gens) (d' := s.drawn) (ch := [it]) (fun b hb => ?_) (fun b o _ _ hc e _ => k b o (fun z => hc (by simp [z])) e) (fun b o _ _ hc e _ => ⟨o.slots, k b o (fun z => hc (by simp [z])) e⟩) (fun _ _ _ _ n => n)
  (fun b o hc e => ⟨o, k b o (fun z => hc (by simp [z])) e⟩) (fun _ _ e => e) (fun _ _ _ e => e) (fun b ps e => ⟨#[], by rw [e]; simp⟩) (fun m hm => ?_) (fun b u e => ?_) I.bare
 ·have e : b = it := by simpa using hb
  subst e
  exact ⟨h1, hL, h2, h3⟩
 ·obtain ⟨o, es, ep, ho, r⟩ := hm
  exact ⟨o, es, ep, k _ o (Ne.symm hL) ho, r⟩
 ·refine (I.hok b u e).stay (fun c v hc q => k c v ?_ q) (fun _ q => q) fun _ _ q => q
  rcases hc with z | z
  ·rw [z]; exact nit b u e
  ·exact nit c _ z
theorem Inv.tok (I : Inv X pins σ H s) (t : Nat) : Inv X pins σ H { s with toks := t } := I.un (h' := s.heap) (t' := t) Un.refl I.hok
theorem Inv.kept {t' : Nat} (I : Inv X pins σ H s) (k : ∀ b u, s.heap.get? b = some u -> h'.get? b = some u) : Inv X pins σ H { s with heap := h', toks := t' } := I.un (Un.kept k) (I.hok.kept k)
theorem Inv.laid {a : Addr} {o : HO} {t' : Nat} (I : Inv X pins σ H s) (k : ∀ b u, s.heap.get? b = some u -> h'.get? b = some u) (hp : s.heap.objs.size <= a) (new : ObjOk X.prog X.w (upd H a o) h' a o) :
  Inv X pins σ (upd H a o) { s with heap := h', toks := t' } := I.un (Un.laid k hp (I.hok.fresh hp)) (I.hok.laid k hp new)
theorem Inv.write {x e : Addr} {o : HO} {t' : Nat} (I : Inv X pins σ H s) (mu : Mut (H x)) (he : e = x ∨ H e = some (.own x)) (k : ∀ b u, b ≠ e -> s.heap.get? b = some u -> h'.get? b = some u) (heo : ∃ u, h'.get? e = some u)
  (new : ObjOk X.prog X.w (upd H x o) h' x o) : Inv X pins σ (upd H x o) { s with heap := h', toks := t' } := I.un (Un.write mu he k heo) (I.hok.write mu he k heo new)
theorem Inv.pins_of {pins' : List (Addr × Obj)} (I : Inv X pins σ H s) (h : ∀ p ∈ pins', s.heap.get? p.1 = some p.2 /\ H p.1 = none /\ p.1 ≠ X.env.locals /\ p.1 ∉ X.fs /\ ∀ v, p.2.data ≠ .cell v) : Inv X pins' σ H s :=
 ⟨I.ok, I.os, I.bare, I.base, I.loc, I.cell, I.free, I.freeC, fun p hp => (List.mem_append.mp hp).elim (fun z => I.pin p (List.mem_append_left _ z)) (h p), I.hok, I.len⟩
theorem nodup_ix {N : List Str} (hN : N.Nodup) {i j : Nat} {x : Str} (a : N[i]? = some x) (b : N[j]? = some x) : i = j := by
 obtain ⟨h1, e1⟩ := List.getElem?_eq_some_iff.mp a
 obtain ⟨h2, e2⟩ := List.getElem?_eq_some_iff.mp b
 exact (List.getElem_inj hN).mp (e1.trans e2.symm)
theorem store_ok2 {M : Model} {A : Around} {E : Value -> Shared -> Prop} {i : Nat} {x : Str} {v : V} {u : Value} {Q : Unit -> Shared -> Prop} (I : Inv X pins σ H s) (hN : X.N.Nodup) (hi : X.N[i]? = some x) (hx : Loc X.env.scope x) (r : RelV v u)
  (h : ∀ s', Inv X pins (σ.set i (some v)) H s' -> (∃ a, Heap.SameBut a s.heap s'.heap /\ (a = X.env.locals ∨ X.env.cells.lookup x = some a)) -> Q () s') (hf : X.fn x = true ∨ X.env.scope.names.lookup x = some .local := by first | exact .inl rfl | exact .inr rfl | assumption) : wpAny M A (storeName X.env x u) Q E s := by
 obtain ⟨m, hn, hl⟩ := id I.loc
 have hcls : (X.env.scope.kind == .class || (X.env.scope.kind == .module && X.env.locals != X.env.globals)) = false := by rw [I.ok.kind]; rfl
 have hiσ : i < σ.length := by rw [I.len]; exact (List.getElem?_eq_some_iff.mp hi).1
 have cne := I.cne
 have tracked : ∀ {a : Addr} {h' : Heap}, (∃ o, s.heap.get? a = some o /\ H a = none) -> Heap.SameBut a s.heap h' -> HOk X.prog X.w H h' := fun {a h'} ha hs b ob e => by
  obtain ⟨_, _, hfree⟩ := ha
  refine (I.hok b ob e).stay (fun c w' hc q => (hs.2 c ?_).trans q) (fun _ q => q) fun _ _ q => q
  rintro rfl
  rcases hc with rfl | hc
  ·rw [hfree] at e; cases e
  ·rw [hfree] at hc; cases hc
 rcases hx with hk | hk
 ·refine wpAny_storeName_local hk hn (fun h' hn' hs => ?_) hcls
  obtain ⟨oL, _, _, hoL, _⟩ := id hn
  refine h _ ⟨I.ok, I.os, I.bare, ⟨fun b o e n hb hx => ?_, fun b o e n hb hx => ?_, I.base.free, fun b o e hx => ?_, I.base.tups, I.base.frzs, I.base.tbls⟩, ⟨_, hn', fun j y v' e1 e2 e3 => ?_⟩, fun y c e => ?_, I.free, I.freeC, fun p hp => ?_, tracked ⟨oL, hoL, I.free⟩ hs, by simpa using I.len⟩ ⟨_, hs, .inl rfl⟩
  ·exact (hs.2 b (Nat.ne_of_lt (Nat.lt_of_lt_of_le (Heap.lt_size e) I.ok.above))).trans (I.base.keep b o e n hb hx)
  ·obtain ⟨sl, e1⟩ := I.base.slot b o e n hb hx
   exact ⟨sl, (hs.2 b (Nat.ne_of_lt (Nat.lt_of_lt_of_le (Heap.lt_size e) I.ok.above))).trans e1⟩
  ·obtain ⟨o', e1⟩ := I.base.there b o e hx
   exact ⟨o', (hs.2 b (Nat.ne_of_lt (Nat.lt_of_lt_of_le (Heap.lt_size e) I.ok.above))).trans e1⟩
  ·by_cases hj : j = i
   ·subst hj
    rw [hi] at e1; cases e1
    rw [List.getElem?_set_self hiσ] at e2
    cases e2
    exact ⟨u, r, .inl ⟨hk, by simp⟩⟩
   ·rw [List.getElem?_set_ne (Ne.symm hj)] at e2
    obtain ⟨u', r', q⟩ := hl j y v' e1 e2 e3
    refine ⟨u', r', ?_⟩
    rcases q with ⟨k, e⟩ | ⟨k, c, e, z⟩
    ·refine .inl ⟨k, ?_⟩
     have : y ≠ x := fun e => hj (nodup_ix hN e1 (e ▸ hi))
     simp [this, e]
    ·exact .inr ⟨k, c, e, z.sameBut hs (cne y c e)⟩
  ·obtain ⟨w', z⟩ := I.cell y c e
   exact ⟨w', z.sameBut hs (cne y c e)⟩
  ·obtain ⟨e, n, ne, nf, d⟩ := I.pin p hp
   exact ⟨(hs.2 p.1 ne).trans e, n, ne, nf, d⟩
 ·have hfn : X.fn x = true := by
   rcases hf with z | z
   ·exact z
   ·rw [z] at hk; cases hk
  obtain ⟨c, hc⟩ := I.ok.has x (.inl hk)
  obtain ⟨w', z⟩ := I.cell x c hc
  refine wpAny_storeName_cell I.ok.kind hk hc z (fun h' hc' hs => ?_)
  obtain ⟨oc, hoc, hocd⟩ := id z
  refine h { s with heap := h' } ⟨I.ok, I.os, I.bare, ⟨fun b o e n hb hx => ?_, fun b o e n hb hx => ?_, I.base.free, fun b o e hx => ?_, I.base.tups, I.base.frzs, I.base.tbls⟩, ⟨m, hn.sameBut hs (Ne.symm (cne x c hc)), fun j y v' e1 e2 e3 => ?_⟩, fun y c' e => ?_, I.free, I.freeC, fun p hp => ?_, tracked ⟨oc, hoc, I.freeC x c hc⟩ hs, by simpa using I.len⟩ ⟨c, hs, .inr hc⟩
  ·exact (hs.2 b (Nat.ne_of_lt (Nat.lt_of_lt_of_le (Heap.lt_size e) (I.ok.cab x c hfn hc)))).trans (I.base.keep b o e n hb hx)
  ·obtain ⟨sl, e1⟩ := I.base.slot b o e n hb hx
   exact ⟨sl, (hs.2 b (Nat.ne_of_lt (Nat.lt_of_lt_of_le (Heap.lt_size e) (I.ok.cab x c hfn hc)))).trans e1⟩
  ·obtain ⟨o', e1⟩ := I.base.there b o e hx
   exact ⟨o', (hs.2 b (Nat.ne_of_lt (Nat.lt_of_lt_of_le (Heap.lt_size e) (I.ok.cab x c hfn hc)))).trans e1⟩
  ·by_cases hj : j = i
   ·subst hj
    rw [hi] at e1; cases e1
    rw [List.getElem?_set_self hiσ] at e2
    cases e2
    exact ⟨u, r, .inr ⟨.inl hk, c, hc, hc'⟩⟩
   ·rw [List.getElem?_set_ne (Ne.symm hj)] at e2
    obtain ⟨u', r', q⟩ := hl j y v' e1 e2 e3
    refine ⟨u', r', ?_⟩
    rcases q with q | ⟨k, c', e, z'⟩
    ·exact .inl q
    ·refine .inr ⟨k, c', e, z'.sameBut hs ?_⟩
     rintro rfl
     exact hj (nodup_ix hN e1 (I.ok.inj _ _ _ e hc ▸ hi))
  ·by_cases hcc : c' = c
   ·subst hcc; exact ⟨_, hc'⟩
   ·obtain ⟨w2, z2⟩ := I.cell y c' e
    exact ⟨w2, z2.sameBut hs hcc⟩
  ·obtain ⟨e, n, ne, nf, d⟩ := I.pin p hp
   refine ⟨(hs.2 p.1 ?_).trans e, n, ne, nf, d⟩
   intro q
   rw [q, hoc] at e
   have q' : oc = p.2 := Option.some.inj e
   exact d w' (by rw [<- q']; exact hocd)
theorem store_ok {M : Model} {A : Around} {E : Value -> Shared -> Prop} {i : Nat} {x : Str} {v : V} {u : Value} {Q : Unit -> Shared -> Prop} (I : Inv X pins σ H s) (hN : X.N.Nodup) (hi : X.N[i]? = some x) (hx : Loc X.env.scope x) (r : RelV v u)
  (h : ∀ s', Inv X pins (σ.set i (some v)) H s' -> Q () s') (hf : X.fn x = true ∨ X.env.scope.names.lookup x = some .local := by first | exact .inl rfl | exact .inr rfl | assumption) : wpAny M A (storeName X.env x u) Q E s :=
 store_ok2 I hN hi hx r (fun s' I' _ => h s' I') hf
theorem Inv.call' {s' : Shared} {ch : List Addr} (I : Inv X pins σ H s) (ho : s'.os = s.os) (u : Un (frs X.stack) ch H H' s.heap s'.heap) (hok : HOk X.prog X.w H' s'.heap) (hg : AllBare s'.gens)
  (hch : ∀ b ∈ ch, (b ∈ X.ex ∨ X.s₀.heap.objs.size <= b) /\ b ≠ X.env.locals /\ (∀ x c, X.env.cells.lookup x = some c -> c ≠ b) /\ ∀ p ∈ X.pn ++ pins, p.1 ≠ b) : Inv X pins σ H' s' := by
 obtain ⟨h', g', d', t', o'⟩ := s'
 have e : o' = s.os := ho
 subst e
 exact I.call (g' := g') (t' := t') (d' := d') u hok hg hch
end
abbrev XK := Value -> Option Addr -> Hp -> Prop
abbrev St := List (Option V)
abbrev VK := V -> Hp -> Prop
abbrev TE := St -> Hp -> VK -> Prop
abbrev TT := St -> Hp -> (Bool -> Hp -> Prop) -> Prop
abbrev TA := St -> Hp -> (List V -> Hp -> Prop) -> Prop
structure Ends where
 nx : St -> Hp -> Prop
 rt : VK
 bk : St -> Hp -> Prop := fun _ _ => False
 ct : St -> Hp -> Prop := fun _ _ => False
abbrev TS := Ends -> St -> Hp -> Prop
noncomputable def EP (X : Cx) (pins : List (Addr × Obj)) (σ : St) (Q : VK) (u : Value) (s' : Shared) : Prop := ∃ v H', Inv X pins σ H' s' /\ RelV v u /\ Q v H'
noncomputable def TP (X : Cx) (pins : List (Addr × Obj)) (σ : St) (Q : Bool -> Hp -> Prop) (b : Bool) (s' : Shared) : Prop := ∃ H', Inv X pins σ H' s' /\ Q b H'
noncomputable def AP (X : Cx) (pins : List (Addr × Obj)) (σ : St) (Q : List V -> Hp -> Prop) (us : List Value) (s' : Shared) : Prop := ∃ vs H', Inv X pins σ H' s' /\ Vals vs us /\ Q vs H'
noncomputable def SP (X : Cx) (pins : List (Addr × Obj)) (D : Ends) (f : Flow) (s' : Shared) : Prop :=
 match f with
 | .next => ∃ σ' H', Inv X pins σ' H' s' /\ D.nx σ' H'
 | .brk => ∃ σ' H', Inv X pins σ' H' s' /\ D.bk σ' H'
 | .cont => ∃ σ' H', Inv X pins σ' H' s' /\ D.ct σ' H'
 | .ret u => ∃ v σ' H', Inv X pins σ' H' s' /\ RelV v u /\ D.rt v H'
noncomputable def PE (X : Cx) (e : Expr) (t : TE) : Prop :=
 ∀ (pins : List (Addr × Obj)) (s : Shared) (σ : St) (H : Hp) (Q : VK), Inv X pins σ H s -> t σ H Q -> wpAny (model X.prog X.w) X.A (eval e X.env) (EP X pins σ Q) X.xe s
noncomputable def PT (X : Cx) (e : Expr) (t : TT) : Prop :=
 ∀ (pins : List (Addr × Obj)) (s : Shared) (σ : St) (H : Hp) (Q : Bool -> Hp -> Prop), Inv X pins σ H s -> t σ H Q -> wpAny (model X.prog X.w) X.A (isTrue e X.env (eval e X.env)) (TP X pins σ Q) X.xe s
noncomputable def PW (X : Cx) (e : Expr) (t : TT) : Prop :=
 ∀ (whole : Sem Value) (pins : List (Addr × Obj)) (s : Shared) (σ : St) (H : Hp) (Q : Bool -> Hp -> Prop), Inv X pins σ H s -> t σ H Q -> wpAny (model X.prog X.w) X.A (isTrue e X.env whole) (TP X pins σ Q) X.xe s
theorem PW.pt {X : Cx} {e : Expr} {t : TT} (h : PW X e t) : PT X e t := h _
noncomputable def PA (X : Cx) (es : List Expr) (t : TA) : Prop :=
 ∀ (pos : Pos) (pins : List (Addr × Obj)) (s : Shared) (σ : St) (H : Hp) (Q : List V -> Hp -> Prop), Inv X pins σ H s -> t σ H Q -> wpAny (model X.prog X.w) X.A (spliced (backTo pos (starEach es X.env))) (AP X pins σ Q) X.xe s
noncomputable def PS (X : Cx) (st : Stmt) (t : TS) : Prop :=
 ∀ (pins : List (Addr × Obj)) (s : Shared) (σ : St) (H : Hp) (D : Ends), Inv X pins σ H s -> t D σ H -> wpAny (model X.prog X.w) X.A (exec st X.env) (SP X pins D) X.xe s
noncomputable def PSs (X : Cx) (st : List Stmt) (t : TS) : Prop :=
 ∀ (pins : List (Addr × Obj)) (s : Shared) (σ : St) (H : Hp) (D : Ends), Inv X pins σ H s -> t D σ H -> wpAny (model X.prog X.w) X.A (execs st X.env) (SP X pins D) X.xe s
theorem thn {α : Type} {t : Sem α} {Q Q' : α -> Shared -> Prop} {M : Model} {A : Around} {E : Value -> Shared -> Prop} {s : Shared} (h : wpAny M A t Q E s) (hQ : ∀ a s, Q a s -> Q' a s) : wpAny M A t Q' E s := wpAny_mono h hQ fun _ _ x => x
end L2
namespace L2
open PySem PySem.Spec PyProof.Rows
section
variable {X : Cx}
noncomputable def tVar (i : Nat) : TE := fun σ H Q => ∃ v, σ[i]? = some (some v) /\ Q v H
noncomputable def tC (v : V) : TE := fun _ H Q => Q v H
theorem pe_var {i : Nat} {x : Str} {pos : Pos} (hN : X.N[i]? = some x) (hv : Vis X.env.scope x) (hd : (x == ("__debug__" : Str)) = false := by decide) (hcd : (x == ("__classdict__" : Str)) = false := by decide) : PE X (.Name x pos) (tVar i) := by
 intro pins s σ H Q I h
 obtain ⟨v, e, h⟩ := h
 obtain ⟨m, hn, hl⟩ := I.loc
 obtain ⟨u, r, l⟩ := hl i x v hN e hv
 have fin : EP X pins σ Q u s := ⟨v, H, I, r, h⟩
 rcases l with ⟨hk, hm⟩ | ⟨hk, c, hc, hcell⟩
 ·exact wpAny_Name (wpAny_loadName_local I.ok.kind hk hn hm fin) hd
 ·rcases hk with hk | hk
  ·exact wpAny_Name (wpAny_loadName_cell I.ok.kind hk hc hcell fin) hd
  ·exact wpAny_Name (wpAny_loadName_free I.ok.kind hk hc hcell fin hcd) hd
theorem pe_int {i j pos} : PE X (.Constant (.int i) j pos) (tC (.int i)) := fun _ _ _ H _ I h => wpAny_Constant_int ⟨.int i, H, I.tok _, ⟨_, rfl⟩, h⟩
theorem pe_bl {b j pos} : PE X (.Constant (.bool b) j pos) (tC (.bl b)) := fun _ _ _ H _ I h => Constant_bool ⟨.bl b, H, I, rfl, h⟩
theorem pe_str {x j pos} : PE X (.Constant (.str x) j pos) (tC (.str x)) := fun _ _ _ H _ I h => Calls.Constant_str ⟨.str x, H, I.tok _, ⟨_, rfl⟩, h⟩
noncomputable def Gl (X : Cx) (x : Str) : Prop := X.env.kindOf x = some .globalImplicit
theorem ld_glob {E : Value -> Shared -> Prop} {pins : List (Addr × Obj)} {s : Shared} {σ : St} {H : Hp} {x : Str} {u : Value} {pos : Pos} {Q : Value -> Shared -> Prop} (I : Inv X pins σ H s) (hg : Gl X x) (hm : X.mg x = some u) (h : Q u s)
  (hd : (x == ("__debug__" : Str)) = false := by decide) : wpAny (model X.prog X.w) X.A (eval (.Name x pos) X.env) Q E s :=
 Calls.Name_function_global I.ok.kind hg (Calls.loadGlobal_global (by rw [I.ok.glob]; exact I.mod.glob.keeps I.bk) hm h) hd
theorem ld_blt {E : Value -> Shared -> Prop} {pins : List (Addr × Obj)} {s : Shared} {σ : St} {H : Hp} {x : Str} {u : Value} {pos : Pos} {Q : Value -> Shared -> Prop} (I : Inv X pins σ H s) (hg : Gl X x) (hm : X.mg x = none) (hv : bootBuiltins x = some u) (h : Q u s)
  (hn : x ≠ "__name__" := by decide) (hd : (x == ("__debug__" : Str)) = false := by decide) : wpAny (model X.prog X.w) X.A (eval (.Name x pos) X.env) Q E s := by
 obtain ⟨mb, h1, h2⟩ := I.mod.blt
 exact Calls.Name_function_global I.ok.kind hg (Calls.loadGlobal_builtin (by rw [I.ok.glob]; exact I.mod.glob.keeps I.bk) hm (by rw [I.ok.blt]; exact h1.keeps I.bk) ((h2 x hn).trans hv) h) hd
theorem pe_glob {x : Str} {v : V} {u : Value} {pos : Pos} (hg : Gl X x) (hm : X.mg x = some u) (r : RelV v u) (hd : (x == ("__debug__" : Str)) = false := by decide) : PE X (.Name x pos) (tC v) :=
 fun _ _ _ H _ I h => ld_glob I hg hm ⟨v, H, I, r, h⟩ hd
theorem pe_bltn {x : Str} {v : V} {u : Value} {pos : Pos} (hg : Gl X x) (hm : X.mg x = none) (hv : bootBuiltins x = some u) (r : RelV v u) (hn : x ≠ "__name__" := by decide) (hd : (x == ("__debug__" : Str)) = false := by decide) : PE X (.Name x pos) (tC v) :=
 fun _ _ _ H _ I h => ld_blt I hg hm hv ⟨v, H, I, r, h⟩ hn hd
variable {a b : Expr} {ta tb : TE} {pos : Pos}
noncomputable def tB (t : TE) : TT := fun σ H Q => t σ H fun x H1 => ∃ c, x = .bl c /\ Q c H1
theorem pt_val {e : Expr} {t : TE} (h : PE X e t) (he : ∀ whole, isTrue e X.env whole = (do let v <- whole; standAt e.pos; holding [v] (truthy v)) := by intro _; rfl) : PT X e (tB t) := by
 intro pins s σ H Q I hw
 refine isTrue_plain (thn (h pins s σ H _ I hw) fun v s1 ⟨x, H1, I1, r1, q1⟩ => ?_) (he _)
 obtain ⟨d, rfl, q⟩ := q1
 cases r1
 exact wpAny_truthy_bool ⟨H1, I1, q⟩
variable {tA tB' : TT} {rest : List Expr}
noncomputable def tAnd (t u : TT) : TT := fun σ H Q => t σ H fun c H1 => if c = true then u σ H1 Q else Q false H1
noncomputable def tOr (t u : TT) : TT := fun σ H Q => t σ H fun c H1 => if c = true then Q true H1 else u σ H1 Q
noncomputable def tNot (t : TT) : TT := fun σ H Q => t σ H fun c H1 => Q (!c) H1
theorem pw_and1 (ha : PT X a tA) : PW X (.BoolOp .And [a] pos) tA := by
 intro wh pins s σ H Q I h
 refine isTrue_and (thn (ha pins s σ H Q I h) fun c s1 e => ?_)
 cases c with
 | true => exact isTrue_and_nil e
 | false => exact e
theorem pw_or1 (ha : PT X a tA) : PW X (.BoolOp .Or [a] pos) tA := by
 intro wh pins s σ H Q I h
 refine isTrue_or (thn (ha pins s σ H Q I h) fun c s1 e => ?_)
 cases c with
 | false => exact isTrue_or_nil e
 | true => exact e
theorem pw_and (ha : PT X a tA) (hb : PW X (.BoolOp .And (b :: rest) pos) tB') : PW X (.BoolOp .And (a :: b :: rest) pos) (tAnd tA tB') := by
 intro wh pins s σ H Q I h
 refine isTrue_and (thn (ha pins s σ H _ I h) fun c s1 zz => ?_)
 obtain ⟨H1, I1, q1⟩ := zz
 cases c with
 | true => exact hb wh pins s1 σ H1 Q I1 q1
 | false => exact ⟨H1, I1, q1⟩
theorem pw_or (ha : PT X a tA) (hb : PW X (.BoolOp .Or (b :: rest) pos) tB') : PW X (.BoolOp .Or (a :: b :: rest) pos) (tOr tA tB') := by
 intro wh pins s σ H Q I h
 refine isTrue_or (thn (ha pins s σ H _ I h) fun c s1 zz => ?_)
 obtain ⟨H1, I1, q1⟩ := zz
 cases c with
 | true => exact ⟨H1, I1, q1⟩
 | false => exact hb wh pins s1 σ H1 Q I1 q1
theorem pt_not (ha : PT X a tA) : PT X (.UnaryOp .Not a pos) (tNot tA) := by
 intro pins s σ H Q I h
 exact isTrue_not (ha pins s σ H (fun c H1 => Q (!c) H1) I h)
noncomputable def tAndV (ta tb : TE) : TE := fun σ H Q => ta σ H fun x H1 => ∃ c, x = .bl c /\ if c = true then tb σ H1 Q else Q (.bl false) H1
noncomputable def tNotV (ta : TE) : TE := fun σ H Q => ta σ H fun x H1 => ∃ c, x = .bl c /\ Q (.bl (!c)) H1
theorem pe_one {op} {t : TE} (h : PE X a t) : PE X (.BoolOp op [a] pos) t := fun pins s σ H Q I hw => BoolOp_one (h pins s σ H Q I hw)
theorem pe_and (ha : PE X a ta) (hb : PE X (.BoolOp .And (b :: rest) pos) tb) : PE X (.BoolOp .And (a :: b :: rest) pos) (tAndV ta tb) := by
 intro pins s σ H Q I h
 refine BoolOp_and (thn (ha pins s σ H _ I h) fun v s1 zz => ?_)
 obtain ⟨x, H1, I1, r1, q1⟩ := zz
 obtain ⟨c, rfl, q1⟩ := q1
 cases r1
 refine wpAny_truthy_bool ?_
 cases c with
 | true => exact hb pins s1 σ H1 Q I1 q1
 | false => exact ⟨.bl false, H1, I1, rfl, q1⟩
theorem pe_not (ha : PE X a ta) : PE X (.UnaryOp .Not a pos) (tNotV ta) := by
 intro pins s σ H Q I h
 refine UnaryOp_ (thn (ha pins s σ H _ I h) fun v s1 zz => ?_)
 obtain ⟨x, H1, I1, r1, q1⟩ := zz
 obtain ⟨c, rfl, q1⟩ := q1
 cases r1
 exact not_of (wpAny_truthy_bool ⟨.bl (!c), H1, I1, rfl, q1⟩)
noncomputable def tIf (t : TT) (ta tb : TE) : TE := fun σ H Q => t σ H fun c H1 => if c = true then ta σ H1 Q else tb σ H1 Q
theorem pe_ifExp {c : Expr} (hc : PT X c tA) (ha : PE X a ta) (hb : PE X b tb) : PE X (.IfExp c a b pos) (tIf tA ta tb) := by
 intro pins s σ H Q I h
 refine wpAny_IfExp (thn (hc pins s σ H _ I h) fun d s1 zz => ?_)
 obtain ⟨H1, I1, q1⟩ := zz
 cases d with
 | true => exact ha pins s1 σ H1 Q I1 q1
 | false => exact hb pins s1 σ H1 Q I1 q1
end
end L2
namespace L2
open PySem PySem.Spec PyProof.Rows
noncomputable def SqL (K : PySem.W.Frag) (H : Hp) (a : Addr) (xs : List V) : Prop :=
 Rd H a (.lst xs) ∨
  ∃ (o : Obj) (its : Array Value) (n : Nat), K.lookup a = some o /\ o.cls = .type "list" /\ o.dict = none /\ o.data = .seq its n /\ its.size <= sizeLine /\ Vals xs its.toList
noncomputable def SqT (K : PySem.W.Frag) (H : Hp) (a : Addr) (xs : List V) : Prop :=
 Rd H a (.tup xs) ∨
  ∃ (o : Obj) (its : Array Value) (n : Nat), K.lookup a = some o /\ o.cls = .type "tuple" /\ o.data = .seq its n /\ its.size <= sizeLine /\ Vals xs its.toList
noncomputable def absV : Value -> Option V
 | .none => some .non
 | .bool b => some (.bl b)
 | .int i _ => some (.int i)
 | .str x _ => some (.str x)
 | .bytes b _ => some (.byt b)
 | .float b _ => some (.flt b)
 | .ref a => some (.ref a)
 | .type n => some (.ty n)
 | _ => none
theorem RelV.abs {x : V} {u : Value} (r : RelV x u) : absV u = some x := by
 cases x with
 | non => cases r; rfl
 | bl _ => cases r; rfl
 | int _ => obtain ⟨t, rfl⟩ := r; rfl
 | str _ => obtain ⟨t, rfl⟩ := r; rfl
 | byt _ => obtain ⟨t, rfl⟩ := r; rfl
 | flt _ => obtain ⟨t, rfl⟩ := r; rfl
 | ref _ => cases r; rfl
 | ty _ => cases r; rfl
theorem RelV.inj {x y : V} {u : Value} (r : RelV x u) (q : RelV y u) : x = y := Option.some.inj (r.abs.symm.trans q.abs)
theorem Vals.inj : ∀ {xs ys : List V} {us : List Value}, Vals xs us -> Vals ys us -> xs = ys
 | _, _, _, .nil, .nil => rfl
 | _, _, _, .cons r t, .cons r' t' => by rw [r.inj r', Vals.inj t t']
section
variable {X : Cx} {pins : List (Addr × Obj)} {σ : St} {H : Hp} {s : Shared} {a : Addr} {xs ys : List V}
theorem SqL.of {K : PySem.W.Frag} (h : H a = some (.lst xs)) : SqL K H a xs := .inl (.inl h)
theorem Inv.list (I : Inv X pins σ H s) (h : SqL X.K H a xs) : ∃ its : List Value, Vals xs its /\ PlainL s.heap a its.toArray /\ xs.length <= sizeLine := by
 rcases h with h | ⟨o, its, n, hk, hc, hd, hs, hz, r⟩
 ·obtain ⟨z, its, n, r, e⟩ := h.ok I.hok
  exact ⟨its, r, ⟨_, n, e, rfl, rfl, rfl⟩, z⟩
 ·refine ⟨its.toList, r, ⟨o, n, I.kIn a o hk, hc, hd, by simpa using hs⟩, ?_⟩
  have e := r.length
  simp only [Array.length_toList] at e
  lia
theorem Inv.tuple (I : Inv X pins σ H s) (h : SqT X.K H a xs) : ∃ its : List Value, Vals xs its /\ IsTup s.heap a its.toArray /\ xs.length <= sizeLine := by
 rcases h with h | ⟨o, its, n, hk, hc, hs, hz, r⟩
 ·obtain ⟨z, its, r, p⟩ := h.ok I.hok
  exact ⟨its, r, p, z⟩
 ·refine ⟨its.toList, r, ⟨o, I.kIn a o hk, hc, n, by simpa using hs⟩, ?_⟩
  have e := r.length
  simp only [Array.length_toList] at e
  lia
theorem Inv.list_inj (I : Inv X pins σ H s) (h : SqL X.K H a xs) (h' : SqL X.K H a ys) : xs = ys := by
 obtain ⟨its, r, ⟨o, n, e, _, _, d⟩, _⟩ := I.list h
 obtain ⟨its', r', ⟨o', n', e', _, _, d'⟩, _⟩ := I.list h'
 rw [e] at e'; cases e'
 rw [d] at d'
 injection d' with d1 _
 have : its = its' := by simpa using congrArg Array.toList d1
 subst this
 exact r.inj r'
theorem Inv.tuple_inj (I : Inv X pins σ H s) (h : SqT X.K H a xs) (h' : SqT X.K H a ys) : xs = ys := by
 obtain ⟨its, r, ⟨o, e, _, n, d⟩, _⟩ := I.tuple h
 obtain ⟨its', r', ⟨o', e', _, n', d'⟩, _⟩ := I.tuple h'
 rw [e] at e'; cases e'
 rw [d] at d'
 injection d' with d1 _
 have : its = its' := by simpa using congrArg Array.toList d1
 subst this
 exact r.inj r'
end
abbrev Cx.wish (X : Cx) (E : Value -> Shared -> Prop) : Cx := { X with xe := E }
abbrev Cx.nox (X : Cx) : Cx := X.wish fun _ _ => False
theorem Cx.Ok.wish {X : Cx} (ok : X.Ok) (E : Value -> Shared -> Prop) : (X.wish E).Ok :=
 ⟨ok.mod, ok.kind, ok.glob, ok.blt, ok.above, ok.inj, ok.has, ok.cab, ok.hd, ok.frames, ok.stk, ok.exf, ok.bs, ok.bsz, ok.noex, ok.exfs, ok.funs, ok.frf⟩
theorem Cx.Ok.unwish {X : Cx} {E : Value -> Shared -> Prop} (ok : (X.wish E).Ok) : X.Ok :=
 ⟨ok.mod, ok.kind, ok.glob, ok.blt, ok.above, ok.inj, ok.has, ok.cab, ok.hd, ok.frames, ok.stk, ok.exf, ok.bs, ok.bsz, ok.noex, ok.exfs, ok.funs, ok.frf⟩
section
variable {X : Cx} {pins : List (Addr × Obj)} {σ : St} {H : Hp} {s : Shared} {E : Value -> Shared -> Prop}
theorem Inv.wish (I : Inv X pins σ H s) (E : Value -> Shared -> Prop) : Inv (X.wish E) pins σ H s := ⟨I.ok.wish E, I.os, I.bare, I.base, I.loc, I.cell, I.free, I.freeC, I.pin, I.hok, I.len⟩
theorem Inv.unwish (I : Inv (X.wish E) pins σ H s) : Inv X pins σ H s := ⟨I.ok.unwish, I.os, I.bare, I.base, I.loc, I.cell, I.free, I.freeC, I.pin, I.hok, I.len⟩
theorem SP.unwish {D : Ends} {f : Flow} {s' : Shared} (h : SP (X.wish E) pins D f s') : SP X pins D f s' := by
 cases f with
 | next => obtain ⟨σ', H', I, q⟩ := h; exact ⟨σ', H', I.unwish, q⟩
 | brk => obtain ⟨σ', H', I, q⟩ := h; exact ⟨σ', H', I.unwish, q⟩
 | cont => obtain ⟨σ', H', I, q⟩ := h; exact ⟨σ', H', I.unwish, q⟩
 | ret u => obtain ⟨v, σ', H', I, r, q⟩ := h; exact ⟨v, σ', H', I.unwish, r, q⟩
theorem PSs.nox {st : List Stmt} {t : TS} (h : PSs X.nox st t) : PSs X st t := fun pins s σ H D I hw =>
 wpAny_mono (h pins s σ H D (I.wish _) hw) (fun _ _ q => q.unwish) fun _ _ z => False.elim z
end
section
variable {X : Cx} {st : Stmt} {rest : List Stmt} {t u : TS} {e : Expr} {te : TE} {pos : Pos}
noncomputable def tNext : TS := fun D σ H => D.nx σ H
noncomputable def tSeq (t u : TS) : TS := fun D σ H => t { D with nx := u D } σ H
theorem pss_nil : PSs X [] tNext := fun _ _ σ H _ I h => wpAny_execs_nil ⟨σ, H, I, h⟩
theorem pss_cons (h1 : PS X st t) (h2 : PSs X rest u) : PSs X (st :: rest) (tSeq t u) := by
 intro pins s σ H D I h
 refine wpAny_execs_cons (thn (h1 pins s σ H { D with nx := u D } I h) fun f s1 q => ?_)
 cases f with
 | next =>
  obtain ⟨σ', H', I', q⟩ := q
  exact h2 pins s1 σ' H' D I' q
 | ret v => exact q
 | brk => exact q
 | cont => exact q
theorem pss_one (h1 : PS X st t) : PSs X [st] t := by
 intro pins s σ H D I h
 refine wpAny_execs_cons (thn (h1 pins s σ H D I h) fun f s1 q => ?_)
 cases f with
 | next => exact wpAny_execs_nil q
 | ret v => exact q
 | brk => exact q
 | cont => exact q
theorem Inv.quiet {pins : List (Addr × Obj)} {σ : St} {H : Hp} {s : Shared} (I : Inv X pins σ H s) : interactive X.env = false := by simp [interactive, I.ok.kind]
noncomputable def tDrop (te : TE) : TS := fun D σ H => te σ H fun _ H1 => D.nx σ H1
theorem ps_expr (he : PE X e te) (hs : swapsWith e none pos.line X.env = pure false := by rfl) : PS X (.Expr e pos) (tDrop te) := by
 intro pins s σ H D I h
 exact wpAny_Expr_any (thn (he pins s σ H _ I h) fun v s1 ⟨x, H1, I1, r1, q1⟩ => ⟨σ, H1, I1, q1⟩) I.quiet hs
noncomputable def tRet (te : TE) : TS := fun D σ H => te σ H D.rt
theorem ps_ret (he : PE X e te) : PS X (.Return (some e) pos) (tRet te) := by
 intro pins s σ H D I h
 exact wpAny_Return_some (thn (he pins s σ H _ I h) fun v s1 ⟨x, H1, I1, r1, q1⟩ => ⟨x, σ, H1, I1, r1, q1⟩)
noncomputable def tIfS (c : TT) (t u : TS) : TS := fun D σ H => c σ H fun b H1 => if b = true then t D σ H1 else u D σ H1
theorem ps_if {c : Expr} {a b : List Stmt} {tc : TT} (hc : PT X c tc) (ha : PSs X a t) (hb : PSs X b u) : PS X (.If c a b pos) (tIfS tc t u) := by
 intro pins s σ H D I h
 refine wpAny_If (thn (hc pins s σ H _ I h) fun d s1 zz => ?_)
 obtain ⟨H1, I1, q1⟩ := zz
 cases d with
 | true => exact ha pins s1 σ H1 D I1 q1
 | false => exact hb pins s1 σ H1 D I1 q1
end
abbrev TG := V -> St -> Hp -> (St -> Hp -> Prop) -> Prop
abbrev TGs := List V -> St -> Hp -> (St -> Hp -> Prop) -> Prop
noncomputable def PG (X : Cx) (target : Expr) (t : TG) : Prop :=
 ∀ (pins : List (Addr × Obj)) (s : Shared) (σ : St) (H : Hp) (v : V) (u : Value) (Q : St -> Hp -> Prop), Inv X pins σ H s -> RelV v u -> t v σ H Q ->
  wpAny (model X.prog X.w) X.A (assign target X.env u) (fun _ s' => ∃ σ' H', Inv X pins σ' H' s' /\ Q σ' H') X.xe s
noncomputable def PGs (X : Cx) (ts : List Expr) (t : TGs) : Prop :=
 ∀ (pins : List (Addr × Obj)) (s : Shared) (σ : St) (H : Hp) (vs : List V) (us : List Value) (Q : St -> Hp -> Prop), Inv X pins σ H s -> Vals vs us -> t vs σ H Q ->
  wpAny (model X.prog X.w) X.A (assignInOrder ((assignEach ts X.env).map (·.2)) us) (fun _ s' => ∃ σ' H', Inv X pins σ' H' s' /\ Q σ' H') X.xe s
section
variable {X : Cx} {pos : Pos}
noncomputable def gName (i : Nat) : TG := fun v σ H Q => Q (σ.set i (some v)) H
theorem pg_name {i : Nat} {x : Str} (hN : X.N.Nodup) (hi : X.N[i]? = some x) (hx : Loc X.env.scope x) (hf : X.fn x = true ∨ X.env.scope.names.lookup x = some .local := by first | exact .inl rfl | exact .inr rfl | assumption) : PG X (.Name x pos) (gName i) := by
 intro pins s σ H v u Q I r h
 exact wpAny_assign_Name (store_ok I hN hi hx r (fun s' I' => ⟨_, H, I', h⟩) hf)
noncomputable def gNil : TGs := fun vs σ H Q => vs = [] /\ Q σ H
noncomputable def gCons (t : TG) (u : TGs) : TGs := fun vs σ H Q => ∃ v r, vs = v :: r /\ t v σ H fun σ' H' => u r σ' H' Q
theorem pgs_nil : PGs X [] gNil := by
 intro pins s σ H vs us Q I r h
 obtain ⟨e, h⟩ := h
 subst e
 cases r
 exact assignInOrder_nil ⟨σ, H, I, h⟩
theorem pgs_cons {e : Expr} {es : List Expr} {t : TG} {u : TGs} (h1 : PG X e t) (h2 : PGs X es u)
  (hs : (assignEach (e :: es) X.env).map (·.2) = assign e X.env :: (assignEach es X.env).map (·.2) := by rfl) : PGs X (e :: es) (gCons t u) := by
 intro pins s σ H vs us Q I r h
 obtain ⟨v, vr, e1, h⟩ := h
 subst e1
 cases r with
 | cons r rr =>
  rw [hs]
  refine assignInOrder_cons (thn (h1 pins s σ H _ _ _ I r h) fun _ s1 zz => ?_)
  obtain ⟨σ1, H1, I1, q1⟩ := zz
  exact h2 pins s1 σ1 H1 _ _ Q I1 rr q1
noncomputable def gTup (K : PySem.W.Frag) (n : Nat) (t : TGs) : TG := fun v σ H Q => ∃ a xs, v = .ref a /\ SqT K H a xs /\ xs.length = n /\ t xs σ H Q
theorem pg_tup {es : List Expr} {k : Nat} {t : TGs} {n : Nat} (hc : X.calm = true) (h : PGs X es t)
  (hn : (assignEach es X.env).length = n := by rfl) (hst : (assignEach es X.env).findIdx? (·.1) = none := by rfl) : PG X (.Tuple es k pos) (gTup X.K n t) := by
 intro pins s σ H v u Q I r hw
 obtain ⟨a, xs, e1, hq, hl, hw⟩ := hw
 subst e1
 cases r
 obtain ⟨its, rv, ht, hz⟩ := I.tuple hq
 refine assign_Tuple_tuple (I.ok.hd hc) ht (by simp [hn, <- hl, rv.length]) hst fun h' hx => ?_
 have I1 : Inv X pins σ H { s with heap := h' } := I.kept (t' := s.toks) fun b o e => hx b o (Nat.ne_of_lt (Heap.lt_size e)) e
 exact h pins _ σ H xs _ Q I1 (by simpa using rv) hw
noncomputable def tAsg (te : TE) (g : TG) : TS := fun D σ H => te σ H fun x H1 => g x σ H1 D.nx
theorem ps_set {i : Nat} {x : Str} {e : Expr} {te : TE} {pos' : Pos} (hN : X.N.Nodup) (hi : X.N[i]? = some x) (hx : Loc X.env.scope x) (he : PE X e te) (hs : swapsWith e (some (.Name x pos')) pos.line X.env = pure false := by rfl) (hf : X.fn x = true ∨ X.env.scope.names.lookup x = some .local := by first | exact .inl rfl | exact .inr rfl | assumption) :
  PS X (.Assign [.Name x pos'] e pos) (tAsg te (gName i)) := by
 intro pins s σ H D I h
 refine wpAny_Assign_Name (thn (he pins s σ H _ I h) fun v s1 ⟨y, H1, I1, r1, q1⟩ => ?_) hs
 exact store_ok I1 hN hi hx r1 (fun s2 I2 => ⟨_, H1, I2, q1⟩) hf
end
section
variable {X : Cx} {pos : Pos}
noncomputable def tWhile (c : TT) (tb : TS) : TS := fun D σ H => ∃ W : Nat -> St -> Hp -> Prop, (∃ m, W m σ H) /\ ∀ m σ H, W m σ H ->
 c σ H fun b H1 => if b = true then ∃ N : St -> Hp -> Prop, (∀ σ' H', N σ' H' -> ∃ m', m' < m /\ W m' σ' H') /\ tb { D with nx := N, ct := N, bk := D.nx } σ H1 else D.nx σ H1
theorem ps_while {c : Expr} {body : List Stmt} {tc : TT} {tb : TS} (hp : PassesOwn (model X.prog X.w) X.A X.env X.xe) (hc : PT X c tc) (hb : PSs X body tb) : PS X (.While c body [] pos) (tWhile tc tb) := by
 intro pins s σ H D I h
 obtain ⟨W, ⟨m0, w0⟩, turn⟩ := h
 refine wpAny_While (codeAny_whileLoop (fun n s' => ∃ σ' H', Inv X pins σ' H' s' /\ W n σ' H') ?_ m0 ⟨σ, H, I, w0⟩)
 rintro n s1 ⟨σ1, H1, I1, w1⟩
 refine wpAny_passesOwn hp (thn (hc pins s1 σ1 H1 _ I1 (turn n σ1 H1 w1)) fun b s2 zz => ?_)
 obtain ⟨H2, I2, q2⟩ := zz
 cases b with
 | true =>
  obtain ⟨N, hN, q2⟩ := q2
  rw [if_pos rfl]
  refine wpAny_passesOwn hp (thn (hb pins s2 σ1 H2 _ I2 q2) fun f s3 q3 => ?_)
  cases f with
  | next =>
   obtain ⟨σ3, H3, I3, n3⟩ := q3
   obtain ⟨m', hm, w3⟩ := hN σ3 H3 n3
   exact ⟨m', hm, σ3, H3, I3, w3⟩
  | cont =>
   obtain ⟨σ3, H3, I3, n3⟩ := q3
   obtain ⟨m', hm, w3⟩ := hN σ3 H3 n3
   exact ⟨m', hm, σ3, H3, I3, w3⟩
  | brk => exact q3
  | ret v => exact q3
 | false =>
  rw [if_neg Bool.false_ne_true]
  exact wpAny_execs_nil ⟨σ1, H2, I2, q2⟩
end
structure It where
 go : Nat -> Hp -> Prop
 yld : Nat -> Hp -> V -> Hp -> Prop
 stop : Nat -> Hp -> Prop
noncomputable def FpOk (X : Cx) (pins : List (Addr × Obj)) (H : Hp) (b : Addr) : Prop :=
 H b = none /\ b ≠ X.env.locals /\ b ∉ X.fs /\ (b ∈ X.ex ∨ X.s₀.heap.objs.size <= b) /\ (∀ x c, X.env.cells.lookup x = some c -> c ≠ b) /\ ∀ p ∈ X.pn ++ pins, p.1 ≠ b
theorem Inv.fpOk {X : Cx} {pins : List (Addr × Obj)} {σ : St} {H H' : Hp} {s : Shared} {b : Addr} (I : Inv X pins σ H s) (hb : s.heap.objs.size <= b) (hn : H' b = none) : FpOk X pins H' b := by
 refine ⟨hn, Nat.ne_of_gt (Nat.lt_of_lt_of_le I.lt hb), I.nofs hb, .inr (Nat.le_trans I.sz hb), fun x c e z => ?_, fun p hp z => ?_⟩
 ·obtain ⟨v, q⟩ := I.cell x c e
  exact absurd (Nat.lt_of_lt_of_le q.lt (by rw [z]; exact hb)) (Nat.lt_irrefl _)
 ·exact absurd (Nat.lt_of_lt_of_le (Heap.lt_size (I.pin p hp).1) (by rw [z]; exact hb)) (Nat.lt_irrefl _)
structure Turn (P : Program) (w : World) (K : PySem.W.Frag) (tg : Expr) (J : It) (fp : List Addr) (it : Addr) (tn : Nat -> Heap -> Prop) : Prop where
 mem : it ∈ fp
 obj : ∀ i h, tn i h -> ∀ b ∈ fp, ∃ o, h.get? b = some o /\ ∀ v, o.data ≠ .cell v
 keep : ∀ i h h', tn i h -> (∀ b ∈ fp, ∀ o, h.get? b = some o -> h'.get? b = some o) -> tn i h'
 item : ∀ (X : Cx), X.prog = P -> X.w = w -> X.K = K -> X.calm = true -> ∀ (i : Nat) (pins : List (Addr × Obj)) (s : Shared) (σ : St) (H : Hp) (E : Value -> Shared -> Prop), Inv X pins σ H s -> (∀ b ∈ fp, FpOk X pins H b) -> tn i s.heap -> J.go i H ->
  wpAny (model P w) X.A (pyNext (.ref it)) (fun r s1 => ∃ u, r = some u /\
   wpAny (model P w) X.A (letOwnedTupleGo tg (.ref it) u) (fun _ s2 => ∃ x H', Inv X pins σ H' s2 /\ RelV x u /\ J.yld i H x H' /\ tn (i + 1) s2.heap /\ ∀ b ∈ fp, H' b = none) E s1) E s
 done : ∀ (X : Cx), X.prog = P -> X.w = w -> X.K = K -> X.calm = true -> ∀ (i : Nat) (pins : List (Addr × Obj)) (s : Shared) (σ : St) (H : Hp) (E : Value -> Shared -> Prop), Inv X pins σ H s -> (∀ b ∈ fp, FpOk X pins H b) -> tn i s.heap -> J.stop i H ->
  wpAny (model P w) X.A (pyNext (.ref it)) (fun r s1 => r = none /\ Inv X pins σ H s1) E s
 self : ∀ (A : Around) (i : Nat) (s : Shared) (Q : Value -> Shared -> Prop) (E : Value -> Shared -> Prop), tn i s.heap -> Q (.ref it) s -> wpAny (model P w) A (pyIter (.ref it)) Q E s
abbrev TI := St -> Hp -> (It -> Hp -> Prop) -> Prop
noncomputable def PIE (X : Cx) (pins : List (Addr × Obj)) (σ : St) (tg : Expr) (R : It -> Hp -> Prop) (itv : Value) (s2 : Shared) : Prop :=
 ∃ (it : Addr) (fp : List Addr) (tn : Nat -> Heap -> Prop) (J : It) (H' : Hp), itv = .ref it /\ Inv X pins σ H' s2 /\ Turn X.prog X.w X.K tg J fp it tn /\ tn 0 s2.heap /\ (∀ b ∈ fp, FpOk X pins H' b) /\ R J H'
noncomputable def PI (X : Cx) (tg iter : Expr) (wi : TI) : Prop :=
 ∀ (pins : List (Addr × Obj)) (s : Shared) (σ : St) (H : Hp) (R : It -> Hp -> Prop), Inv X pins σ H s -> wi σ H R ->
  wpAny (model X.prog X.w) X.A (eval iter X.env) (fun v s1 => wpAny (model X.prog X.w) X.A (pyIter v) (PIE X pins σ tg R) X.xe s1) X.xe s
theorem go_of {M : Model} {A : Around} {E : Value -> Shared -> Prop} {s : Shared} {tg : Expr} {it : Addr} {u : Value} {o : Obj} {n : String} {vs : Array Value} {Q : Unit -> Shared -> Prop} (ho : s.heap.get? it = some o) (hc : o.cls = .type n) (hd : o.data = .fields vs)
  (hn : ["enumerate", "zip", "dict_itemiterator", "dict_reverseitemiterator", "odict_iterator", "itertools.zip_longest", "itertools.pairwise"].contains n = false) (hQ : Q () s) : wpAny M A (letOwnedTupleGo tg (.ref it) u) Q E s := by
 unfold letOwnedTupleGo
 cases tg <;> first
  | exact wpAny_pure hQ
  | (cases u <;> first
    | exact wpAny_pure hQ
    | (refine wpAny_bind (wpAny_load ho ?_)
       rw [hc, hd]
       show wpAny M A (if (["enumerate", "zip", "dict_itemiterator", "dict_reverseitemiterator", "odict_iterator", "itertools.zip_longest", "itertools.pairwise"].contains n && vs[0]? == some (rawInt _)) = true then _ else _) Q E s
       rw [if_neg (by intro h; rw [hn, Bool.false_and] at h; cases h)]
       exact wpAny_pure hQ))
noncomputable def Itl (K : PySem.W.Frag) (a : Addr) : It :=
 ⟨fun i H => ∃ xs x, SqL K H a xs /\ xs[i]? = some x, fun i H x H' => H' = H /\ ∀ xs, SqL K H a xs -> xs[i]? = some x, fun i H => ∃ xs, SqL K H a xs /\ xs.length <= i⟩
noncomputable def Itt (K : PySem.W.Frag) (a : Addr) : It :=
 ⟨fun i H => ∃ xs x, SqT K H a xs /\ xs[i]? = some x, fun i H x H' => H' = H /\ ∀ xs, SqT K H a xs -> xs[i]? = some x, fun i H => ∃ xs, SqT K H a xs /\ xs.length <= i⟩
noncomputable def Itr (lo : Int) (n : Nat) : It := ⟨fun i _ => i < n, fun i H x H' => H' = H /\ x = .int (lo + i), fun i _ => n <= i⟩
theorem turn_list {P : Program} {w : World} {K : PySem.W.Frag} {tg : Expr} (a it : Addr) : Turn P w K tg (Itl K a) [it] it (fun i h => h.IsListIter it a i) where
 mem := by simp
 obj := fun i h st b hb => by
  have e : b = it := by simpa using hb
  subst e
  obtain ⟨o, e, c, d⟩ := st
  exact ⟨o, e, fun v z => by rw [d] at z; cases z⟩
 keep := fun i h h' st k => st.at fun o e => k it (by simp) o e
 item := by
  intro X hP hw hK hc i pins s σ H E I hf st hg
  subst hP hw hK
  obtain ⟨xs, x, hq, hx⟩ := hg
  obtain ⟨its, rv, p, hz⟩ := I.list hq
  obtain ⟨u, hu, ru⟩ := rv.get hx
  obtain ⟨f0, f1, f2, f3, f4, f5⟩ := hf it (by simp)
  refine wpAny_pyNext_list_item st p.isList (x := u) (by simpa using hu) fun h' st' sb => ?_
  have I1 : Inv X pins σ H { s with heap := h' } := I.turned (t' := s.toks) (fun b o hb e => (sb.2 b hb).trans e) f0 f1 f3 f4 f5
  obtain ⟨o, e, c, d⟩ := id st'
  exact ⟨u, rfl, go_of (s := { s with heap := h' }) e c d (by decide) ⟨x, H, I1, ru, ⟨rfl, fun ys hy => by rw [I.list_inj hy hq]; exact hx⟩, st', fun b hb => (hf b hb).1⟩⟩
 done := by
  intro X hP hw hK hc i pins s σ H E I hf st hg
  subst hP hw hK
  obtain ⟨xs, hq, hx⟩ := hg
  obtain ⟨its, rv, p, hz⟩ := I.list hq
  obtain ⟨f0, f1, f2, f3, f4, f5⟩ := hf it (by simp)
  have hl := rv.length
  exact wpAny_pyNext_list_end (I.ok.hd hc) st p.isList (by simp; lia) fun h' eb => ⟨rfl, I.turned (t' := s.toks) (fun b o hb e => eb b o hb e) f0 f1 f3 f4 f5⟩
 self := fun _ _ _ _ _ st h => wpAny_pyIter_listiter st h
theorem turn_tuple {P : Program} {w : World} {K : PySem.W.Frag} {tg : Expr} (a it : Addr) : Turn P w K tg (Itt K a) [it] it (fun i h => h.IsTupleIter it a i) where
 mem := by simp
 obj := fun i h st b hb => by
  have e : b = it := by simpa using hb
  subst e
  obtain ⟨o, e, c, d⟩ := st
  exact ⟨o, e, fun v z => by rw [d] at z; cases z⟩
 keep := fun i h h' st k => st.at fun o e => k it (by simp) o e
 item := by
  intro X hP hw hK hc i pins s σ H E I hf st hg
  subst hP hw hK
  obtain ⟨xs, x, hq, hx⟩ := hg
  obtain ⟨its, rv, p, hz⟩ := I.tuple hq
  obtain ⟨u, hu, ru⟩ := rv.get hx
  obtain ⟨f0, f1, f2, f3, f4, f5⟩ := hf it (by simp)
  refine wpAny_pyNext_tuple_item st (show s.heap.IsTuple a its.toArray from p) (x := u) (by simpa using hu) fun h' st' sb => ?_
  have I1 : Inv X pins σ H { s with heap := h' } := I.turned (t' := s.toks) (fun b o hb e => (sb.2 b hb).trans e) f0 f1 f3 f4 f5
  obtain ⟨o, e, c, d⟩ := id st'
  exact ⟨u, rfl, go_of (s := { s with heap := h' }) e c d (by decide) ⟨x, H, I1, ru, ⟨rfl, fun ys hy => by rw [I.tuple_inj hy hq]; exact hx⟩, st', fun b hb => (hf b hb).1⟩⟩
 done := by
  intro X hP hw hK hc i pins s σ H E I hf st hg
  subst hP hw hK
  obtain ⟨xs, hq, hx⟩ := hg
  obtain ⟨its, rv, p, hz⟩ := I.tuple hq
  obtain ⟨f0, f1, f2, f3, f4, f5⟩ := hf it (by simp)
  have hl := rv.length
  exact wpAny_pyNext_tuple_end (I.ok.hd hc) st (show s.heap.IsTuple a its.toArray from p) (by simp; lia) fun h' eb => ⟨rfl, I.turned (t' := s.toks) (fun b o hb e => eb b o hb e) f0 f1 f3 f4 f5⟩
 self := fun _ _ _ _ _ st h => wpAny_pyIter_tupleiter st h
theorem turn_range {P : Program} {w : World} {K : PySem.W.Frag} {tg : Expr} (it : Addr) (lo : Int) (n : Nat) : Turn P w K tg (Itr lo n) [it] it (fun i h => IsRangeIter h it (lo + (i : Nat) * 1) ((n : Int) - (i : Nat)) 1) where
 mem := by simp
 obj := fun i h st b hb => by
  have e : b = it := by simpa using hb
  subst e
  exact ⟨_, st, fun v z => by
   have z' : Data.fields _ = Data.cell v := z
   cases z'⟩
 keep := fun i h h' st k => k it (by simp) _ st
 item := by
  intro X hP hw hK hc i pins s σ H E I hf st hg
  subst hP hw hK
  obtain ⟨f0, f1, f2, f3, f4, f5⟩ := hf it (by simp)
  have W := Walks.range (prog := X.prog) (w := X.w) (I.ok.hd hc) it lo 1 n
  refine W.item i s _ _ hg st fun v h' tk hv st' kk => ?_
  obtain ⟨t, rfl⟩ := hv
  have I1 : Inv X pins σ H { s with heap := h', toks := tk } := I.turned (fun b o hb e => kk b o (by simpa using hb) e) f0 f1 f3 f4 f5
  refine ⟨_, rfl, go_of (s := { s with heap := h', toks := tk }) (n := "range_iterator") st' rfl rfl (by decide) ⟨.int (lo + i), H, I1, ⟨t, ?_⟩, ⟨rfl, rfl⟩, st', fun b hb => (hf b hb).1⟩⟩
  rw [Int.mul_one]
 done := by
  intro X hP hw hK hc i pins s σ H E I hf st hg
  subst hP hw hK
  obtain ⟨f0, f1, f2, f3, f4, f5⟩ := hf it (by simp)
  exact wpAny_pyNext_range_end (I.ok.hd hc) st (by have : n <= i := hg; lia) fun h' eb => ⟨rfl, I.turned (t' := s.toks) (fun b o hb e => eb b o hb e) f0 f1 f3 f4 f5⟩
 self := fun _ _ _ _ _ st h => wpAny_pyIter_rangeiter st h
end L2
namespace L2
open PySem PySem.Spec PyProof.Rows
section
variable {X : Cx} {tg : Expr}
theorem range_it {pins : List (Addr × Obj)} {σ : St} {H : Hp} {s : Shared} {R : It -> Hp -> Prop} {E : Value -> Shared -> Prop} {lo hi : Int} {t u v : Tok} {tk : Nat} (I : Inv X pins σ H s) (h1 : -(2 ^ 62) <= lo) (h2 : lo < 2 ^ 62) (h3 : -(2 ^ 62) <= hi) (h4 : hi < 2 ^ 62)
  (q : R (Itr lo (hi - lo).toNat) H) : wpAny (model X.prog X.w) X.A (pyIter (.ref s.heap.objs.size)) (PIE X pins σ tg R) E { s with heap := s.heap.push { cls := .type "range", data := .fields #[.int lo t, .int hi u, .int 1 v] }, toks := tk } := by
 refine wpAny_pyIter_range (IsRange.new ..) (small_one h1 h2 h3 h4) ?_
 have I1 : Inv X pins σ H { s with heap := s.heap.push { cls := .type "range", data := .fields #[.int lo t, .int hi u, .int 1 v] }, toks := tk } := I.kept fun b o e => Heap.get?_push_of_some _ e
 refine ⟨(s.heap.push { cls := .type "range", data := .fields #[.int lo t, .int hi u, .int 1 v] }).objs.size, [(s.heap.push { cls := .type "range", data := .fields #[.int lo t, .int hi u, .int 1 v] }).objs.size], _, _, H, rfl,
  I1.kept (t' := tk) fun b o e => Heap.get?_push_of_some _ e, turn_range _ lo (hi - lo).toNat, ?_, fun b hb => ?_, q⟩
 ·have e1 : lo + ((0 : Nat) : Int) * 1 = lo := by simp
  have e2 : (((hi - lo).toNat : Nat) : Int) - ((0 : Nat) : Int) = Builtin.Range.rangeSize lo hi 1 := by rw [rangeSize_one]; split <;> lia
  show IsRangeIter _ _ (lo + ((0 : Nat) : Int) * 1) ((((hi - lo).toNat : Nat) : Int) - ((0 : Nat) : Int)) 1
  rw [e1, e2]
  exact Heap.get?_push_size _ rfl
 ·have e : b = (s.heap.push { cls := .type "range", data := .fields #[.int lo t, .int hi u, .int 1 v] }).objs.size := by simpa using hb
  subst e
  exact I1.fpOk (Nat.le_refl _) (I1.hok.fresh (Nat.le_refl _))
noncomputable def iRng1 (ta : TA) : TI := fun σ H R => ta σ H fun vs H1 => ∃ j : Int, vs = [.int j] /\ -(2 ^ 62) <= j /\ j < 2 ^ 62 /\ R (Itr 0 j.toNat) H1
theorem pi_range1 {a : Expr} {ta : TA} {p pos : Pos} (hg : Gl X "range") (hm : X.mg "range" = none) (ha : PA X [a] ta) (hs : starEach [a] X.env = [(false, eval a X.env)] := by rfl) : PI X tg (.Call (.Name "range" p) [a] [] pos) (iRng1 ta) := by
 intro pins s σ H R I h
 refine Call_ (ld_blt I hg hm boot_range (PyProof.Rows.callWith_type1 (thn (ha pos pins s σ H _ I h) fun us s1 ⟨vs, H1, I1, r1, q1⟩ => ?_) hs rfl))
 obtain ⟨j, e, q1, q2, q⟩ := q1
 subst e
 cases r1 with
 | cons r rr =>
  cases rr
  obtain ⟨t, rfl⟩ := r
  exact call_range_1 (range_it I1 (by lia) (by lia) q1 q2 (by simpa using q))
noncomputable def tFor (wi : TI) (g : TG) (tb : TS) : TS := fun D σ H => wi σ H fun J H1 => ∃ W : Nat -> Nat -> St -> Hp -> Prop, (∃ m, W 0 m σ H1) /\ ∀ i m σ H, W i m σ H ->
 (J.stop i H /\ D.nx σ H) ∨ (J.go i H /\ ∃ N : St -> Hp -> Prop, (∀ σ' H', N σ' H' -> ∃ m', m' < m /\ W (i + 1) m' σ' H') /\ ∀ x H', J.yld i H x H' -> g x σ H' fun σ2 H2 => tb { D with nx := N, ct := N, bk := D.nx } σ2 H2)
noncomputable def pinsAt (fp : List Addr) (h : Heap) : List (Addr × Obj) := fp.filterMap fun b => (h.get? b).map fun o => (b, o)
theorem mem_pinsAt {fp : List Addr} {h : Heap} {b : Addr} {o : Obj} (hb : b ∈ fp) (e : h.get? b = some o) : (b, o) ∈ pinsAt fp h := List.mem_filterMap.mpr ⟨b, hb, by rw [e]; rfl⟩
theorem of_pinsAt {fp : List Addr} {h : Heap} {p : Addr × Obj} (hp : p ∈ pinsAt fp h) : p.1 ∈ fp /\ h.get? p.1 = some p.2 := by
 obtain ⟨b, hb, e⟩ := List.mem_filterMap.mp hp
 cases q : h.get? b with
 | none => rw [q] at e; cases e
 | some o =>
  rw [q] at e
  have e' : (b, o) = p := Option.some.inj e
  subst e'
  exact ⟨hb, q⟩
theorem Inv.pinned {pins : List (Addr × Obj)} {σ : St} {H : Hp} {s : Shared} {fp : List Addr} (I : Inv X pins σ H s) (hf : ∀ b ∈ fp, FpOk X pins H b) (ho : ∀ b ∈ fp, ∃ o, s.heap.get? b = some o /\ ∀ v, o.data ≠ .cell v) : Inv X (pins ++ pinsAt fp s.heap) σ H s :=
 I.pins_of fun p hp => (List.mem_append.mp hp).elim (fun z => I.pin p (List.mem_append_right _ z)) fun z => by
  obtain ⟨hb, e⟩ := of_pinsAt z
  obtain ⟨f0, f1, f2, _⟩ := hf p.1 hb
  obtain ⟨o, e', d⟩ := ho p.1 hb
  rw [e] at e'; cases e'
  exact ⟨e, f0, f1, f2, d⟩
theorem Inv.unpinned {pins pl : List (Addr × Obj)} {σ : St} {H : Hp} {s : Shared} (I : Inv X (pins ++ pl) σ H s) : Inv X pins σ H s := I.pins_of fun p hp => I.pin p (List.mem_append_right _ (List.mem_append_left _ hp))
theorem ps_for {iter : Expr} {body : List Stmt} {wi : TI} {g : TG} {tb : TS} {pos : Pos} (hp : PassesOwn (model X.prog X.w) X.A X.env X.xe) (hc : X.calm = true) (hi : PI X tg iter wi) (hg : PG X tg g) (hb : PSs X body tb)
  (hs : ∀ x, foldedSetIterable iter X.env x = pure x := by intro _; rfl) : PS X (.For tg iter body [] pos) (tFor wi g tb) := by
 intro pins s σ H D I h
 refine wpAny_For (thn (hi pins s σ H _ I h) fun v s1 h1 => thn h1 fun itv s2 h2 => ?_) hs
 obtain ⟨it, fp, tn, J, H2, e, I2, T, st2, f2, W, ⟨m0, w0⟩, turn⟩ := h2
 subst e
 have stat : ∀ {H' : Hp}, (∀ b ∈ fp, H' b = none) -> ∀ b ∈ fp, FpOk X pins H' b := fun hn b hb => ⟨hn b hb, (f2 b hb).2⟩
 refine codeAny_forLoop_any (fun n s' => ∃ i σ' H', Inv X pins σ' H' s' /\ tn i s'.heap /\ (∀ b ∈ fp, H' b = none) /\ W i n σ' H') ?_ m0 ⟨0, σ, H2, I2, st2, fun b hb => (f2 b hb).1, w0⟩
 rintro n s3 ⟨i, σ3, H3, I3, st3, fr3, w3⟩
 rcases turn i n σ3 H3 w3 with ⟨stop, qn⟩ | ⟨go, N, hN, step⟩
 ·refine wpAny_passesOwn hp (thn (T.done X rfl rfl rfl hc i pins s3 σ3 H3 X.xe I3 (stat fr3) st3 stop) fun r s4 zz => ?_)
  obtain ⟨hr, I4⟩ := zz
  subst hr
  exact wpAny_execs_nil ⟨σ3, H3, I4, qn⟩
 ·refine wpAny_passesOwn hp (thn (T.item X rfl rfl rfl hc i pins s3 σ3 H3 X.xe I3 (stat fr3) st3 go) fun r s4 zz => ?_)
  obtain ⟨u, hr, h4⟩ := zz
  subst hr
  refine wpAny_passesOwn hp (thn h4 fun _ s5 zz => ?_)
  obtain ⟨x, H5, I5, r5, y5, st5, fr5⟩ := zz
  have I5' := I5.pinned (stat fr5) (T.obj _ _ st5)
  refine wpAny_passesOwn hp (thn (hg _ s5 σ3 H5 x u _ I5' r5 (step x H5 y5)) fun _ s6 zz => ?_)
  obtain ⟨σ6, H6, I6, q6⟩ := zz
  refine wpAny_passesOwn hp (thn (hb _ s6 σ6 H6 _ I6 q6) fun f s7 q7 => ?_)
  have again : ∀ {σ7 : St} {H7 : Hp}, Inv X (pins ++ pinsAt fp s5.heap) σ7 H7 s7 -> N σ7 H7 -> ∃ m, m < n /\ ∃ i σ' H', Inv X pins σ' H' s7 /\ tn i s7.heap /\ (∀ b ∈ fp, H' b = none) /\ W i m σ' H' := fun {σ7 H7} I7 n7 => by
   obtain ⟨m', hm, w7⟩ := hN σ7 H7 n7
   refine ⟨m', hm, i + 1, σ7, H7, I7.unpinned, T.keep _ _ _ st5 fun b hb o e => (I7.pin (b, o) (List.mem_append_right _ (List.mem_append_right _ (mem_pinsAt hb e)))).1, fun b hb => ?_, w7⟩
   obtain ⟨o, e, d⟩ := T.obj _ _ st5 b hb
   exact (I7.pin (b, o) (List.mem_append_right _ (List.mem_append_right _ (mem_pinsAt hb e)))).2.1
  cases f with
  | next => obtain ⟨σ7, H7, I7, n7⟩ := q7; exact again I7 n7
  | cont => obtain ⟨σ7, H7, I7, n7⟩ := q7; exact again I7 n7
  | brk => obtain ⟨σ7, H7, I7, q7⟩ := q7; exact ⟨σ7, H7, I7.unpinned, q7⟩
  | ret v => obtain ⟨x7, σ7, H7, I7, r7, q7⟩ := q7; exact ⟨x7, σ7, H7, I7.unpinned, r7, q7⟩
end
end L2
namespace L2
open PySem PySem.Spec PyProof.Rows
abbrev R2 := V -> V -> Hp -> VK -> Prop
noncomputable def OpR (X : Cx) (f : Value -> Value -> Sem Value) (r : R2) : Prop :=
 ∀ (pins : List (Addr × Obj)) (s : Shared) (σ : St) (H : Hp) (x y : V) (v u : Value) (Q : VK), Inv X pins σ H s -> RelV x v -> RelV y u -> r x y H Q ->
  wpAny (model X.prog X.w) X.A (f v u) (EP X pins σ Q) X.xe s
noncomputable def UnR (X : Cx) (f : Value -> Sem Value) (r : V -> Hp -> VK -> Prop) : Prop :=
 ∀ (pins : List (Addr × Obj)) (s : Shared) (σ : St) (H : Hp) (x : V) (v : Value) (Q : VK), Inv X pins σ H s -> RelV x v -> r x H Q ->
  wpAny (model X.prog X.w) X.A (f v) (EP X pins σ Q) X.xe s
noncomputable def CallR (X : Cx) (f : Value) (r : List V -> Hp -> VK -> Prop) : Prop :=
 ∀ (pins : List (Addr × Obj)) (s : Shared) (σ : St) (H : Hp) (xs : List V) (us : List Value) (Q : VK), Inv X pins σ H s -> Vals xs us -> r xs H Q ->
  wpAny (model X.prog X.w) X.A (call f us) (EP X pins σ Q) X.xe s
noncomputable def tOp (r : R2) (ta tb : TE) : TE := fun σ H Q => ta σ H fun x H1 => tb σ H1 fun y H2 => r x y H2 Q
noncomputable def tUn (r : V -> Hp -> VK -> Prop) (ta : TE) : TE := fun σ H Q => ta σ H fun x H1 => r x H1 Q
noncomputable def rI (C : Int -> Int -> Prop) (g : Int -> Int -> V) : R2 := fun x y H Q => ∃ i j, x = .int i /\ y = .int j /\ C i j /\ Q (g i j) H
noncomputable def rI0 (g : Int -> Int -> V) : R2 := fun x y H Q => ∃ i j, x = .int i /\ y = .int j /\ Q (g i j) H
noncomputable def rU (g : Int -> V) : V -> Hp -> VK -> Prop := fun x H Q => ∃ i, x = .int i /\ Q (g i) H
section
variable {X : Cx} {a b c : Expr} {ta tb tc : TE} {pos : Pos}
theorem binT (ha : PE X a ta) (hb : PE X b tb) {pins : List (Addr × Obj)} {s : Shared} {σ : St} {H : Hp} {R : V -> V -> Hp -> Prop} (I : Inv X pins σ H s)
  (h : ta σ H fun x H1 => tb σ H1 fun y H2 => R x y H2) {Q : Value -> Shared -> Prop} {f : Value -> Value -> Sem Value}
  (hf : ∀ v u s2 x y H2, Inv X pins σ H2 s2 -> RelV x v -> RelV y u -> R x y H2 -> wpAny (model X.prog X.w) X.A (f v u) Q X.xe s2) :
  wpAny (model X.prog X.w) X.A (eval a X.env) (fun v s₁ => wpAny (model X.prog X.w) X.A (eval b X.env) (fun u s₂ => wpAny (model X.prog X.w) X.A (f v u) Q X.xe s₂) X.xe s₁) X.xe s := by
 refine thn (ha pins s σ H _ I h) fun v s1 zz => ?_
 obtain ⟨x, H1, I1, r1, q1⟩ := zz
 refine thn (hb pins s1 σ H1 _ I1 q1) fun u s2 zz => ?_
 obtain ⟨y, H2, I2, r2, q2⟩ := zz
 exact hf v u s2 x y H2 I2 r1 r2 q2
theorem pe_op {op : Operator} {r : R2} (ho : OpR X (binaryOp op) r) (ha : PE X a ta) (hb : PE X b tb) : PE X (.BinOp a op b pos) (tOp r ta tb) := by
 intro pins s σ H Q I h
 exact wpAny_BinOp (binT ha hb I h fun v u s2 x y H2 I2 rx ry q => ho pins s2 σ H2 x y v u Q I2 rx ry q)
theorem pe_un {op : UnaryOp} {r : V -> Hp -> VK -> Prop} (ho : UnR X (unaryOp op) r) (ha : PE X a ta) : PE X (.UnaryOp op a pos) (tUn r ta) := by
 intro pins s σ H Q I h
 exact UnaryOp_ (thn (ha pins s σ H _ I h) fun v s1 ⟨x, H1, I1, r1, q1⟩ => ho pins s1 σ H1 x v Q I1 r1 q1)
theorem opI {f : Value -> Value -> Sem Value} {C : Int -> Int -> Prop} {g : Int -> Int -> Int}
  (rule : ∀ (i j : Int) (t u : Tok) (s : Shared) (Q : Value -> Shared -> Prop) (E : Value -> Shared -> Prop), C i j -> Q (.int (g i j) s.toks) { s with toks := s.toks + 1 } -> wpAny (model X.prog X.w) X.A (f (.int i t) (.int j u)) Q E s) :
  OpR X f (rI C fun i j => .int (g i j)) := by
 intro pins s σ H x y v u Q I rx ry h
 obtain ⟨i, j, rfl, rfl, hc, q⟩ := h
 obtain ⟨t, rfl⟩ := rx
 obtain ⟨t', rfl⟩ := ry
 exact rule i j t t' s _ _ hc ⟨.int (g i j), H, I.tok _, ⟨_, rfl⟩, q⟩
theorem opI0 {f : Value -> Value -> Sem Value} {g : Int -> Int -> Int}
  (rule : ∀ (i j : Int) (t u : Tok) (s : Shared) (Q : Value -> Shared -> Prop) (E : Value -> Shared -> Prop), Q (.int (g i j) s.toks) { s with toks := s.toks + 1 } -> wpAny (model X.prog X.w) X.A (f (.int i t) (.int j u)) Q E s) :
  OpR X f (rI0 fun i j => .int (g i j)) := by
 intro pins s σ H x y v u Q I rx ry h
 obtain ⟨i, j, rfl, rfl, q⟩ := h
 obtain ⟨t, rfl⟩ := rx
 obtain ⟨t', rfl⟩ := ry
 exact rule i j t t' s _ _ ⟨.int (g i j), H, I.tok _, ⟨_, rfl⟩, q⟩
theorem opB0 {f : Value -> Value -> Sem Value} {g : Int -> Int -> Bool}
  (rule : ∀ (i j : Int) (t u : Tok) (s : Shared) (Q : Value -> Shared -> Prop) (E : Value -> Shared -> Prop), Q (.bool (g i j)) s -> wpAny (model X.prog X.w) X.A (f (.int i t) (.int j u)) Q E s) :
  OpR X f (rI0 fun i j => .bl (g i j)) := by
 intro pins s σ H x y v u Q I rx ry h
 obtain ⟨i, j, rfl, rfl, q⟩ := h
 obtain ⟨t, rfl⟩ := rx
 obtain ⟨t', rfl⟩ := ry
 exact rule i j t t' s _ _ ⟨.bl (g i j), H, I, rfl, q⟩
noncomputable def CDiv (i j : Int) : Prop := 0 < j /\ j < 1073741824
noncomputable def CPow (i j : Int) : Prop := 0 <= j /\ j <= 1000000 /\ i.natAbs < 2 ^ 64
noncomputable def CMul (i j : Int) : Prop := (-(2 ^ 64) < i /\ i < 2 ^ 64) ∨ (-(2 ^ 64) < j /\ j < 2 ^ 64)
theorem CMul.ok {i j : Int} (h : CMul i j) : IntMulOk i j := by
 rcases h with ⟨h1, h2⟩ | ⟨h1, h2⟩
 ·exact .of_left (intBits_le_64 h1 h2)
 ·exact .of_right (intBits_le_64 h1 h2)
theorem op_add : OpR X (binaryOp .Add) (rI0 fun i j => .int (i + j)) := opI0 fun _ _ _ _ _ _ _ q => add_int q
theorem op_sub : OpR X (binaryOp .Sub) (rI0 fun i j => .int (i - j)) := opI0 fun _ _ _ _ _ _ _ q => sub_int q
theorem op_mul : OpR X (binaryOp .Mult) (rI CMul fun i j => .int (i * j)) := opI fun _ _ _ _ _ _ _ hc q => mul_int q hc.ok
theorem op_fdiv : OpR X (binaryOp .FloorDiv) (rI CDiv fun i j => .int (i / j)) := opI fun i j _ _ _ _ _ hc q => by
 have h1 : (0 : Int) < j := hc.1
 have h2 : j < 1073741824 := hc.2
 exact floordiv_int (by lia) (by rw [Int.fdiv_eq_ediv_of_nonneg i (by lia)]; exact q) (.inl (PyProof.noPylong_small (by lia)))
theorem op_mod : OpR X (binaryOp .Mod) (rI (fun _ j => 0 < j) fun i j => .int (i % j)) := opI fun i j _ _ _ _ _ hc q => by
 have h1 : (0 : Int) < j := hc
 exact mod_int' (by lia) (by rw [Int.fmod_eq_emod_of_nonneg i (by lia)]; exact q)
theorem op_pow : OpR X (binaryOp .Pow) (rI CPow fun i j => .int (i ^ j.toNat)) := opI fun _ _ _ _ _ _ _ hc q => pow_int_small hc.1 hc.2.1 hc.2.2 q
theorem unI {f : Value -> Sem Value} {g : Int -> Int}
  (rule : ∀ (i : Int) (t : Tok) (s : Shared) (Q : Value -> Shared -> Prop) (E : Value -> Shared -> Prop), Q (.int (g i) s.toks) { s with toks := s.toks + 1 } -> wpAny (model X.prog X.w) X.A (f (.int i t)) Q E s) :
  UnR X f (rU fun i => .int (g i)) := by
 intro pins s σ H x v Q I rx h
 obtain ⟨i, rfl, q⟩ := h
 obtain ⟨t, rfl⟩ := rx
 exact rule i t s _ _ ⟨.int (g i), H, I.tok _, ⟨_, rfl⟩, q⟩
theorem un_neg : UnR X (unaryOp .USub) (rU fun i => .int (-i)) := unI fun _ _ _ _ _ q => neg_int q
end
section
variable {X : Cx} {a b c : Expr} {ta tb tc : TE} {pos : Pos}
theorem op_lt : OpR X (compareOp .Lt) (rI0 fun i j => .bl (decide (i < j))) := opB0 fun _ _ _ _ _ _ _ q => lt_int q
theorem op_le : OpR X (compareOp .LtE) (rI0 fun i j => .bl (decide (i <= j))) := opB0 fun _ _ _ _ _ _ _ q => le_int q
theorem op_gt : OpR X (compareOp .Gt) (rI0 fun i j => .bl (decide (j < i))) := opB0 fun _ _ _ _ _ _ _ q => gt_int q
theorem OpR.or {f : Value -> Value -> Sem Value} {r r' : R2} (h : OpR X f r) (h' : OpR X f r') : OpR X f (fun x y H Q => r x y H Q ∨ r' x y H Q) := by
 intro pins s σ H x y v u Q I rx ry q
 rcases q with q | q
 ·exact h pins s σ H x y v u Q I rx ry q
 ·exact h' pins s σ H x y v u Q I rx ry q
theorem nomark (b : Expr) {op : CmpOp} (h : op ≠ .In := by decide) (h2 : op ≠ .NotIn := by decide) : behindInMarks op b = false := by
 have e1 : (op == CmpOp.In) = false := by cases op <;> first | rfl | exact absurd rfl h
 have e2 : (op == CmpOp.NotIn) = false := by cases op <;> first | rfl | exact absurd rfl h2
 cases b <;> simp [behindInMarks, e1, e2]
theorem pe_cmpR {op : CmpOp} {r : R2} (ho : OpR X (compareOp op) r) (ha : PE X a ta) (hb : PE X b tb) (hm : behindInMarks op b = false) : PE X (.Compare a [op] [b] pos) (tOp r ta tb) := by
 intro pins s σ H Q I h
 exact wpAny_Compare1 (binT ha hb I h fun v u s2 x y H2 I2 rx ry q => ho pins s2 σ H2 x y v u Q I2 rx ry q) hm
noncomputable def tTest (t : TE) : TT := fun σ H Q => t σ H fun x H' => ∃ k, x = .bl k /\ Q k H'
theorem pt_cmpR {op : CmpOp} {r : R2} (ho : OpR X (compareOp op) r) (ha : PE X a ta) (hb : PE X b tb) (hm : behindInMarks op b = false) : PT X (.Compare a [op] [b] pos) (tTest (tOp r ta tb)) := by
 intro pins s σ H Q I h
 refine wpAny_isTrue_Compare1 (thn (ha pins s σ H _ I h) fun v s1 ⟨x, H1, I1, r1, q1⟩ => thn (hb pins s1 σ H1 _ I1 q1) fun u s2 ⟨y, H2, I2, r2, q2⟩ =>
  thn (ho pins s2 σ H2 x y v u _ I2 r1 r2 q2) fun c s3 ⟨z, H3, I3, r3, k, e, q3⟩ => ?_) hm
 subst e
 cases r3
 exact wpAny_truthy_bool ⟨H3, I3, q3⟩
noncomputable def tChain (r r' : R2) (ta tb tc : TE) : TE := fun σ H Q => ta σ H fun x H1 => tb σ H1 fun y H2 => r x y H2 fun z H3 => ∃ k, z = .bl k /\
 (if k = true then tc σ H3 fun w' H4 => r' y w' H4 Q else Q (.bl false) H3)
theorem pe_chain {op op' : CmpOp} {r r' : R2} (ho : OpR X (compareOp op) r) (ho' : OpR X (compareOp op') r') (ha : PE X a ta) (hb : PE X b tb) (hc : PE X c tc)
  (hm : lastMarks [op, op'] [b, c] = false := by with_unfolding_all rfl) : PE X (.Compare a [op, op'] [b, c] pos) (tChain r r' ta tb tc) := by
 intro pins s σ H Q I h
 refine Compare_chain (thn (ha pins s σ H _ I h) fun v s1 ⟨x, H1, I1, r1, q1⟩ => chain_link (thn (hb pins s1 σ H1 _ I1 q1) fun u s2 ⟨y, H2, I2, r2, q2⟩ =>
  thn (ho pins s2 σ H2 x y v u _ I2 r1 r2 q2) fun d s3 ⟨z, H3, I3, r3, k, e, q3⟩ => ?_)) hm
 subst e
 cases r3
 refine wpAny_truthy_bool ?_
 cases k with
 | false => exact ite_ff ⟨.bl false, H3, I3, rfl, q3⟩
 | true => exact ite_tt (chain_last (thn (hc pins s3 σ H3 _ I3 q3) fun w' s4 ⟨z', H4, I4, r4, q4⟩ => ho' pins s4 σ H4 y z' u w' Q I4 r2 r4 q4))
theorem line63 : (sizeLine : Nat) < 2 ^ 63 := by rw [sizeLine_eq]; decide
theorem vals1 {x : V} {us : List Value} (r : Vals [x] us) : ∃ u, us = [u] /\ RelV x u := by
 cases r with
 | cons r1 r2 => cases r2; exact ⟨_, rfl, r1⟩
theorem vals2 {x y : V} {us : List Value} (r : Vals [x, y] us) : ∃ u w', us = [u, w'] /\ RelV x u /\ RelV y w' := by
 cases r with
 | cons r1 r2 =>
  cases r2 with
  | cons r3 r4 => cases r4; exact ⟨_, _, rfl, r1, r3⟩
theorem call_abs : CallR X (.builtin "abs") (fun xs H Q => ∃ i, xs = [.int i] /\ Q (.int (if i < 0 then -i else i)) H) := by
 intro pins s σ H xs us Q I r h
 obtain ⟨i, rfl, q⟩ := h
 obtain ⟨u, rfl, t, rfl⟩ := vals1 r
 exact call_abs_int fun u tk => ⟨.int (if i < 0 then -i else i), H, I.tok _, ⟨_, rfl⟩, q⟩
end
end L2
namespace L2
open PySem PySem.Spec PyProof.Rows
section
variable {prog : Program} {w : World} {A : Around} {E : Value -> Shared -> Prop} {s : Shared} {K : PySem.W.Frag} {x dx C f : Addr} {mA : Str -> Option Value} {name : Str} {v : Value}
end
section
variable {P : Program} {w : World} {H H' : Hp} {h h' : Heap} {a C dx : Addr} {fs fs' : List (Str × V)}
end
section
variable {X : Cx} {pins : List (Addr × Obj)} {σ : St} {H : Hp} {s : Shared} {a C dx : Addr} {fs : List (Str × V)} {f : Str} {v : V} {A : Around} {E : Value -> Shared -> Prop}
end
section
variable {X : Cx} {o e value : Expr} {f : Str} {pos pos' tpos : Pos} {ta tv : TE}
end
section
variable {X : Cx} {pins : List (Addr × Obj)} {σ : St} {H : Hp} {s : Shared} {A : Around} {E : Value -> Shared -> Prop} {Q : Value -> Shared -> Prop} {c : Value} {b : Bool}
end
end L2
namespace L2
open PySem PySem.Spec PyProof.Rows
structure Room (k : Nat) (A : Around) : Prop where
 hd : A.handled = none
 dp : A.depth + 3 * k + 5 < recursionLimit
 un : A.units + 16 * k + 200 < cLine
 gd : A.guards = some []
theorem Room.mono {j k : Nat} {A : Around} (r : Room k A) (h : j <= k) : Room j A := ⟨r.hd, by have := r.dp; lia, by have := r.un; lia, r.gd⟩
theorem Room.deeper {k : Nat} {A : Around} (r : Room (k + 1) A) (env : Env) : Room k (A.deeper env) :=
 ⟨r.hd, by have := r.dp; show A.depth + 1 + 3 * k + 5 < _; lia, by have := r.un; show A.units + 3 + 16 * k + 200 < _; lia, r.gd⟩
theorem Room.depth {k : Nat} {A : Around} (r : Room k A) : A.depth < recursionLimit := by have := r.dp; lia
noncomputable def tNil : TA := fun _ H Q => Q [] H
noncomputable def tCons (ta : TE) (tr : TA) : TA := fun σ H Q => ta σ H fun x H1 => tr σ H1 fun xs H2 => Q (x :: xs) H2
section
variable {X : Cx} {e : Expr} {es : List Expr} {te : TE} {t : TA} {pos : Pos}
theorem pa_nil : PA X [] tNil := fun _ _ _ _ H Q I h => Calls.spliced_nil ⟨[], H, I, .nil, h⟩
theorem pa_cons (ha : PE X e te) (hr : PA X es t) (hs : starEach (e :: es) X.env = (false, eval e X.env) :: starEach es X.env := by rfl) : PA X (e :: es) (tCons te t) := by
 intro pos pins s σ H Q I h
 rw [hs]
 show wpAny _ _ (spliced ((false, eval e X.env) :: backTo pos (starEach es X.env))) _ _ s
 refine Calls.spliced_cons (thn (ha pins s σ H _ I h) fun u s1 zz => ?_)
 obtain ⟨x, H1, I1, r1, q1⟩ := zz
 exact thn (hr pos pins s1 σ H1 _ I1 q1) fun us s2 ⟨xs, H2, I2, r2, q2⟩ => ⟨x :: xs, H2, I2, .cons r1 r2, q2⟩
noncomputable def tTup (t : TA) : TE := fun σ H Q => t σ H fun xs H1 => xs.length <= sizeLine /\ ∀ p, H1 p = none -> Q (.ref p) (upd H1 p (.tup xs))
noncomputable def tLst (t : TA) : TE := fun σ H Q => t σ H fun xs H1 => xs.length <= sizeLine /\ ∀ p, H1 p = none -> Q (.ref p) (upd H1 p (.lst xs))
theorem pe_tup {x1} (h : PA X es t) : PE X (.Tuple es x1 pos) (tTup t) := by
 intro pins s σ H Q I hq
 refine wpAny_Tuple_spliced (thn (h pos pins s σ H _ I hq) fun us s1 ⟨xs, H1, I1, r, z, q⟩ => ⟨by rw [<- r.length]; exact z, ?_⟩)
 have hf : H1 s1.heap.objs.size = none := I1.hok.fresh (Nat.le_refl _)
 refine ⟨.ref s1.heap.objs.size, upd H1 s1.heap.objs.size (.tup xs), I1.laid (t' := s1.toks) (fun b u e => Heap.get?_push_of_some _ e) (Nat.le_refl _) ?_, rfl, q _ hf⟩
 exact ⟨z, us, r, ⟨_, Heap.get?_push_size _ rfl, rfl, _, rfl⟩⟩
theorem pe_lst (h : PA X es t) : PE X (.List es pos) (tLst t) := by
 intro pins s σ H Q I hq
 refine wpAny_List_spliced (thn (h pos pins s σ H _ I hq) fun us s1 ⟨xs, H1, I1, r, z, q⟩ => ⟨by rw [<- r.length]; exact z, ?_⟩)
 have hf : H1 s1.heap.objs.size = none := I1.hok.fresh (Nat.le_refl _)
 refine ⟨.ref s1.heap.objs.size, upd H1 s1.heap.objs.size (.lst xs), I1.laid (t' := s1.toks) (fun b u e => Heap.get?_push_of_some _ e) (Nat.le_refl _) ?_, rfl, q _ hf⟩
 exact ⟨z, us, 0, r, Heap.get?_push_size _ rfl⟩
end
abbrev Sp := List V -> Hp -> VK -> XK -> Prop
abbrev CXT := List Env -> Hp -> Shared -> XK -> Value -> Shared -> Prop
structure Env0 (P : Program) (w : World) (K : PySem.W.Frag) (mg : Str -> Option Value) (base : Heap) (A : Around) (outer : List Env) (s : Shared) (H : Hp) : Prop where
 frames : A.frames = some outer
 mod : Mod K mg base
 bs : ∀ b o, base.get? b = some o -> s.heap.get? b = some o /\ H b = none
 bsz : base.objs.size <= s.heap.objs.size
 funs : s.heap.FunFrames base outer
 frf : ∀ b ∈ frs outer, H b = none
 hok : HOk P w H s.heap
 bare : AllBare s.gens
noncomputable def CE (outer : List Env) (P : Program) (w : World) (H : Hp) (s : Shared) (Q : VK) (u : Value) (s' : Shared) : Prop :=
 ∃ v H', s'.os = s.os /\ AllBare s'.gens /\ Un (frs outer) [] H H' s.heap s'.heap /\ HOk P w H' s'.heap /\ RelV v u /\ Q v H'
noncomputable def CR (CX : CXT) (outer : List Env) (P : Program) (w : World) (H : Hp) (s : Shared) (Q : VK) (E : XK) (r : Result) (s' : Shared) : Prop :=
 match r with
 | .ok (.ret u) => CE outer P w H s Q u s'
 | .ok _ => False
 | .error e => CX outer H s E e s'
structure FnOk (P : Program) (w : World) (K : PySem.W.Frag) (mg : Str -> Option Value) (base : Heap) (CX : CXT) (k : Nat) (f : Addr) (fd : FuncData) (ps : List Str) (sp : Sp) : Prop where
 len : ∀ vs H Q E, sp vs H Q E -> vs.length = ps.length
 run : ∀ (A : Around) (outer : List Env) (s : Shared) (H : Hp) (args : Args) (us : List Value) (vs : List V) (Q : VK) (E : XK), Room k A -> Env0 P w K mg base A outer s H -> BindsTo s fd args (ps.zip us) -> Vals vs us -> sp vs H Q E ->
  codeAny (model P w) A (.call (.ref f) args) (CR CX outer P w H s Q E) s
theorem FnOk.imp {P : Program} {w : World} {K : PySem.W.Frag} {mg : Str -> Option Value} {base : Heap} {CX : CXT} {k : Nat} {f : Addr} {fd : FuncData} {ps : List Str} {sp sp' : Sp} (F : FnOk P w K mg base CX k f fd ps sp)
  (h : ∀ vs H Q E, sp' vs H Q E -> sp vs H Q E) : FnOk P w K mg base CX k f fd ps sp' :=
 ⟨fun vs H Q E q => F.len vs H Q E (h _ _ _ _ q), fun A outer s H args us vs Q E hr he hb hv hs => F.run A outer s H args us vs Q E hr he hb hv (h _ _ _ _ hs)⟩
section
variable {X : Cx} {pins : List (Addr × Obj)} {σ : St} {H : Hp} {s s' : Shared}
theorem Inv.env0 (I : Inv X pins σ H s) : Env0 X.prog X.w X.K X.mg X.base X.A X.stack s H :=
 ⟨I.ok.frames, I.ok.mod, I.bs, Nat.le_trans I.ok.bsz I.sz, I.stack, I.stkFree, I.hok, I.bare⟩
theorem Inv.after {Q : VK} {u : Value} (I : Inv X pins σ H s) (h : CE X.stack X.prog X.w H s Q u s') : EP X pins σ Q u s' := by
 obtain ⟨v, H', os, bare, un, hok, r, q⟩ := h
 obtain ⟨hh, g, d, t, os'⟩ := s'
 obtain rfl : os' = s.os := os
 exact ⟨v, H', I.call (h' := hh) (g' := g) (d' := d) (t' := t) (ch := []) un hok bare (fun b z => absurd z (by simp)), r, q⟩
end
noncomputable def tCall (sp : Sp) (dvs : List V) (E : XK) (t : TA) : TE := fun σ H Q => t σ H fun vs H1 => sp (vs ++ dvs) H1 Q E
noncomputable def Binds (K : PySem.W.Frag) (fd : FuncData) (ps : List Str) (ds : List Value) : Prop :=
 ∀ (s : Shared) (us : List Value), K.In s.heap -> (us ++ ds).length = ps.length -> BindsTo s fd ⟨us, []⟩ (ps.zip (us ++ ds))
theorem Binds.all {K : PySem.W.Frag} {fd : FuncData} {ps : List Str} (h : ∀ us : List Value, us.length = ps.length -> bindArgs fd ⟨us, []⟩ = pure (ps.zip us)) : Binds K fd ps [] := fun s us _ hl => by
 rw [List.append_nil] at hl ⊢
 exact .of_eq (h us hl)
noncomputable def Passes (CX : CXT) (X : Cx) (E : XK) : Prop := ∀ (pins : List (Addr × Obj)) (σ : St) (H : Hp) (s : Shared) (e : Value) (s' : Shared), Inv X pins σ H s -> CX X.stack H s E e s' -> X.xe e s'
section
variable {X : Cx} {CX : CXT} {k : Nat} {f C : Addr} {fd : FuncData} {ps : List Str} {sp : Sp} {dvs : List V} {ds : List Value} {E : XK} {x m : Str} {p pos apos : Pos} {e o : Expr} {es : List Expr} {ta : TE} {t : TA}
theorem run_fn {pins : List (Addr × Obj)} {σ : St} {H : Hp} {s : Shared} {Q : VK} {us : List Value} {vs : List V} (F : FnOk X.prog X.w X.K X.mg X.base CX k f fd ps sp) (hr : Room k X.A) (hb : Binds X.K fd ps ds) (hd : Vals dvs ds) (hx : Passes CX X E)
  (I : Inv X pins σ H s) (r : Vals vs us) (h : sp (vs ++ dvs) H Q E) : wpAny (model X.prog X.w) X.A (call (.ref f) us) (EP X pins σ Q) X.xe s := by
 have r2 : Vals (vs ++ dvs) (us ++ ds) := r.append hd
 have hl : (us ++ ds).length = ps.length := by rw [<- r2.length]; exact F.len _ _ _ _ h
 refine wpAny_call (codeAny_mono (F.run X.A X.stack s H ⟨us, []⟩ (us ++ ds) (vs ++ dvs) Q E hr I.env0 (hb s us I.kIn hl) r2 h) fun r s' hq => ?_)
 cases r with
 | error e => exact hx pins σ H s e s' I hq
 | ok fl =>
  cases fl with
  | ret u => exact I.after hq
  | next => exact False.elim hq
  | brk => exact False.elim hq
  | cont => exact False.elim hq
theorem pe_call (F : FnOk X.prog X.w X.K X.mg X.base CX k f fd ps sp) (hr : Room k X.A) (hg : Gl X x) (hm : X.mg x = some (.ref f)) (hk : PySem.W.keepIn X.K (.ref f) = true) (hb : Binds X.K fd ps ds) (hd : Vals dvs ds) (hx : Passes CX X E)
  (ha : PA X (e :: es) t) (hdb : (x == ("__debug__" : Str)) = false := by decide) (he : starEach (e :: es) X.env = (false, eval e X.env) :: starEach es X.env := by rfl) (hpl : (backTo pos (starEach es X.env)).any (·.1) = false := by rfl) :
  PE X (.Call (.Name x p) (e :: es) [] pos) (tCall sp dvs E t) := by
 intro pins s σ H Q I h
 refine wpAny_Call_Name_kw (ld_glob I hg hm ?_ hdb)
 refine PySem.W.callWith_K (h₀ := X.base) I.ok.mod.kin hk (thn (ha pos pins s σ H _ I h) fun us s1 ⟨vs, H1, I1, r, q⟩ => ⟨I1.kIn, ?_⟩) he hpl
 exact run_fn F hr hb hd hx I1 r q
end
section
variable {X : Cx} {CX : CXT} {k : Nat} {f C : Addr} {fd : FuncData} {ps ks : List Str} {sp : Sp} {E : XK} {x m : Str} {p pos apos kpos : Pos} {e o : Expr} {es : List Expr} {kws : List Keyword} {te ta : TE} {t tk : TA} {nm : Option Str}
variable {g : List Value -> List Value -> List Value} {gV : List V -> List V -> List V}
end
structure FnScope (N P : List Str) (sc : Scope) : Prop where
 kind : sc.kind = .function
 co : sc.isCoroutine = false
 gen : sc.isGenerator = false
 nd : N.Nodup
 pre : N.take P.length = P
 par : ∀ x ∈ P, sc.names.lookup x = some .local ∨ sc.names.lookup x = some .cell
 nofree : ∀ y ∈ sc.names, y.2 ≠ .free
theorem bindL_out {kindOf : Str -> Option NameKind} {x : Str} : ∀ {binds : List (Str × Value)} {m : Str -> Option Value}, (∀ v, (x, v) ∉ binds) -> bindL kindOf binds m x = m x
 | [], _, _ => rfl
 | (n, v) :: r, m, h => by
  unfold bindL
  rw [bindL_out fun w hw => h w (List.mem_cons_of_mem _ hw)]
  split
  ·have : x ≠ n := by rintro rfl; exact h v List.mem_cons_self
   simp [this]
  ·rfl
theorem bindC_out {kindOf : Str -> Option NameKind} {x : Str} : ∀ {binds : List (Str × Value)} {m : Str -> Option Value}, (∀ v, (x, v) ∉ binds) -> bindC kindOf binds m x = m x
 | [], _, _ => rfl
 | (n, v) :: r, m, h => by
  unfold bindC
  rw [bindC_out fun w hw => h w (List.mem_cons_of_mem _ hw)]
  split
  ·rfl
  ·have : x ≠ n := by rintro rfl; exact h v List.mem_cons_self
   simp [this]
theorem bindL_get {kindOf : Str -> Option NameKind} {x : Str} {v : Value} : ∀ {P : List Str} {vs : List Value} {i : Nat} {m : Str -> Option Value}, P.Nodup -> P[i]? = some x -> vs[i]? = some v -> kindOf x = some .local ->
  bindL kindOf (P.zip vs) m x = some v
 | [], _, _, _, _, h, _, _ => by simp at h
 | _ :: _, [], _, _, _, _, h, _ => by simp at h
 | p :: P, w :: vs, 0, m, nd, h1, h2, hk => by
  simp at h1 h2; subst h1; subst h2
  show bindL kindOf ((p, w) :: P.zip vs) m p = _
  unfold bindL
  rw [bindL_out fun v hv => (List.nodup_cons.mp nd).1 (List.of_mem_zip hv).1, if_pos hk]
  simp
 | p :: P, w :: vs, i + 1, m, nd, h1, h2, hk => by
  show bindL kindOf ((p, w) :: P.zip vs) m x = _
  unfold bindL
  exact bindL_get (i := i) (List.nodup_cons.mp nd).2 (by simpa using h1) (by simpa using h2) hk
theorem bindC_get {kindOf : Str -> Option NameKind} {x : Str} {v : Value} : ∀ {P : List Str} {vs : List Value} {i : Nat} {m : Str -> Option Value}, P.Nodup -> P[i]? = some x -> vs[i]? = some v -> kindOf x ≠ some .local ->
  bindC kindOf (P.zip vs) m x = some v
 | [], _, _, _, _, h, _, _ => by simp at h
 | _ :: _, [], _, _, _, _, h, _ => by simp at h
 | p :: P, w :: vs, 0, m, nd, h1, h2, hk => by
  simp at h1 h2; subst h1; subst h2
  show bindC kindOf ((p, w) :: P.zip vs) m p = _
  unfold bindC
  rw [bindC_out fun v hv => (List.nodup_cons.mp nd).1 (List.of_mem_zip hv).1, if_neg hk]
  simp
 | p :: P, w :: vs, i + 1, m, nd, h1, h2, hk => by
  show bindC kindOf ((p, w) :: P.zip vs) m x = _
  unfold bindC
  exact bindC_get (i := i) (List.nodup_cons.mp nd).2 (by simpa using h1) (by simpa using h2) hk
noncomputable def start (N : List Str) (vs : List V) : St := vs.map some ++ List.replicate (N.length - vs.length) none
noncomputable def cxOf (CX : CXT) (P : Program) (w : World) (K : PySem.W.Frag) (mg : Str -> Option Value) (base : Heap) (N : List Str) (qual : Str) (scope : Scope) (f : Addr) (cd : Value) (A : Around) (outer : List Env) (s : Shared) (H : Hp) (E : XK) : Cx where
 prog := P
 w := w
 K := K
 mg := mg
 base := base
 A := A.deeper (envOfC qual scope s.heap.objs.size f cd)
 N := N
 s₀ := s
 H₀ := H
 env := envOfC qual scope s.heap.objs.size f cd
 outer := outer
 stack := envOfC qual scope s.heap.objs.size f cd :: outer
 ex := []
 calm := true
 fn := fun _ => true
 pn := []
 xe := fun e s' => wpAny (model P w) (A.deeper (envOfC qual scope s.heap.objs.size f cd)) (leaving (envOfC qual scope s.heap.objs.size f cd) e) (fun _ s'' => CX outer H s E e s'') (fun e' s'' => CX outer H s E e' s'') s'
theorem cell_has {sc : Scope} {n : Nat} {x : Str} (h : sc.names.lookup x = some .cell) : ∃ c, (cellsFrom n sc.names []).lookup x = some c := by
 have q := PySem.W.cellsFrom_some sc.names n [] (.inl h)
 exact Option.isSome_iff_exists.mp q
theorem inv_start {CX : CXT} {P : Program} {w : World} {K : PySem.W.Frag} {mg : Str -> Option Value} {base : Heap} {N ps : List Str} {qual : Str} {scope : Scope} {f : Addr} {cd : Value} {A : Around} {outer : List Env} {s s1 : Shared} {H : Hp} {E : XK} {us : List Value} {vs : List V}
  (S : FnScope N ps scope) (hd : A.handled = none) (e0 : Env0 P w K mg base A outer s H) (hl : vs.length = ps.length) (r : Vals vs us)
  (x : InCallC s s.heap.objs.size (bindL (envOfC qual scope s.heap.objs.size f cd).kindOf (ps.zip us) fun _ => none) (cellsFrom (s.heap.objs.size + 1) scope.names []) (bindC (envOfC qual scope s.heap.objs.size f cd).kindOf (ps.zip us) fun _ => none) s1) :
  Inv (cxOf CX P w K mg base N qual scope f cd A outer s H E) [] (start N vs) H s1 := by
 have hpl : ps.length <= N.length := by have := congrArg List.length S.pre; rw [List.length_take] at this; lia
 obtain ⟨h1, tk, rfl, hk⟩ := x.done
 have noA : ∀ b : Addr, b ∉ (cxOf CX P w K mg base N qual scope f cd A outer s H E).ex := fun b z => absurd (show b ∈ ([] : List Addr) from z) (by simp)
 refine ⟨⟨e0.mod, S.kind, rfl, rfl, Nat.le_refl _, fun y z c h1 h2 => ?_, fun y hy => ?_, fun y c _ h => ?_, fun _ => hd, Around.frames_deeper e0.frames, .inr ⟨rfl, rfl⟩, fun b z => absurd z (noA b), e0.bs, e0.bsz, fun b _ _ => noA b, fun b z => absurd z (noA b), e0.funs, e0.frf⟩,
  rfl, e0.bare, Un.kept hk, ⟨_, x.toInCall.ns, fun i y v h1 h2 h3 => ?_⟩, fun y c h => ⟨_, x.cell y c h⟩, e0.hok.fresh (Nat.le_refl _), fun y c h => ?_, fun p hp => absurd (show p ∈ ([] : List (Addr × Obj)) from hp) (by simp), e0.hok.kept hk, ?_⟩
 ·exact name_of_addr x.apart (PySem.mem_of_lookup h1) (PySem.mem_of_lookup h2)
 ·have hy : scope.names.lookup y = some .cell ∨ scope.names.lookup y = some .free := hy
  rcases hy with hy | hy
  ·exact cell_has hy
  ·exact absurd rfl (S.nofree _ (PySem.mem_of_lookup hy))
 ·exact Nat.le_of_lt (x.above y c (PySem.mem_of_lookup h))
 ·have hi : i < vs.length := by
   unfold start at h2
   by_cases hi : i < vs.length
   ·exact hi
   ·rw [List.getElem?_append_right (by simpa using hi)] at h2
    rw [List.getElem?_replicate] at h2
    split at h2 <;> cases h2
  have ha : vs[i]? = some v := by
   unfold start at h2
   rw [List.getElem?_append_left (by simpa using hi), List.getElem?_map] at h2
   cases e : vs[i]? with
   | none => rw [e] at h2; cases h2
   | some a => rw [e] at h2; cases h2; rfl
  obtain ⟨u, hu, rv⟩ := r.get ha
  have hp : ps[i]? = some y := by
   rw [<- S.pre, List.getElem?_take_of_lt (by lia)]; exact h1
  have ndP : ps.Nodup := by rw [<- S.pre]; exact S.nd.sublist (List.take_sublist _ _)
  refine ⟨u, rv, ?_⟩
  rcases S.par y (List.mem_of_getElem? hp) with k | k
  ·exact .inl ⟨k, bindL_get ndP hp hu k⟩
  ·obtain ⟨c, e⟩ := cell_has (n := s.heap.objs.size + 1) k
   refine .inr ⟨.inl k, c, e, ?_⟩
   have q := x.cell y c e
   rw [bindC_get ndP hp hu (by show scope.names.lookup y ≠ _; rw [k]; decide)] at q
   exact q
 ·exact e0.hok.fresh (Nat.le_of_lt (x.above y c (PySem.mem_of_lookup h)))
 ·unfold start
  show _ = N.length
  rw [List.length_append, List.length_map, List.length_replicate]
  lia
theorem fn_of {CX : CXT} {P : Program} {w : World} {K : PySem.W.Frag} {mg : Str -> Option Value} {base : Heap} {k : Nat} {f : Addr} {name qual : Str} {params : Arguments} {body : List Stmt} {scope : Scope} {dV kV doc pm cdv ct oc : Value} {an od : Option Addr}
  {osl : Array (Option Value)} {N ps : List Str} {sp : Sp} (lk : K.lookup f = some ⟨oc, od, .func (PySem.W.fnOf name qual params body scope dV kV doc pm an cdv ct), osl⟩) (hcd : PySem.W.codeIn K cdv qual = true) (S : FnScope N ps scope)
  (len : ∀ vs H Q E, sp vs H Q E -> vs.length = ps.length)
  (hbody : ∀ (A : Around) (outer : List Env) (s : Shared) (H : Hp) (vs : List V) (Q : VK) (E : XK), Room k (A.deeper (envOfC qual scope s.heap.objs.size f cdv)) -> sp vs H Q E ->
   ∃ t, PSs (cxOf CX P w K mg base N qual scope f cdv A outer s H E) body t /\ t { nx := fun _ H' => Q .non H', rt := Q } (start N vs) H) :
  FnOk P w K mg base CX (k + 1) f (PySem.W.fnOf name qual params body scope dV kV doc pm an cdv ct) ps sp := by
 refine ⟨len, fun A outer s H args us vs Q E hr e0 hb r hsp => ?_⟩
 have hl := len _ _ _ _ hsp
 have KX : K.In s.heap := e0.mod.kin.keeps fun b o e => (e0.bs b o e).1
 have lim : s.heap.NoLimit := e0.mod.nolimit.keeps fun b o e => (e0.bs b o e).1
 have hkind : ∀ y ∈ ps.zip us, scope.names.lookup y.1 = some .local ∨ (scope.names.lookup y.1 = some .cell /\ ((cellsFrom (s.heap.objs.size + 1) scope.names []).lookup y.1).isSome = true) := fun zz hy => by
  obtain ⟨n, v⟩ := zz
  rcases S.par n (List.of_mem_zip hy).1 with q | q
  ·exact .inl q
  ·exact .inr ⟨q, PySem.W.cellsFrom_some _ _ _ (.inl q)⟩
 refine codeAny_call_function hr.depth (KX _ _ lk) rfl S.co S.gen rfl (PySem.W.codeRec_of KX hcd) (hb _ _ _ _ ?_)
 refine wpAny_newFunctionEnv_cells S.kind hkind fun env he s1 x => ?_
 subst he
 refine ⟨lim.keeps x.toInCall.keep, codeAny_func ?_⟩
 obtain ⟨t, ht, hq⟩ := hbody A outer s H vs Q E (hr.deeper _) hsp
 have I : Inv (cxOf CX P w K mg base N qual scope f cdv A outer s H E) [] (start N vs) H s1 := inv_start S hr.hd e0 hl r x
 refine wpAny_mono (ht [] s1 (start N vs) H _ I hq) (fun fl s' hs => ?_) fun e s' hs => hs
 have fin : ∀ {σ' : St} {H' : Hp} {v : V} {u : Value}, Inv (cxOf CX P w K mg base N qual scope f cdv A outer s H E) [] σ' H' s' -> RelV v u -> Q v H' -> CE outer P w H s Q u s' :=
  fun {σ' H' v u} J rv q => ⟨v, H', J.os, J.bare, J.base, J.hok, rv, q⟩
 cases fl with
 | ret u =>
  obtain ⟨v, σ', H', J, rv, q⟩ := hs
  exact fin J rv q
 | next =>
  obtain ⟨σ', H', J, q⟩ := hs
  exact fin (v := V.non) (u := Value.none) J rfl q
 | brk =>
  obtain ⟨_, _, _, q⟩ := hs
  exact False.elim q
 | cont =>
  obtain ⟨_, _, _, q⟩ := hs
  exact False.elim q
end L2
namespace L2
open PySem PySem.Spec PyProof.Rows
section
variable {X : Cx} {x : Str} {p pos : Pos} {e : Expr} {es : List Expr} {t : TA} {id T : String} {r : List V -> Hp -> VK -> Prop}
noncomputable def tCB (r : List V -> Hp -> VK -> Prop) (t : TA) : TE := fun σ H Q => t σ H fun vs H1 => r vs H1 Q
theorem pe_callB (hc : CallR X (.builtin id) r) (hg : Gl X x) (hm : X.mg x = none) (hv : bootBuiltins x = some (.builtin id)) (ha : PA X (e :: es) t) (hn : x ≠ "__name__" := by decide) (hdb : (x == ("__debug__" : Str)) = false := by decide)
  (he : starEach (e :: es) X.env = (false, eval e X.env) :: starEach es X.env := by rfl) (hpl : (backTo pos (starEach es X.env)).any (·.1) = false := by rfl) : PE X (.Call (.Name x p) (e :: es) [] pos) (tCB r t) := by
 intro pins s σ H Q I h
 refine wpAny_Call_Name_kw (ld_blt I hg hm hv ?_ hn hdb)
 exact PyProof.Rows.callWith_builtin1 (thn (ha pos pins s σ H _ I h) fun us s1 ⟨vs, H1, I1, r1, q1⟩ => hc pins s1 σ H1 vs us Q I1 r1 q1) he hpl
theorem pe_callTy (hc : CallR X (.type T) r) (hg : Gl X x) (hm : X.mg x = none) (hv : bootBuiltins x = some (.type T)) (ha : PA X (e :: es) t) (hn : x ≠ "__name__" := by decide) (hdb : (x == ("__debug__" : Str)) = false := by decide)
  (he : starEach (e :: es) X.env = (false, eval e X.env) :: starEach es X.env := by rfl) (hpl : (backTo pos (starEach es X.env)).any (·.1) = false := by rfl) : PE X (.Call (.Name x p) (e :: es) [] pos) (tCB r t) := by
 intro pins s σ H Q I h
 refine wpAny_Call_Name_kw (ld_blt I hg hm hv ?_ hn hdb)
 exact PyProof.Rows.callWith_type1 (thn (ha pos pins s σ H _ I h) fun us s1 ⟨vs, H1, I1, r1, q1⟩ => hc pins s1 σ H1 vs us Q I1 r1 q1) he hpl
end
end L2
namespace HT
open PySem PyProof.Rows
noncomputable def lexLt : List Int -> List Int -> Bool
 | [], [] => false
 | [], _ :: _ => true
 | _ :: _, [] => false
 | x :: xs, y :: ys => if x = y then lexLt xs ys else decide (x < y)
theorem lexLt_cons (x y : Int) (xs ys : List Int) : lexLt (x :: xs) (y :: ys) = if x = y then lexLt xs ys else decide (x < y) := rfl
theorem lexLt_nil_nil : lexLt [] [] = false := rfl
theorem lexLt_nil_cons (y : Int) (ys : List Int) : lexLt [] (y :: ys) = true := rfl
theorem lexLt_cons_nil (x : Int) (xs : List Int) : lexLt (x :: xs) [] = false := rfl
theorem eqAt_int (A : Around) (s : Shared) (a : Int) (t : Tok) (c : Int) (u : Tok) : ∃ e, SeqAt.EqAt A s (.int a t) (.int c u) e /\ (e = true ↔ a = c) :=
 ⟨(a == c), SeqAt.EqAt.int_int a t c u, by simp⟩
theorem rcLt_int (A : Around) (s : Shared) (a : Int) (t : Tok) (c : Int) (u : Tok) (prog : Program) (w : World) (E : Value -> Shared -> Prop) (Q : Value -> Shared -> Prop) (h : Q (.bool (decide (a < c))) s) :
  wpAny (model prog w) A (richCompare .Lt (.int a t) (.int c u)) Q E s :=
 (PyProof.Rows.lt_int h : wpAny (model prog w) A (compareOp .Lt (.int a t) (.int c u)) Q E s)
section
open PySem.SeqAt
open PySem.AutoSeq1 (wpAny_loadPart')
open PySem.MeetsSeq PySem.MeetsSeq2 PySem.MeetsSeq3
theorem tuple_lt_ints (l b : Addr) (items items2 : Array Value) (n n2 : Nat) (dd dd2 : Option Addr) (sl sl2 : Array (Option Value)) (ns ms : List Int) (hi : IntsAre items.toList ns) (hj : IntsAre items2.toList ms) :
  Meets (Builtin.«tuple.__lt__» ⟨[.ref l, .ref b], []⟩)
   (fun _ R s => s.heap.get? l = some { cls := .type "tuple", dict := dd, data := .seq items n, slots := sl } /\ s.heap.get? b = some { cls := .type "tuple", dict := dd2, data := .seq items2 n2, slots := sl2 } /\
    R (.ok (.ret (.bool (lexLt ns ms)))) s) :=
 .of_wp fun prog w A R s h => by
  obtain ⟨hp, g, d, tk, os⟩ := s; obtain ⟨hl, hb, h⟩ := h
  have f2 := AutoSeq1.sub_tuple_tuple
  have z1 : items.size = ns.length := by rw [<- hi.length]; simp
  have z2 : items2.size = ms.length := by rw [<- hj.length]; simp
  wp_walk using wpAny_loadPart' hl, wpAny_loadPart' hb, wpAny_forIn_list _ (fun rest b s' => b.1 = none /\ s' = ⟨hp, g, d, tk, os⟩ /\ ∃ (vs ws : List Value) (ns' ms' : List Int), rest = vs.zip ws /\
   IntsAre vs ns' /\ IntsAre ws ms' /\ ns'.length + items2.size = ms'.length + items.size /\ R (.ok (.ret (.bool (lexLt ns' ms')))) ⟨hp, g, d, tk, os⟩) _
  case turn =>
   rintro ⟨y, x⟩ rest b s' ⟨hb', rfl, vs, ws, ns', ms', hz, hvi, hwi, hlen, hR⟩
   cases hvi with
   | nil => rw [List.zip_nil_left] at hz; cases hz
   | cons a t hvi' =>
    cases hwi with
    | nil => rw [List.zip_nil_right] at hz; cases hz
    | cons c u hwi' =>
     rw [List.zip_cons_cons] at hz
     injection hz with hyx hrest
     injection hyx with hy hx
     subst hy hx
     rw [lexLt_cons] at hR
     simp only [List.length_cons] at hlen
     obtain ⟨e, he, hiff⟩ := eqAt_int A.in1 ⟨hp, g, d, tk, os⟩ a t c u
     refine wpAny_bind (he prog w _ _ ?_)
     cases e with
     | true =>
      rw [if_pos (hiff.mp rfl)] at hR
      wp_walk
      exact ⟨rfl, rfl, _, _, _, _, hrest, hvi', hwi', by lia, hR⟩
     | false =>
      rw [if_neg (fun q => absurd (hiff.mpr q) Bool.false_ne_true)] at hR
      have hri := rcLt_int A.in1 ⟨hp, g, d, tk, os⟩ a t c u prog w
      wp_walk using hri
      exact ⟨_, rfl, by simpa using hR⟩
  case fin =>
   rintro ⟨b1, b2⟩ s' ⟨hb', rfl, vs, ws, ns', ms', hz, hvi, hwi, hlen, hR⟩
   simp only at hb'
   subst hb'
   have hv : lexLt ns' ms' = decide (items.size < items2.size) := by
    cases hvi with
    | nil =>
     cases hwi with
     | nil =>
      simp only [List.length_nil] at hlen
      rw [lexLt_nil_nil]
      exact (decide_eq_false (by lia)).symm
     | cons c u hw =>
      simp only [List.length_nil, List.length_cons] at hlen
      rw [lexLt_nil_cons]
      exact (decide_eq_true (by lia)).symm
    | cons a t hv =>
     cases hwi with
     | nil =>
      simp only [List.length_nil, List.length_cons] at hlen
      rw [lexLt_cons_nil]
      exact (decide_eq_false (by lia)).symm
     | cons c u hw =>
      rw [List.zip_cons_cons] at hz
      cases hz
   rw [hv] at hR
   wp_walk
   exact ⟨_, rfl, by simpa [Builtin.Tuple.tupleCompareSizes] using hR⟩
  case h =>
   exact ⟨rfl, rfl, items.toList, items2.toList, ns, ms, rfl, hi, hj, by lia, h⟩
end
section
variable {prog : Program} {w : World} {A : Around} {E : Value -> Shared -> Prop} {s : Shared}
theorem lt_tupInts {l b : Addr} {items items2 : Array Value} {ns ms : List Int} {Q : Value -> Shared -> Prop} (hl : IsTup s.heap l items) (hb : IsTup s.heap b items2) (hi : IntsAre items.toList ns) (hj : IntsAre items2.toList ms)
  (hu : A.units < cLine) (h : Q (.bool (lexLt ns ms)) s) : wpAny (model prog w) A (compareOp .Lt (.ref l) (.ref b)) Q E s := by
 obtain ⟨⟨cls, dd, data, sl⟩, ho, hc, n, hd⟩ := id hl
 obtain ⟨⟨cls2, dd2, data2, sl2⟩, ho2, hc2, n2, hd2⟩ := id hb
 simp only at hc hd hc2 hd2
 subst hc hd hc2 hd2
 exact richCompare_meets_room (op := .Lt) ⟨_, ho, rfl⟩ ⟨_, ho2, rfl⟩ PySem.F.slot_tuple_lt PySem.F.entry_tuple_lt (PySem.F.args_tuple_lt_2 _ _) (tuple_lt_ints l b items items2 n n2 dd dd2 sl sl2 ns ms hi hj)
  ⟨ho, ho2, show Value.bool (lexLt ns ms) ≠ Value.notImplemented /\ Q (.bool (lexLt ns ms)) s from ⟨(fun x => nomatch x), h⟩⟩ hu
theorem cat_tup {t b : Addr} {vs ws : List Value} {Q : Value -> Shared -> Prop} (ht : IsTup s.heap t vs.toArray) (hb : IsTup s.heap b ws.toArray) (hv : vs ≠ [])
  (h1 : ws = [] -> Q (.ref t) s) (h2 : ws ≠ [] -> Q (.ref s.heap.objs.size) { s with heap := s.heap.push { cls := .type "tuple", data := .seq (vs ++ ws).toArray } })
  (hsz : vs.length + ws.length <= sizeLine) : wpAny (model prog w) A (binaryOp .Add (.ref t) (.ref b)) Q E s := by
 obtain ⟨⟨cls, dd, data, sl⟩, ho, hc, n, hd⟩ := id ht
 obtain ⟨⟨cls2, dd2, data2, sl2⟩, ho2, hc2, n2, hd2⟩ := id hb
 simp only at hc hd hc2 hd2
 subst hc hd hc2 hd2
 have e : vs.toArray ++ ws.toArray = (vs ++ ws).toArray := by simp
 by_cases hw : ws = []
 ·exact concat_meets ⟨_, ho, rfl⟩ ⟨_, ho2, rfl⟩ noFill_tuple_add seq_tuple_add PySem.F.slot_tuple_add PySem.F.entry_tuple_add (PySem.F.args_tuple_add_2 _ _)
   (tuple_addW1 t b vs.toArray ws.toArray n n2 dd dd2 sl sl2 (by simpa using hv) (by simp [hw])) ⟨ho, ho2, h1 hw⟩
 ·refine concat_meets ⟨_, ho, rfl⟩ ⟨_, ho2, rfl⟩ noFill_tuple_add seq_tuple_add PySem.F.slot_tuple_add PySem.F.entry_tuple_add (PySem.F.args_tuple_add_2 _ _)
   (tuple_addW2 t b vs.toArray ws.toArray n n2 dd dd2 sl sl2 (by simpa using hv) (by simpa using hw) (by rw [List.size_toArray, List.size_toArray]; exact hsz)) ⟨ho, ho2, ?_⟩
  rw [e]
  exact h2 hw
noncomputable def sIx (n d : Nat) : Option Int -> Nat
 | none => d
 | some v => if v < 0 then (v + (n : Int)).toNat else min v.toNat n
theorem sIx_none (n d : Nat) : sIx n d none = d := rfl
theorem sIx_nat (n d k : Nat) : sIx n d (some (k : Int)) = min k n := by
 show (if (k : Int) < 0 then ((k : Int) + (n : Int)).toNat else min (k : Int).toNat n) = min k n
 rw [if_neg (by lia), Int.toNat_natCast]
theorem sIx_le (n d : Nat) (hd : d <= n) (o : Option Int) : sIx n d o <= n := by
 cases o with
 | none => exact hd
 | some v =>
  show (if v < 0 then (v + (n : Int)).toNat else min v.toNat n) <= n
  by_cases hv : v < 0
  ·rw [if_pos hv]; lia
  ·rw [if_neg hv]; exact Nat.min_le_right _ _
theorem clip_eq (v : Int) (n d : Nat) : (if v < 0 then max (v + (n : Int)) 0 else min v (n : Int)) = ((sIx n d (some v) : Nat) : Int) := by
 show (if v < 0 then max (v + (n : Int)) 0 else min v (n : Int)) = (((if v < 0 then (v + (n : Int)).toNat else min v.toNat n) : Nat) : Int)
 by_cases hv : v < 0
 ·simp only [if_pos hv]; lia
 ·simp only [if_neg hv]; lia
theorem adjust_gen (lo hi : Option Int) (n : Nat) : Builtin.Slice.sliceAdjust lo hi 1 (n : Int) = (((sIx n 0 lo : Nat) : Int), ((sIx n n hi : Nat) : Int)) := by
 have h1 : ¬ ((1 : Int) < 0) := by lia
 unfold Builtin.Slice.sliceAdjust
 simp only [h1, if_false]
 refine Prod.ext ?_ ?_
 ·cases lo with
  | none => rfl
  | some v => exact clip_eq v n 0
 ·cases hi with
  | none => rfl
  | some v => exact clip_eq v n n
theorem places_gen (i j : Nat) : Builtin.Slice.slicePlaces (i : Int) (j : Int) 1 = j - i := by
 unfold Builtin.Slice.slicePlaces
 have h1 : (1 : Int) > 0 := by lia
 simp only [h1, if_true, Int.ediv_one]
 split <;> lia
theorem slicePart_ {v : Value} {o : Option Int} {Q : Option Int -> Shared -> Prop} (p : IsPart v o) (h : Q o s) : wpAny (model prog w) A (Builtin.Slice.slicePartIndex v) Q E s := by
 cases p with
 | none => exact slicePart_none h
 | int i t => exact slicePart_int h
theorem sliceApplied_gen {sl : Addr} {vl vu : Value} {lo hi : Option Int} {n : Nat} {Q : Int × Int × Nat -> Shared -> Prop} (hs : s.heap.IsSliceOf sl vl vu .none) (pl : IsPart vl lo) (pu : IsPart vu hi)
  (h : Q (((sIx n 0 lo : Nat) : Int), 1, sIx n n hi - sIx n 0 lo) s) : wpAny (model prog w) A (Builtin.Slice.sliceApplied (.ref sl) (pure (n : Int))) Q E s := by
 obtain ⟨os, hos, hcs, hds⟩ := id hs
 unfold Builtin.Slice.sliceApplied Builtin.Slice.sliceFields
 refine wpAny_bind (wpAny_bind (wpAny_field hos hds (x := vl) rfl (wpAny_bind (wpAny_field hos hds (x := vu) rfl (wpAny_bind (wpAny_field hos hds (x := .none) rfl (wpAny_pure ?_)))))))
 refine wpAny_bind (slicePart_none ?_)
 show wpAny _ _ (if ((1 : Int) == 0) = true then _ else _) _ _ s
 rw [if_neg (by decide)]
 refine wpAny_bind (slicePart_ pl (wpAny_bind (slicePart_ pu (wpAny_bind (wpAny_pure ?_)))))
 show wpAny _ _ (match Builtin.Slice.sliceAdjust lo hi 1 (n : Int) with | (lo, hi) => pure (lo, (1 : Int), Builtin.Slice.slicePlaces lo hi 1)) _ _ s
 rw [adjust_gen lo hi n]
 show wpAny _ _ (pure (((sIx n 0 lo : Nat) : Int), (1 : Int), Builtin.Slice.slicePlaces ((sIx n 0 lo : Nat) : Int) ((sIx n n hi : Nat) : Int) 1)) _ _ s
 rw [places_gen]
 exact wpAny_pure h
theorem pick_gen (xs : Array Value) (i k : Nat) : ((List.range k).filterMap fun (m : Nat) => xs[((i : Int) + (m : Int) * 1).toNat]?).toArray = ((xs.toList.drop i).take k).toArray := by
 have e : (fun (m : Nat) => xs[((i : Int) + (m : Int) * 1).toNat]?) = fun m => xs[i + m]? := by
  funext m
  have : ((i : Int) + (m : Int) * 1).toNat = i + m := by lia
  rw [this]
 rw [e]
 have := pick_run xs i k
 rw [List.filterMap_map] at this
 have e2 : ((fun x => xs[x]?) ∘ fun x => i + x) = fun m => xs[i + m]? := rfl
 rw [e2] at this
 rw [this]
theorem getItem_tuple_cut {t sl : Addr} {items : Array Value} {vl vu : Value} {lo hi : Option Int} {Q : Value -> Shared -> Prop} (ht : IsTup s.heap t items) (hs : s.heap.IsSliceOf sl vl vu .none) (pl : IsPart vl lo) (pu : IsPart vu hi)
  (hw : ¬ (sIx items.size 0 lo = 0 /\ sIx items.size items.size hi = items.size))
  (h : Q (.ref s.heap.objs.size) { s with heap := s.heap.push { cls := .type "tuple", data := .seq ((items.toList.drop (sIx items.size 0 lo)).take (sIx items.size items.size hi - sIx items.size 0 lo)).toArray } })
  (hsz : items.size <= sizeLine) : wpAny (model prog w) A (getItem (.ref t) (.ref sl)) Q E s := by
 have htake : sizeOk (.seq ((items.toList.drop (sIx items.size 0 lo)).take (sIx items.size items.size hi - sIx items.size 0 lo)).toArray) := by
  show ((items.toList.drop (sIx items.size 0 lo)).take (sIx items.size items.size hi - sIx items.size 0 lo)).toArray.size <= sizeLine
  rw [List.size_toArray, List.length_take, List.length_drop, Array.length_toList]
  lia
 have hj : sIx items.size items.size hi <= items.size := sIx_le _ _ (Nat.le_refl _) hi
 obtain ⟨os, hos, hcs, hds⟩ := id hs
 have hTs : s.TypeIs (.ref sl) "slice" := ⟨os, hos, hcs⟩
 unfold getItem
 try with_reducible refine wpAny_holding ?_
 first | refine wpAny_bind (wpAny_pure ?_) | skip
 refine wpAny_bind (wpAny_sequenceKey ht.typeIs (by decide) ?_)
 refine wpAny_bind (wpAny_callSpecial?_slot (name := Str.ofString "__getitem__") ht.typeIs PyProof.Rows.slot_tuple_getitem
  (wpAny_call_entry PyProof.Rows.slot_tuple_getitem ht.typeIs entry_tuple_getitem ?_ (args_tuple_getitem _ _)))
 show wpAny _ _ (Builtin.Tuple.tupleItemsOf (.ref t) >>= _) _ _ s
 refine wpAny_bind (tupleItemsOf_ ht ?_)
 refine wpAny_bind (wpAny_typeOf hTs ?_)
 rw [if_pos (by decide)]
 refine wpAny_bind (sliceApplied_gen hs pl pu ?_)
 have hno : ¬ ((((sIx items.size 0 lo : Nat) : Int) == 0 && (1 : Int) == 1 && (sIx items.size items.size hi - sIx items.size 0 lo) == items.size) = true) := by
  intro q
  rw [Bool.and_eq_true, Bool.and_eq_true] at q
  have q1 : ((sIx items.size 0 lo : Nat) : Int) = 0 := eq_of_beq q.1.1
  have q2 : sIx items.size items.size hi - sIx items.size 0 lo = items.size := eq_of_beq q.2
  exact hw ⟨by lia, by lia⟩
 show wpAny _ _ (if (((sIx items.size 0 lo : Nat) : Int) == 0 && (1 : Int) == 1 && (sIx items.size items.size hi - sIx items.size 0 lo) == items.size) = true then _ else _) _ _ s
 rw [if_neg hno, pick_gen]
 first
  | exact wpAny_bind (m := Builtin.Tuple.tupleExact _) (wpAny_newObj_type (wpAny_pure ⟨_, rfl, wpAny_pure h⟩) htake)
  | exact wpAny_bind (m := Builtin.Tuple.tupleExact _) (wpAny_newObj_type (wpAny_bind (wpAny_pure (wpAny_pure ⟨_, rfl, wpAny_pure h⟩))) htake)
  | exact wpAny_bind (wpAny_bind (m := Builtin.Tuple.tupleExact _) (wpAny_newObj_type (wpAny_pure (wpAny_pure ⟨_, rfl, wpAny_pure h⟩)) htake))
  | exact wpAny_bind (wpAny_bind (m := Builtin.Tuple.tupleExact _) (wpAny_newObj_type (wpAny_pure ⟨_, rfl, wpAny_pure h⟩) htake))
end
end HT
namespace L2
open PySem PySem.Spec PyProof.Rows
abbrev TO := St -> Hp -> (Option Int -> Hp -> Prop) -> Prop
noncomputable def PO (X : Cx) (e : Option Expr) (t : TO) : Prop :=
 ∀ (pins : List (Addr × Obj)) (s : Shared) (σ : St) (H : Hp) (Q : Option Int -> Hp -> Prop), Inv X pins σ H s -> t σ H Q ->
  wpAny (model X.prog X.w) X.A (evalPart e X.env) (fun u s' => ∃ o H', Inv X pins σ H' s' /\ IsPart u o /\ Q o H') X.xe s
noncomputable def tNoPart : TO := fun _ H Q => Q none H
noncomputable def tPart (t : TE) : TO := fun σ H Q => t σ H fun x H1 => ∃ i, x = .int i /\ Q (some i) H1
theorem intsAre_of {ns : List Int} : ∀ {us : List Value}, Vals (ns.map V.int) us -> IntsAre us ns := by
 induction ns with
 | nil => intro us r; rw [List.map_nil] at r; cases r; exact .nil
 | cons n ns ih =>
  intro us r
  rw [List.map_cons] at r
  cases r with
  | cons r1 r2 =>
   obtain ⟨t, e⟩ := r1
   subst e
   exact .cons n t (ih r2)
section
variable {X : Cx} {e : Expr} {te : TE} {lo hi : Option Expr} {tl th : TO} {pos p2 : Pos}
theorem po_none : PO X none tNoPart := by
 intro pins s σ H Q I h
 rw [evalPart_none]
 exact wpAny_pure ⟨none, H, I, .none, h⟩
theorem po_some (h : PE X e te) : PO X (some e) (tPart te) := by
 intro pins s σ H Q I hw
 rw [evalPart_some]
 refine thn (h pins s σ H _ I hw) fun u s1 zz => ?_
 obtain ⟨x, H1, I1, r1, q1⟩ := zz
 obtain ⟨i, rfl, q⟩ := q1
 obtain ⟨t, rfl⟩ := r1
 exact ⟨some i, H1, I1, .int i t, q⟩
noncomputable def SlR (X : Cx) (r : V -> Option Int -> Option Int -> Hp -> VK -> Prop) : Prop :=
 ∀ (pins : List (Addr × Obj)) (s : Shared) (σ : St) (H : Hp) (x : V) (v vl vu : Value) (lo hi : Option Int) (sl : Addr) (Q : VK), Inv X pins σ H s -> RelV x v -> s.heap.IsSliceOf sl vl vu .none -> IsPart vl lo -> IsPart vu hi -> r x lo hi H Q ->
  ∃ T id, typeLookup (.type T) "__getitem__" = pure (some (.builtin id)) /\ s.TypeIs v T /\ wpAny (model X.prog X.w) X.A (getItem v (.ref sl)) (EP X pins σ Q) X.xe s
theorem SlR.or {r r' : V -> Option Int -> Option Int -> Hp -> VK -> Prop} (h : SlR X r) (h' : SlR X r') : SlR X (fun x lo hi H Q => r x lo hi H Q ∨ r' x lo hi H Q) := by
 intro pins s σ H x v vl vu lo hi sl Q I rx hs pl pu q
 rcases q with q | q
 ·exact h pins s σ H x v vl vu lo hi sl Q I rx hs pl pu q
 ·exact h' pins s σ H x v vl vu lo hi sl Q I rx hs pl pu q
noncomputable def tSl (r : V -> Option Int -> Option Int -> Hp -> VK -> Prop) (te : TE) (tl th : TO) : TE := fun σ H Q => te σ H fun x H1 => tl σ H1 fun l H2 => th σ H2 fun u H3 => r x l u H3 Q
theorem pe_slice {r : V -> Option Int -> Option Int -> Hp -> VK -> Prop} (hr : SlR X r) (he : PE X e te) (hl : PO X lo tl) (hu : PO X hi th) : PE X (.Subscript e (.Slice lo hi none p2) pos) (tSl r te tl th) := by
 intro pins s σ H Q I h
 refine Subscript_ (thn (he pins s σ H _ I h) fun v s1 zz => ?_)
 obtain ⟨x, H1, I1, r1, q1⟩ := zz
 refine wpAny_Slice (thn (hl pins s1 σ H1 _ I1 q1) fun vl s2 ⟨l, H2, I2, pl, q2⟩ => thn (hu pins s2 σ H2 _ I2 q2) fun vu s3 zz => ?_)
 obtain ⟨u, H3, I3, pu, q3⟩ := zz
 rw [evalPart_none]
 refine wpAny_pure ?_
 have I4 : Inv X pins σ H3 { s3 with heap := s3.heap.push { cls := .type "slice", data := .fields #[vl, vu, .none] } } := I3.kept (t' := s3.toks) fun b ob q => Heap.get?_push_of_some _ q
 obtain ⟨T, id, hT, ht, hg⟩ := hr pins { s3 with heap := s3.heap.push { cls := .type "slice", data := .fields #[vl, vu, .none] } } σ H3 x v vl vu l u s3.heap.objs.size Q I4 r1 (Heap.IsSliceOf.new ..) pl pu q3
 show wpAny (model X.prog X.w) X.A (subscriptTail e (.Slice lo hi none p2) v (.ref s3.heap.objs.size)) (EP X pins σ Q) X.xe { s3 with heap := s3.heap.push { cls := .type "slice", data := .fields #[vl, vu, .none] } }
 exact tail_any (ops := [.ref s3.heap.objs.size, v]) ht hT hg (by with_unfolding_all rfl)
noncomputable def cutV (xs : List V) (lo hi : Option Int) : List V := (xs.drop (HT.sIx xs.length 0 lo)).take (HT.sIx xs.length xs.length hi - HT.sIx xs.length 0 lo)
theorem cutV_length (xs : List V) (lo hi : Option Int) : (cutV xs lo hi).length <= xs.length := by
 unfold cutV
 rw [List.length_take, List.length_drop]
 lia
noncomputable def rSlT (K : PySem.W.Frag) : V -> Option Int -> Option Int -> Hp -> VK -> Prop := fun x lo hi H Q => ∃ a xs, x = .ref a /\ SqT K H a xs /\
 ¬ (HT.sIx xs.length 0 lo = 0 /\ HT.sIx xs.length xs.length hi = xs.length) /\ ∀ p, H p = none -> Q (.ref p) (upd H p (.tup (cutV xs lo hi)))
theorem sl_tup : SlR X (rSlT X.K) := by
 intro pins s σ H x v vl vu lo hi sl Q I rx hs pl pu h
 obtain ⟨a, xs, rfl, hx, hw, q⟩ := h
 cases rx
 obtain ⟨its, r, ht, hz⟩ := I.tuple hx
 have hlen : its.toArray.size = xs.length := by rw [List.size_toArray]; exact r.length.symm
 refine ⟨"tuple", _, PyProof.Rows.slot_tuple_getitem.lookup, ht.typeIs, ?_⟩
 refine HT.getItem_tuple_cut ht hs pl pu (by rw [hlen]; exact hw) ?_ (by rw [hlen]; exact hz)
 rw [hlen]
 refine ⟨.ref s.heap.objs.size, _, I.laid (t' := s.toks) (o := .tup (cutV xs lo hi)) (fun b ob q => Heap.get?_push_of_some _ q) (Nat.le_refl _) ?_, rfl, q _ (I.hok.fresh (Nat.le_refl _))⟩
 exact ⟨Nat.le_trans (cutV_length xs lo hi) hz, _, (r.drop (HT.sIx xs.length 0 lo)).take (HT.sIx xs.length xs.length hi - HT.sIx xs.length 0 lo), IsTup.new _ _⟩
noncomputable def rLtT (K : PySem.W.Frag) : R2 := fun x y H Q => ∃ a b ns ms, x = .ref a /\ y = .ref b /\ SqT K H a (ns.map V.int) /\ SqT K H b (ms.map V.int) /\ Q (.bl (HT.lexLt ns ms)) H
theorem op_ltT (hu : X.A.units < cLine) : OpR X (compareOp .Lt) (rLtT X.K) := by
 intro pins s σ H x y v u Q I rx ry h
 obtain ⟨a, b, ns, ms, rfl, rfl, ha, hb, q⟩ := h
 cases rx
 cases ry
 obtain ⟨its, r1, p1, _⟩ := I.tuple ha
 obtain ⟨its2, r2, p2, _⟩ := I.tuple hb
 have i1 : IntsAre its.toArray.toList ns := intsAre_of r1
 have i2 : IntsAre its2.toArray.toList ms := intsAre_of r2
 exact HT.lt_tupInts p1 p2 i1 i2 hu ⟨.bl (HT.lexLt ns ms), H, I, rfl, q⟩
noncomputable def rCatT (K : PySem.W.Frag) : R2 := fun x y H Q => ∃ a b xs ys, x = .ref a /\ y = .ref b /\ SqT K H a xs /\ SqT K H b ys /\ xs ≠ [] /\ xs.length + ys.length <= sizeLine /\
 (ys = [] -> Q (.ref a) H) /\ (ys ≠ [] -> ∀ p, H p = none -> Q (.ref p) (upd H p (.tup (xs ++ ys))))
theorem Vals.nil_iff {xs : List V} {us : List Value} (r : Vals xs us) : us = [] ↔ xs = [] := by
 cases r with
 | nil => simp
 | cons _ _ => simp
theorem op_catT : OpR X (binaryOp .Add) (rCatT X.K) := by
 intro pins s σ H x y v u Q I rx ry h
 obtain ⟨a, b, xs, ys, rfl, rfl, ha, hb, hx, hz, q1, q2⟩ := h
 cases rx
 cases ry
 obtain ⟨its, r1, p1, _⟩ := I.tuple ha
 obtain ⟨its2, r2, p2, _⟩ := I.tuple hb
 refine HT.cat_tup p1 p2 (fun z => hx (r1.nil_iff.mp z)) (fun z => ⟨.ref a, H, I, rfl, q1 (r2.nil_iff.mp z)⟩) (fun z => ?_) (by rw [<- r1.length, <- r2.length]; exact hz)
 refine ⟨.ref s.heap.objs.size, _, I.laid (t' := s.toks) (o := .tup (xs ++ ys)) (fun b ob q => Heap.get?_push_of_some _ q) (Nat.le_refl _) ?_, rfl, q2 (fun w => z (r2.nil_iff.mpr w)) _ (I.hok.fresh (Nat.le_refl _))⟩
 exact ⟨by rw [List.length_append]; exact hz, _, r1.append r2, IsTup.new _ _⟩
end
end L2
namespace L2
open PySem PySem.Spec PyProof.Rows
noncomputable def ixN (n : Nat) (i : Int) : Option Nat := if 0 <= i then (if i < n then some i.toNat else none) else if -(n : Int) <= i then some (i + n).toNat else none
noncomputable def atI {α : Type} (xs : List α) (i : Int) : Option α := (ixN xs.length i).bind fun j => xs[j]?
theorem ixN_seq {n : Nat} {i : Int} {j : Nat} (h : ixN n i = some j) : seqIndex? i n = some j /\ j < n /\ -(n : Int) <= i /\ i < n := by
 unfold ixN at h
 by_cases h0 : 0 <= i
 ·rw [if_pos h0] at h
  by_cases h1 : i < n
  ·rw [if_pos h1] at h
   have e : i.toNat = j := Option.some.inj h
   exact ⟨by rw [seqIndex_of h0 h1, e], by lia, by lia, h1⟩
  ·rw [if_neg h1] at h; cases h
 ·rw [if_neg h0] at h
  by_cases h1 : -(n : Int) <= i
  ·rw [if_pos h1] at h
   have e : (i + n).toNat = j := Option.some.inj h
   exact ⟨by rw [seqIndex_neg (by lia) h1, e], by lia, h1, by lia⟩
  ·rw [if_neg h1] at h; cases h
theorem atI_get {α : Type} {xs : List α} {i : Int} {v : α} (h : atI xs i = some v) : ∃ j, seqIndex? i xs.length = some j /\ xs[j]? = some v /\ j < xs.length /\ -(xs.length : Int) <= i /\ i < xs.length := by
 unfold atI at h
 cases e : ixN xs.length i with
 | none => rw [e] at h; cases h
 | some j =>
  rw [e] at h
  obtain ⟨h1, h2, h3, h4⟩ := ixN_seq e
  exact ⟨j, h1, h, h2, h3, h4⟩
noncomputable def PlainIx (b : Expr) : Prop := ∀ o i, subscripted b false o i = operate [o, i] (getItem o i)
noncomputable def IxR (X : Cx) (r : R2) : Prop :=
 ∀ (value slice : Expr) (pins : List (Addr × Obj)) (s : Shared) (σ : St) (H : Hp) (x y : V) (v u : Value) (Q : VK), Inv X pins σ H s -> RelV x v -> RelV y u -> r x y H Q ->
  subscripted slice false v u = operate [v, u] (getItem v u) -> wpAny (model X.prog X.w) X.A (subscriptTail value slice v u) (EP X pins σ Q) X.xe s
noncomputable def MtR (X : Cx) (id : String) (r : V -> List V -> Hp -> VK -> Prop) : Prop :=
 ∀ (pins : List (Addr × Obj)) (s : Shared) (σ : St) (H : Hp) (x : V) (xs : List V) (v : Value) (us : List Value) (Q : VK), Inv X pins σ H s -> RelV x v -> Vals xs us -> r x xs H Q ->
  wpAny (model X.prog X.w) X.A (call (.builtin id) (v :: us)) (EP X pins σ Q) X.xe s
section
variable {X : Cx} {a b : Expr} {ta tb : TE} {pos : Pos}
theorem IxR.or {r r' : R2} (h : IxR X r) (h' : IxR X r') : IxR X (fun x y H Q => r x y H Q ∨ r' x y H Q) := by
 intro value slice pins s σ H x y v u Q I rx ry q hs
 rcases q with q | q
 ·exact h value slice pins s σ H x y v u Q I rx ry q hs
 ·exact h' value slice pins s σ H x y v u Q I rx ry q hs
theorem pe_ix {r : R2} (hr : IxR X r) (ha : PE X a ta) (hb : PE X b tb) (hs : PlainIx b) : PE X (.Subscript a b pos) (tOp r ta tb) := by
 intro pins s σ H Q I h
 exact Subscript_ (binT ha hb I h fun v u s2 x y H2 I2 rx ry q => hr a b pins s2 σ H2 x y v u Q I2 rx ry q (hs _ _))
noncomputable def rIxL (K : PySem.W.Frag) : R2 := fun x y H Q => ∃ p xs i v, x = .ref p /\ y = .int i /\ SqL K H p xs /\ atI xs i = some v /\ Q v H
noncomputable def rIxT (K : PySem.W.Frag) : R2 := fun x y H Q => ∃ p xs i v, x = .ref p /\ y = .int i /\ SqT K H p xs /\ atI xs i = some v /\ Q v H
noncomputable def rIxS : R2 := fun x y H Q => ∃ z i c, x = .str z /\ y = .int i /\ z.length <= sizeLine /\ atI z.cps.toList i = some c /\ Q (.str ⟨#[c]⟩) H
theorem ix_list : IxR X (rIxL X.K) := by
 intro value slice pins s σ H x y v u Q I rx ry h hs
 obtain ⟨p, xs, i, z, rfl, rfl, hq, he, q⟩ := h
 cases rx
 obtain ⟨t, rfl⟩ := ry
 obtain ⟨its, r, pl, hz⟩ := I.list hq
 obtain ⟨j, h1, h2, h3, h4, h5⟩ := atI_get he
 obtain ⟨w, ew, rw'⟩ := r.get h2
 have hl := r.length
 have hn := line63
 have fin : EP X pins σ Q w s := ⟨z, H, I, rw', q⟩
 by_cases h0 : 0 <= i
 ·have hj : i.toNat = j := by
   rw [seqIndex_of h0 h5] at h1
   exact Option.some.inj h1
  exact item_listR pl.isList h0 (by lia) (by rw [hj]; simpa using ew) fin hs
 ·have hj : (i + (its.toArray.size : Int)).toNat = j := by
   rw [seqIndex_neg (by lia) h4] at h1
   rw [List.size_toArray, <- hl]
   exact Option.some.inj h1
  exact subscriptTail_builtinR (x := w) pl.isList.typeIs slot_list_getitem.lookup
   (wpAny_getItem_list_neg (Q := fun r s' => r = w /\ EP X pins σ Q r s') pl.isList (by lia) (by rw [List.size_toArray] <;> lia) (by lia) (by rw [hj]; simpa using ew) ⟨rfl, fin⟩) hs
theorem ix_tup : IxR X (rIxT X.K) := by
 intro value slice pins s σ H x y v u Q I rx ry h hs
 obtain ⟨p, xs, i, z, rfl, rfl, hq, he, q⟩ := h
 cases rx
 obtain ⟨t, rfl⟩ := ry
 obtain ⟨its, r, pl, hz⟩ := I.tuple hq
 obtain ⟨j, h1, h2, h3, h4, h5⟩ := atI_get he
 obtain ⟨w, ew, rw'⟩ := r.get h2
 have hl := r.length
 have hn := line63
 have fin : EP X pins σ Q w s := ⟨z, H, I, rw', q⟩
 exact subscriptTail_builtinR (x := w) pl.typeIs slot_tuple_getitem.lookup
  (getItem_tuple (j := j) (Q := fun r s' => r = w /\ EP X pins σ Q r s') pl (by lia) (by lia) (by rw [List.size_toArray, <- hl]; exact h1) (by simpa using ew) ⟨rfl, fin⟩) hs
theorem ix_str : IxR X rIxS := by
 intro value slice pins s σ H x y v u Q I rx ry h hs
 obtain ⟨z, i, c, rfl, rfl, hz, he, q⟩ := h
 obtain ⟨t, rfl⟩ := rx
 obtain ⟨t', rfl⟩ := ry
 obtain ⟨j, h1, h2, h3, h4, h5⟩ := atI_get he
 have hl : z.cps.toList.length = z.length := by simp [Str.length]
 rw [hl] at h1 h4 h5
 have hn := line63
 exact tail_any (typeIs_str s z t) slot_str_getitem.lookup (getItem_str (c := c) (by
  have e1 : decide (i < -(2 ^ 63 : Int)) = false := decide_eq_false (by lia)
  have e2 : decide (i >= 2 ^ 63) = false := decide_eq_false (by lia)
  rw [e1, e2, Bool.or_false]) (by rw [h1]; simpa using h2) ⟨.str ⟨#[c]⟩, H, I.tok _, ⟨_, rfl⟩, q⟩) hs
theorem slice_bounds (lo hi : Option Int) (n : Nat) : (sliceBounds lo hi none n).1 = ((HT.sIx n 0 lo : Nat) : Int) /\ (sliceBounds lo hi none n).2.1 = ((HT.sIx n n hi : Nat) : Int) /\ (sliceBounds lo hi none n).2.2 = 1 := by
 refine ⟨?_, ?_, rfl⟩
 ·cases lo with
  | none => simp [sliceBounds, HT.sIx]
  | some i =>
   simp only [sliceBounds, HT.sIx, Option.getD_none, show (1 : Int) > 0 by decide, if_true]
   by_cases h : i < 0
   ·simp only [h, if_true] <;> lia
   ·simp only [h, if_false] <;> lia
 ·cases hi with
  | none => simp [sliceBounds, HT.sIx]
  | some i =>
   simp only [sliceBounds, HT.sIx, Option.getD_none, show (1 : Int) > 0 by decide, if_true]
   by_cases h : i < 0
   ·simp only [h, if_true] <;> lia
   ·simp only [h, if_false] <;> lia
theorem slicePick_cut (its : List Value) (lo hi : Option Int) : slicePick its.toArray lo hi none = ((its.drop (HT.sIx its.length 0 lo)).take (HT.sIx its.length its.length hi - HT.sIx its.length 0 lo)).toArray := by
 obtain ⟨h1, h2, h3⟩ := slice_bounds lo hi its.toArray.size
 unfold slicePick
 rw [h1, h2, h3]
 simp only [sliceRange_one, pick_run, List.size_toArray] <;> rfl
noncomputable def rSlL (K : PySem.W.Frag) : V -> Option Int -> Option Int -> Hp -> VK -> Prop := fun x lo hi H Q => ∃ a xs, x = .ref a /\ SqL K H a xs /\ ∀ p, H p = none -> Q (.ref p) (upd H p (.lst (cutV xs lo hi)))
theorem sl_list : SlR X (rSlL X.K) := by
 intro pins s σ H x v vl vu lo hi sl Q I rx hs pl pu h
 obtain ⟨a, xs, rfl, hx, q⟩ := h
 cases rx
 obtain ⟨its, r, ht, hz⟩ := I.list hx
 have hlen := r.length
 refine ⟨"list", _, slot_list_getitem.lookup, ht.isList.typeIs, ?_⟩
 refine wpAny_getItem_list_slice ht.isList hs pl pu .none (by simp) ?_ (by rw [List.size_toArray] <;> lia)
 rw [slicePick_cut, <- hlen]
 refine ⟨.ref s.heap.objs.size, _, I.laid (t' := s.toks) (o := .lst (cutV xs lo hi)) (fun b ob q => Heap.get?_push_of_some _ q) (Nat.le_refl _) ?_, rfl, q _ (I.hok.fresh (Nat.le_refl _))⟩
 exact ⟨Nat.le_trans (cutV_length xs lo hi) hz, _, 0, (r.drop (HT.sIx xs.length 0 lo)).take (HT.sIx xs.length xs.length hi - HT.sIx xs.length 0 lo), Heap.get?_push_size _ rfl⟩
theorem call_len_seq : CallR X (.builtin "len") (fun xs H Q => ∃ p ys, xs = [.ref p] /\ (SqL X.K H p ys ∨ SqT X.K H p ys) /\ Q (.int ys.length) H) := by
 intro pins s σ H xs us Q I r h
 obtain ⟨p, ys, rfl, hq, q⟩ := h
 obtain ⟨u, rfl, rx⟩ := vals1 r
 cases rx
 have hn := line63
 rcases hq with hq | hq
 ·obtain ⟨its, r', pl, hz⟩ := I.list hq
  have hlen := r'.length
  exact Calls.call_len_list pl.isList (by simp only [List.size_toArray] <;> lia) ⟨.int ys.length, H, I.tok _, ⟨s.toks + 1, by rw [List.size_toArray, hlen]⟩, q⟩
 ·obtain ⟨its, r', pl, hz⟩ := I.tuple hq
  have hlen := r'.length
  exact len_tuple pl (by simp only [List.size_toArray] <;> lia) ⟨.int ys.length, H, I.tok _, ⟨s.toks + 1, by rw [List.size_toArray, hlen]⟩, q⟩
theorem call_tuple_of : CallR X (.type "tuple") (fun xs H Q => ∃ p ys, xs = [.ref p] /\ ((SqL X.K H p ys /\ ∀ l, H l = none -> Q (.ref l) (upd H l (.tup ys))) ∨ (SqT X.K H p ys /\ Q (.ref p) H))) := by
 intro pins s σ H xs us Q I r h
 obtain ⟨p, ys, rfl, h⟩ := h
 obtain ⟨u, rfl, rx⟩ := vals1 r
 cases rx
 rcases h with ⟨hq, q⟩ | ⟨hq, q⟩
 ·obtain ⟨its, r', pl, hz⟩ := I.list hq
  have hlen := r'.length
  refine call_tuple_list pl.isList (fun h' kp => ?_) (by simp only [List.size_toArray] <;> lia)
  have I1 : Inv X pins σ H { s with heap := h' } := I.kept (t' := s.toks) kp
  have I2 : Inv X pins σ (upd H h'.objs.size (.tup ys)) { s with heap := h'.push { cls := .type "tuple", data := .seq its.toArray } } :=
   I1.laid (t' := s.toks) (fun b o e => Heap.get?_push_of_some _ e) (Nat.le_refl _) (show ObjOk X.prog X.w _ _ _ (.tup ys) from ⟨hz, its, r', IsTup.new _ _⟩)
  exact ⟨.ref h'.objs.size, _, I2, rfl, q _ (I1.hok.fresh (Nat.le_refl _))⟩
 ·obtain ⟨its, r', pl, hz⟩ := I.tuple hq
  exact call_tuple_same pl ⟨.ref p, H, I, rfl, q⟩
noncomputable def tyV (K : PySem.W.Frag) (T : String) (x : V) (H : Hp) : Prop := match x with
 | .str _ => T = "str"
 | .int _ => T = "int"
 | .ref p => (T = "list" /\ ∃ xs, SqL K H p xs) ∨ (T = "tuple" /\ ∃ o, K.lookup p = some o /\ o.cls = .type "tuple" /\ o.dict = none) ∨
   (T = "dict" /\ ((∃ kvs, H p = some (.dK kvs)) ∨ ∃ kvs, H p = some (.dT kvs))) ∨ (T = "set" /\ ∃ S n, H p = some (.set S n))
 | _ => False
theorem tyV_is {pins : List (Addr × Obj)} {σ : St} {H : Hp} {s : Shared} {T : String} {x : V} {v : Value} (I : Inv X pins σ H s) (r : RelV x v) (ty : tyV X.K T x H) :
  s.TypeIs v T /\ ∀ a, v = .ref a -> ∃ ob, s.heap.get? a = some ob /\ ob.dict = none := by
 cases x with
 | str z =>
  obtain ⟨t, rfl⟩ := r
  cases (show T = "str" from ty)
  exact ⟨typeIs_str s z t, fun _ e => nomatch e⟩
 | int i =>
  obtain ⟨t, rfl⟩ := r
  cases (show T = "int" from ty)
  exact ⟨typeIs_int s i t, fun _ e => nomatch e⟩
 | ref p =>
  cases r
  rcases ty with ⟨rfl, xs, hq⟩ | ⟨rfl, o, hk, hc, hd⟩ | ⟨rfl, hk⟩ | ⟨rfl, S, n, hk⟩
  ·obtain ⟨its, _, pl, _⟩ := I.list hq
   refine ⟨pl.isList.typeIs, fun a e => ?_⟩
   cases e
   obtain ⟨o, n, e, c, hd, _⟩ := pl
   exact ⟨o, e, hd⟩
  ·refine ⟨⟨o, I.kIn p o hk, hc⟩, fun a e => ?_⟩
   cases e
   exact ⟨o, I.kIn _ o hk, hd⟩
  ·have z : ∃ o, s.heap.get? p = some o /\ o.ExactDict := by
    rcases hk with ⟨kvs, hk⟩ | ⟨kvs, hk⟩
    ·obtain ⟨_, _, _, _, o, _, _, e, ex, _⟩ := I.hok p _ hk
     exact ⟨o, e, ex⟩
    ·obtain ⟨_, _, _, _, o, _, _, e, ex, _⟩ := I.hok p _ hk
     exact ⟨o, e, ex⟩
   obtain ⟨o, e, ex⟩ := z
   refine ⟨⟨o, e, ex.1⟩, fun a e2 => ?_⟩
   cases e2
   exact ⟨o, e, ex.2.1⟩
  ·obtain ⟨o, _, _, _, e, ex, _⟩ := I.hok p _ hk
   refine ⟨⟨o, e, ex.1⟩, fun a e2 => ?_⟩
   cases e2
   exact ⟨o, e, ex.2.1⟩
 | _ => exact False.elim ty
noncomputable def tBM (K : PySem.W.Frag) (T : String) (r : V -> List V -> Hp -> VK -> Prop) (to : TE) (t : TA) : TE := fun σ H Q => to σ H fun x H1 => tyV K T x H1 /\ t σ H1 fun xs H2 => r x xs H2 Q
variable {o e : Expr} {es : List Expr} {to : TE} {t : TA} {name : Str} {apos cpos : Pos} {T id : String} {r : V -> List V -> Hp -> VK -> Prop}
theorem pe_bm (pa : PlainAttrs T) (slot : Slot T name id) (hty : typeOf (.builtin id) = pure (.type "method_descriptor")) (hm : MtR X id r) (ho : PE X o to) (ha : PA X (e :: es) t)
  (hbase : attributeBase o name X.env (eval o X.env) = eval o X.env := by rfl)
  (hfew : ((backTo cpos (starEach (e :: es) X.env)).all (fun x => !x.1) && (backToKw cpos (keywordEach [] X.env)).all (fun x => x.1.isSome)
   && decide ((e :: es).length + ([] : List Keyword).length + (if ([] : List Keyword).isEmpty then 0 else 1) < 30)) = true := by rfl)
  (hline : (apos.endLine == cpos.line) = true := by rfl) (hs : starEach (e :: es) X.env = (false, eval e X.env) :: starEach es X.env := by rfl) (hplain : (backTo cpos (starEach es X.env)).any (·.1) = false := by rfl) :
  PE X (.Call (.Attribute o name apos) (e :: es) [] cpos) (tBM X.K T r to t) := by
 intro pins s σ H Q I h
 refine wpAny_Call_method_late hbase hfew hline rfl (thn (ho pins s σ H _ I h) fun v s1 zz => ?_)
 obtain ⟨x, H1, I1, r1, ty, q1⟩ := zz
 obtain ⟨h1, h2⟩ := tyV_is I1 r1 ty
 refine ⟨T, id, pa, slot, hty, h1, h2, ?_⟩
 have hA := ha cpos pins s1 σ H1 _ I1 q1
 rw [hs] at hA ⊢
 refine Calls.callWith_builtin (by show (false || (backTo cpos (starEach es X.env)).any (·.1)) = false; rw [hplain] <;> rfl) (Calls.evalArgs_plain ?_)
 exact thn hA fun us s2 ⟨vs, H2, I2, r2, q2⟩ => hm pins s2 σ H2 x vs v us Q I2 r1 r2 q2
end
end L2
namespace L2
open PySem PySem.Spec PyProof.Rows
noncomputable def MtM (X : Cx) (id : String) (r : V -> List V -> Hp -> VK -> Prop) : Prop :=
 ∀ (pins : List (Addr × Obj)) (s : Shared) (σ : St) (H : Hp) (x : V) (xs : List V) (v : Value) (us : List Value) (Q : VK), Inv X pins σ H s -> RelV x v -> Vals xs us -> r x xs H Q ->
  wpAny (model X.prog X.w) X.A (call (.builtin id) (v :: us)) (EP X pins σ Q) X.xe s
theorem Vals.one : ∀ {x : V} {us : List Value}, Vals [x] us -> ∃ u, us = [u] /\ RelV x u
 | _, _, .cons r .nil => ⟨_, rfl, r⟩
section
variable {X : Cx} {pins : List (Addr × Obj)} {σ : St} {H : Hp} {s : Shared} {l b : Addr} {xs ys zs : List V}
theorem Inv.lset {its its' : List Value} {n : Nat} {f : Array Value -> Array Value} {t' : Nat} (I : Inv X pins σ H s) (hH : H l = some (.lst xs))
  (e : s.heap.get? l = some { cls := .type "list", data := .seq its.toArray n }) (hf : f its.toArray = its'.toArray) (hv : Vals ys its') (hz : ys.length <= sizeLine) :
  Inv X pins σ (upd H l (.lst ys)) { s with heap := s.heap.update l (Obj.mapSeq f), toks := t' } := by
 have q := PySem.IsL.update e f
 rw [hf] at q
 refine I.write (x := l) (e := l) (by rw [hH]; exact trivial) (.inl rfl) (fun b' u hb hu => (Heap.get?_update_other s.heap (Obj.mapSeq f) (Ne.symm hb)).trans hu) ⟨_, q⟩ ?_
 exact ⟨hz, its', _, hv, q⟩
theorem Inv.lstM (I : Inv X pins σ H s) (hH : H l = some (.lst xs)) : xs.length <= sizeLine /\ ∃ (its : List Value) (n : Nat), Vals xs its /\ xs.length = its.length /\ s.heap.get? l = some { cls := .type "list", data := .seq its.toArray n } := by
 obtain ⟨z, its, n, r, e⟩ := I.hok l _ hH
 exact ⟨z, its, n, r, r.length, e⟩
theorem notLongL {n : Nat} (h : n <= sizeLine) : Builtin.List.listTooLong n = false := by
 unfold Builtin.List.listTooLong
 exact decide_eq_false (by lia)
end
section
variable {X : Cx}
noncomputable def rAppend : V -> List V -> Hp -> VK -> Prop := fun x vs H Q => ∃ l xs y, x = .ref l /\ vs = [y] /\ H l = some (.lst xs) /\ xs.length < sizeLine /\ Q .non (upd H l (.lst (xs ++ [y])))
theorem mt_append : MtM X "list.append" rAppend := by
 intro pins s σ H x vs v us Q I rx rv h
 obtain ⟨l, xs, y, rfl, rfl, hH, hz, q⟩ := h
 cases rx
 obtain ⟨u, rfl, ru⟩ := rv.one
 obtain ⟨z, its, n, r, hl, e⟩ := I.lstM hH
 refine call_meets F.slot_list_append ⟨_, e, rfl⟩ F.entry_list_append (F.args_list_append_2 _ _) (PySem.list_append l its.toArray n u (by rw [List.size_toArray]; lia)) ⟨e, ?_⟩
 refine ⟨.non, _, I.lset (its' := its ++ [u]) hH e (by simp) (r.append (.cons ru .nil)) ?_, rfl, q⟩
 rw [List.length_append, List.length_singleton]
 lia
end
section
variable {prog : Program} {w : World} {A : Around} {E : Value -> Shared -> Prop} {s : Shared}
end
section
variable {X : Cx}
end
end L2
namespace Att
open PySem PySem.W PySem.Calls PyProof.Rows
theorem ints_of_wellAll {P : Params} {h : Heap} : ∀ (ns : List Int) (vs : List Value), WellAll P h vs (ns.map WData.int) -> IntsAre vs ns := by
 intro ns
 induction ns with
 | nil =>
  intro vs w
  rw [List.map_nil] at w
  cases w
  exact .nil
 | cons n ns ih =>
  intro vs w
  rw [List.map_cons] at w
  cases w with
  | cons a b =>
   cases a
   exact .cons _ _ (ih _ b)
theorem script_of {l : OpenLaw} {n : Nat} (hn : l.most = some n) {P : Params} {h : Heap} {args : List WData} {vals : List Value}
  (hpre : l.row.toRowW.claim.pre args = true) (hwl : WellAll P h vals args) :
  ∃ a vs ns, vals = [Value.ref a] /\ args = [WData.list (ns.map WData.int)] /\ h.get? a = some { cls := .type "list", data := .seq vs.toArray } /\ IntsAre vs ns /\ ns.length <= n := by
 have hsh : WShape.hasAll [] args [.list .int] = true := (pre_splitW hpre).1
 have hc : l.pre.holds [] { args := args } = true := (pre_splitW hpre).2
 obtain ⟨d, r, rfl, h1, h2⟩ := hasAllW_cons hsh
 obtain rfl := hasAllW_nil h2
 obtain ⟨xs, rfl, h3⟩ := hasW_list h1
 obtain ⟨ns, rfl⟩ := items_int h3
 have hlen : ns.length <= n := by
  unfold OpenLaw.pre at hc
  have h4 : (WTm.not (.lt (.lit (.int (n : Int))) (.len (.arg 0)))).holds [] { args := [.list (ns.map .int)] } = true := by
   have h4 := (holds_andW hc).1
   rw [hn] at h4
   exact h4
  have h5 := condW_of h4 (w_not (w_lt w_lit (w_len_list (w_arg rfl))))
  rw [List.length_map] at h5
  refine Nat.le_of_not_lt fun q => ?_
  have q' : (n : Int) < ((ns.length : Nat) : Int) := by lia
  first
   | (rw [decide_eq_true q'] at h5; exact absurd h5 (by decide))
   | (simp at h5; lia)
 cases hwl with
 | cons w1 w2 =>
  cases w2
  cases w1 with
  | list ho hall => exact ⟨_, _, ns, rfl, rfl, ho, ints_of_wellAll ns _ hall, hlen⟩
theorem post_true (l : OpenLaw) (args : List WData) : l.row.toRowW.claim.post args (.bool true) args = true :=
 postW_of (r := l.row.toRowW) (X := (true == true))
  (show WShape.has [] (.bool true) .bool = true by first | rfl | decide | simp [WShape.has, WShape.arms, WShape.armsAll])
  (show (WTm.eq .res (.lit (.bool true))).value [] { args := args, res := some (.bool true), after := args } = some (.bool (true == true)) from w_eq_bool (w_res rfl) w_lit) rfl
theorem attach_call {l : OpenLaw} {n : Nat} {q : Program} {loose : List Str} {XP : (Str -> Option Value) -> Heap -> Prop} {YP : World -> Heap -> Prop} {d : DefRec}
  (hn : l.most = some n) (hdf : d.params.defaults = [])
  (call : ∀ (w : World) (s₀ s₁ : Shared) (mg mb : Str -> Option Value) (fa : Addr) (o : Obj) (pm cd doc : Value) (a : Addr) (vs : List Value) (ns : List Int),
   Ground q loose [] XP w s₀ mg mb s₁.heap -> YP w s₁.heap ->
   s₁.heap.get? fa = some o -> o.data = .func (docDef d.name d.params d.body d.scope pm cd doc) -> s₁.heap.CodeRec cd d.name -> mg d.name = some (.ref fa) ->
   s₁.heap.get? a = some { cls := .type "list", data := .seq vs.toArray } -> IntsAre vs ns -> ns.length <= n -> s₁.gens = #[] ->
   codeAny (model l.prog w) callerA (.call (.ref fa) ⟨[.ref a], []⟩) (fun r s' => r = .ok (.ret (.bool true)) /\ OldK s₁.heap s'.heap /\ s'.os = s₁.os /\ AllBare s'.gens) s₁) :
  WalkO q loose XP YP l.row.toRowW d [] (fun f vs => PySem.call f vs) := by
 intro w s₀ s₁ mg mb G Y fa o pm cd doc dV kV ho hd hcd hD hmg hg args vals as hpre hlay hrd hwl hlo
 obtain rfl : dV = .none := Dflts.none hD hdf
 obtain rfl : kV = .none := Dflts.noKw hD
 obtain ⟨a, vs, ns, rfl, rfl, hobj, hints, hlen⟩ := script_of hn hpre hwl
 refine enter_call (codeAny_mono (call w s₀ s₁ mg mb fa o pm cd doc a vs ns G Y ho (fd_plain hd) hcd hmg hobj hints hlen hg) fun r s' hq => ?_)
 obtain ⟨rfl, h2, h3, h4⟩ := hq
 exact ⟨.inl ⟨.bool true, .bool true, [], rfl, fun _ => rfl, .bool true, post_true l _, fun _ => ⟨List.Pairwise.nil, fun _ hm => (nomatch hm)⟩⟩, h2, h3, h4⟩
section
variable {prog : Program} {w : World} {A : Around} {E : Value -> Shared -> Prop} {s : Shared} {K : Frag}
end
end Att
namespace L2
open PySem PySem.Spec PyProof.Rows
theorem vals_ints : ∀ {vs : List Value} {ns : List Int}, IntsAre vs ns -> Vals (ns.map V.int) vs
 | _, _, .nil => .nil
 | _, _, .cons n t h => .cons ⟨t, rfl⟩ (vals_ints h)
noncomputable def Only (H : Hp) : Prop := ∀ b, H b = none ∨ ∃ o xs, H b = some (.frz o (.lst xs))
theorem law_call {P : Program} {w : World} {K : PySem.W.Frag} {mg mb : Str -> Option Value} {CX : CXT} {k : Nat} {fa a : Addr} {fd : FuncData} {x : Str} {sp : Sp} {s₁ : Shared} {vs : List Value} {ns : List Int}
  (KX : K.In s₁.heap) (hns : s₁.heap.Ns mainGlobals mg) (hb : s₁.heap.Ns builtinsNs mb) (hbb : ∀ x : Str, x ≠ "__name__" -> mb x = bootBuiltins x) (hlim : s₁.heap.NoLimit) (hg : s₁.gens = #[])
  (ha : s₁.heap.get? a = some { cls := .type "list", data := .seq vs.toArray }) (hi : IntsAre vs ns) (hl : ns.length <= sizeLine) (hr : Room k callerA)
  (F : ∀ base : Heap, K.In base -> base.Ns mainGlobals mg -> FnOk P w K mg base CX k fa fd [x] sp) (hbind : ∀ (s : Shared) (u : Value), BindsTo s fd ⟨[u], []⟩ [(x, u)])
  (hsp : ∀ H : Hp, Only H -> SqL K H a (ns.map V.int) -> sp [.ref a] H (fun v _ => v = .bl true) fun _ _ _ => False)
  (hCX : ∀ H e s', CX [] H s₁ (fun _ _ _ => False) e s' -> False) :
  codeAny (model P w) callerA (.call (.ref fa) ⟨[.ref a], []⟩) (fun r s' => r = .ok (.ret (.bool true)) /\ OldK s₁.heap s'.heap /\ s'.os = s₁.os /\ AllBare s'.gens) s₁ := by
 have rv := vals_ints hi
 have lenV := hi.length
 have core : ∀ H : Hp, Only H -> SqL K H a (ns.map V.int) -> HOk P w H s₁.heap -> (∀ b, H b ≠ none -> b = a) -> (H a ≠ none -> K.lookup a = none) ->
   codeAny (model P w) callerA (.call (.ref fa) ⟨[.ref a], []⟩) (fun r s' => r = .ok (.ret (.bool true)) /\ OldK s₁.heap s'.heap /\ s'.os = s₁.os /\ AllBare s'.gens) s₁ := by
  intro H hO hS hok hA hK
  have base_of : ∀ {b : Addr} {o : Obj}, s₁.heap.get? b = some o -> H b = none -> (hidT s₁.heap H).get? b = some o := fun e n => hidT_get e n
  have noA : ∀ {b : Addr} {o : Obj} {es : Array DictEntry} {ep : Nat}, s₁.heap.get? b = some o -> o.data = .dict es ep -> H b = none := fun {b o es ep} e d => by
   cases q : H b with
   | none => rfl
   | some u =>
    have e' : b = a := hA b (by rw [q]; simp)
    subst e'
    rw [ha] at e; cases e
    have d' : Data.seq vs.toArray _ = Data.dict es ep := d
    cases d'
  have nsK : ∀ {b : Addr} {m : Str -> Option Value}, s₁.heap.Ns b m -> (hidT s₁.heap H).Ns b m := fun {b m} ⟨o, es, ep, e, d, r⟩ => ⟨o, es, ep, base_of e (noA e d), d, r⟩
  have hKb : K.In (hidT s₁.heap H) := fun b o e => base_of (KX b o e) (by
   cases q : H b with
   | none => rfl
   | some u =>
    have e' : b = a := hA b (by rw [q]; simp)
    subst e'
    rw [hK (by rw [q]; simp)] at e; cases e)
  have hM : Mod K mg (hidT s₁.heap H) := ⟨hKb, nsK hns, ⟨mb, nsK hb, hbb⟩, let ⟨mc, h1, h2⟩ := hlim; ⟨mc, nsK h1, h2⟩⟩
  have e0 : Env0 P w K mg (hidT s₁.heap H) callerA [] s₁ H := ⟨rfl, hM, fun b o e => of_hidT e, Nat.le_of_eq (hidT_size _ _), trivial, fun b hb => absurd (show b ∈ ([] : List Addr) from hb) (by simp), hok, .of_eq hg⟩
  refine codeAny_mono ((F _ hKb (nsK hns)).run callerA [] s₁ H ⟨[.ref a], []⟩ [.ref a] [.ref a] _ _ hr e0 (hbind s₁ (.ref a)) (.cons rfl .nil) (hsp H hO hS)) fun r s' h => ?_
  cases r with
  | error e => exact (hCX H e s' h).elim
  | ok fl =>
   cases fl with
   | next => exact False.elim h
   | brk => exact False.elim h
   | cont => exact False.elim h
   | ret u =>
    obtain ⟨v, H', os, bare, un, hok', r', q⟩ := h
    have q' : v = .bl true := q
    subst q'
    obtain rfl : u = Value.bool true := r'
    refine ⟨rfl, OldK.of_keep fun b o e => ?_, os, bare⟩
    cases q : H b with
    | none => exact un.keep b o e q (by intro z; exact absurd (show b ∈ ([] : List Addr) from z) (by simp)) (by simp)
    | some u =>
     rcases hO b with z | ⟨ob, xs, z⟩
     ·rw [q] at z; cases z
     ·have z2 := un.frzs b ob _ z
      obtain ⟨e1, _⟩ := hok b _ z
      obtain ⟨e2, _⟩ := hok' b _ z2
      rw [e] at e1; cases e1
      exact e2
 cases hk : K.lookup a with
 | some o =>
  have e := KX a o hk
  rw [ha] at e
  cases e
  refine core (fun _ => none) (fun _ => .inl rfl) (.inr ⟨_, vs.toArray, _, hk, rfl, rfl, rfl, by rw [List.size_toArray, lenV]; exact hl, by simpa using rv⟩) (fun b u z => by have z' : (none : Option HO) = some u := z; cases z') (fun b z => absurd rfl z) fun z => absurd rfl z
 | none =>
  refine core (fun b => if b = a then some (.frz { cls := .type "list", data := .seq vs.toArray } (.lst (ns.map V.int))) else none) (fun b => ?_) (.inl (.inr ⟨{ cls := .type "list", data := .seq vs.toArray }, if_pos rfl⟩)) (fun b u z => ?_) (fun b z => ?_) fun _ => hk
  ·by_cases hb : b = a
   ·exact .inr ⟨_, _, if_pos hb⟩
   ·exact .inl (if_neg hb)
  ·by_cases hb : b = a
   ·have z' := (if_pos hb).symm.trans z
    cases z'
    subst hb
    exact ⟨ha, by rw [List.length_map]; exact hl, vs, _, rv, ha⟩
   ·have z' := (if_neg hb).symm.trans z
    cases z'
  ·by_cases hb : b = a
   ·exact hb
   ·exact absurd (if_neg hb) z
end L2
namespace L2
open PySem PySem.Spec PyProof.Rows
theorem walk_of {l : PySem.W.OpenLaw} {n k : Nat} {q : Program} {loose : List Str} {XP : (Str -> Option Value) -> Heap -> Prop} {YP : World -> Heap -> Prop} {d : DefRec} {K : Params -> PySem.W.Frag} {CX : World -> CXT} {sp : World -> Sp} {x : Str}
  (hn : l.most = some n) (hn2 : n <= sizeLine) (hdf : d.params.defaults = []) (hr : Room k callerA)
  (hY : ∀ (w : World) (h : Heap), YP w h -> (K w.params).In h)
  (F : ∀ (w : World) (mg : Str -> Option Value) (fa : Addr) (h : Heap), (K w.params).In h -> h.Ns mainGlobals mg -> mg d.name = some (.ref fa) ->
   ∃ fd : FuncData, (∀ (s : Shared) (u : Value), BindsTo s fd ⟨[u], []⟩ [(x, u)]) /\
    ∀ base : Heap, (K w.params).In base -> base.Ns mainGlobals mg -> FnOk l.prog w (K w.params) mg base (CX w) k fa fd [x] (sp w))
  (hsp : ∀ (w : World) (H : Hp) (a : Addr) (ns : List Int), ns.length <= n -> Only H -> SqL (K w.params) H a (ns.map V.int) -> sp w [.ref a] H (fun v _ => v = .bl true) fun _ _ _ => False)
  (hCX : ∀ (w : World) (H : Hp) (s : Shared) (e : Value) (s' : Shared), CX w [] H s (fun _ _ _ => False) e s' -> False) :
  PySem.W.WalkO q loose XP YP l.row.toRowW d [] (fun f vs => PySem.call f vs) := by
 refine Att.attach_call hn hdf fun w s₀ s₁ mg mb fa o pm cd doc a vs ns G Y ho hd hcd hmg hobj hints hlen hg => ?_
 have KX := hY w _ Y
 obtain ⟨fd, hb, hF⟩ := F w mg fa _ KX G.T.g hmg
 exact law_call KX G.T.g G.T.b G.T.builtins G.T.nolimit hg hobj hints (Nat.le_trans hlen hn2) hr hF hb (fun H hO hS => hsp w H a ns hlen hO hS) fun H e s' => hCX w H s₁ e s'
end L2
namespace L2
open PySem PySem.Spec PyProof.Rows
noncomputable def defArgs (s : Stmt) : Arguments := match s with
 | .FunctionDef _ a _ _ _ _ _ _ _ _ => a
 | _ => { posonlyargs := [], args := [], vararg := none, kwonlyargs := [], kw_defaults := [], kwarg := none, defaults := [] }
noncomputable def defBody (s : Stmt) : List Stmt := match s with
 | .FunctionDef _ _ b _ _ _ _ _ _ _ => b
 | _ => []
noncomputable def defScope (s : Stmt) : Scope := match s with
 | .FunctionDef _ _ _ _ _ _ sc _ _ _ => sc
 | _ => { kind := .function, names := [], isGenerator := false, isCoroutine := false }
abbrev CX0 : CXT := fun _ _ _ _ _ _ => False
abbrev E0 : XK := fun _ _ _ => False
theorem pass0 {X : Cx} : Passes CX0 X E0 := fun _ _ _ _ _ _ _ h => h.elim
structure Fun (K : PySem.W.Frag) (x qual : Str) (st : Stmt) (f : Addr) (fd : FuncData) : Prop where
 ex : ∃ (oc : Value) (od : Option Addr) (kV doc pm : Value) (an : Option Addr) (cdv ct : Value) (osl : Array (Option Value)),
  fd = PySem.W.fnOf x qual (defArgs st) (defBody st) (defScope st) .none kV doc pm an cdv ct /\ K.lookup f = some ⟨oc, od, .func fd, osl⟩ /\ PySem.W.codeIn K cdv qual = true
 kp : PySem.W.keepIn K (.ref f) = true
section
variable {P : Program} {w : World} {K : PySem.W.Frag} {mg : Str -> Option Value} {base : Heap}
theorem Fun.ok {x qual : Str} {st : Stmt} {f : Addr} {fd : FuncData} {N ps : List Str} {k : Nat} {sp : Sp} (F : Fun K x qual st f fd) (S : FnScope N ps (defScope st)) (len : ∀ vs H Q E, sp vs H Q E -> vs.length = ps.length)
  (hbody : ∀ (cdv : Value) (A : Around) (outer : List Env) (s : Shared) (H : Hp) (vs : List V) (Q : VK) (E : XK), Room k (A.deeper (envOfC qual (defScope st) s.heap.objs.size f cdv)) -> sp vs H Q E ->
   ∃ t, PSs (cxOf CX0 P w K mg base N qual (defScope st) f cdv A outer s H E).nox (defBody st) t /\ t { nx := fun _ H' => Q .non H', rt := Q } (start N vs) H) : FnOk P w K mg base CX0 (k + 1) f fd ps sp := by
 obtain ⟨oc, od, kV, doc, pm, an, cdv, ct, osl, rfl, lk, hcd⟩ := F.ex
 refine fn_of lk hcd S len fun A outer s H vs Q E hr hsp => ?_
 obtain ⟨t, h, q⟩ := hbody cdv A outer s H vs Q E hr hsp
 exact ⟨t, h.nox, q⟩
theorem Fun.binds {x qual : Str} {st : Stmt} {f : Addr} {fd : FuncData} {ps : List Str} (F : Fun K x qual st f fd)
  (h : ∀ (kV doc pm : Value) (an : Option Addr) (cdv ct : Value) (us : List Value), us.length = ps.length -> bindArgs (PySem.W.fnOf x qual (defArgs st) (defBody st) (defScope st) .none kV doc pm an cdv ct) ⟨us, []⟩ = pure (ps.zip us)) : Binds K fd ps [] := by
 obtain ⟨oc, od, kV, doc, pm, an, cdv, ct, osl, rfl, lk, hcd⟩ := F.ex
 exact .all (h kV doc pm an cdv ct)
theorem fun_mk {x qual : Str} {st : Stmt} {f : Addr} {oc : Value} {od an : Option Addr} {osl : Array (Option Value)} {kV doc pm cdv ct : Value} (l : K.lookup f = some ⟨oc, od, .func (PySem.W.fnOf x qual (defArgs st) (defBody st) (defScope st) .none kV doc pm an cdv ct), osl⟩)
  (c : PySem.W.codeIn K cdv qual = true) (k : PySem.W.keepIn K (.ref f) = true) : Fun K x qual st f (PySem.W.fnOf x qual (defArgs st) (defBody st) (defScope st) .none kV doc pm an cdv ct) := ⟨⟨oc, od, kV, doc, pm, an, cdv, ct, osl, rfl, l, c⟩, k⟩
end
theorem small1000 {n : Nat} (h : n <= 1000) : n < sizeLine := Nat.lt_of_le_of_lt h (by decide)
section
variable {X : Cx}
end
noncomputable def Same (H H' : Hp) : Prop := ∀ b o, H b = some o -> H' b = some o
theorem Same.refl (H : Hp) : Same H H := fun _ _ h => h
theorem Same.trans {H H1 H2 : Hp} (a : Same H H1) (b : Same H1 H2) : Same H H2 := fun c o h => b c o (a c o h)
theorem Same.free {H H' : Hp} (e : Same H H') {l : Addr} (h : H' l = Option.none) : H l = Option.none := by
 cases q : H l with
 | none => rfl
 | some o =>
  rw [e l o q] at h
  cases h
end L2
namespace SG
open PySem PyProof.Rows
structure Fit (src : Array Keyed) (kd : SortKind) (z : SortSt) : Prop where
 mix : (arrOf z).Perm src
 kd : kindOf z = kd
 fine : failedOf z = none
 none : pendingOf z = #[]
theorem Fit.len {src : Array Keyed} {kd : SortKind} {z : SortSt} (f : Fit src kd z) : (arrOf z).size = src.size := f.mix.size_eq
theorem Fit.re {src : Array Keyed} {kd : SortKind} {z : SortSt} (f : Fit src kd z) {ys : Array Keyed} (m : ys.Perm (arrOf z)) : Fit src kd (setArr z ys) := ⟨m.trans f.mix, f.kd, f.fine, f.none⟩
section
variable {prog : Program} {w : World} {A : Around} {E : Value -> Shared -> Prop} {s : Shared} {src : Array Keyed} {κ : KeyKind} {kd : SortKind}
noncomputable def Asks (prog : Program) (w : World) (A : Around) (s : Shared) (κ : KeyKind) (kd : SortKind) : Prop :=
 ∀ (x y : Value) (a b : κ.α) (E : Value -> Shared -> Prop) (Q : Bool -> Shared -> Prop), κ.keyOf x = some a -> κ.keyOf y = some b -> Q (κ.blt a b) s -> wpAny (model prog w) A (keyLt' kd x y) Q E s
theorem Fit.item {z : SortSt} (f : Fit src kd z) (all : KeysOf κ src) {i : Nat} (h : i < src.size) : ∃ x y a, (arrOf z)[i]? = some (x, y) /\ κ.keyOf x = some a /\ KK κ (arrOf z) i = a := by
 have h' : i < (arrOf z).size := by rw [f.len]; exact h
 have e := getElem?_pos (arrOf z) i h'
 obtain ⟨a, ha⟩ := all (arrOf z)[i] ((Array.perm_iff_toList_perm.mp f.mix).mem_iff.mp (by simp))
 exact ⟨_, _, a, e, ha, by unfold KK; rw [e]; simp [ha]⟩
theorem lt_at {z : SortSt} {i j : Nat} {Q : Option Bool -> SortSt -> Prop} (L : Asks prog w A s κ kd) (f : Fit src kd z) (all : KeysOf κ src) (hi : i < src.size) (hj : j < src.size)
  (k : Q (some (κ.blt (KK κ (arrOf z) i) (KK κ (arrOf z) j))) z) : wpS (model prog w) A E s (ltAt' i j) Q z := by
 obtain ⟨x, x', a, e1, ka, qa⟩ := f.item all hi
 obtain ⟨y, y', b, e2, kb, qb⟩ := f.item all hj
 rw [qa, qb] at k
 rw [ltAt'_eq]
 refine wpS_bind (wpS_get ?_)
 show wpS _ _ _ _ (elem' (arrOf z) i >>= fun u => elem' (arrOf z) j >>= fun v => lt' u v) Q z
 rw [elem'_eq, e1, elem'_eq, e2]
 refine wpS_bind (wpS_pure (wpS_bind (wpS_pure ?_)))
 rw [lt'_eq]
 refine wpS_bind (wpS_get (wpS_bind (wpS_lift (wpAny_attempt ?_))))
 rw [f.kd]
 exact L x y a b _ _ ka kb ⟨rfl, wpS_pure k⟩
theorem up_loop {z : SortSt} {a top : Nat} {Q : AscSt -> SortSt -> Prop} (L : Asks prog w A s κ kd) (all : KeysOf κ src) (f : Fit src kd z) (h1 : 1 <= a) (h2 : a <= top) (h3 : top <= src.size) (r : SortedToK κ (arrOf z) a)
  (k : ∀ n, a <= n -> n <= top -> SortedToK κ (arrOf z) n -> n = top ∨ κ.klt (KK κ (arrOf z) n) (KK κ (arrOf z) (n - 1)) -> Q (none, n) z) : wpS (model prog w) A E s (ascLoop a top) Q z := by
 unfold ascLoop
 refine wpS_forRange (fun x c z' => z' = z /\ c = (none, x) /\ SortedToK κ (arrOf z) x) (fun x c z' g1 g2 hI => ?_) (fun c z' hI => ?_) ⟨rfl, rfl, r⟩
 ·obtain ⟨hz, hc, hr⟩ := hI
  subst hz hc
  dsimp only
  refine wpS_bind (lt_at L f all (Nat.lt_of_lt_of_le g2 h3) (by lia) ?_)
  cases q : κ.blt (KK κ (arrOf z') x) (KK κ (arrOf z') (x - 1)) with
  | true => simp only [if_true]; exact wpS_pure (k x g1 (Nat.le_of_lt g2) hr (Or.inr q))
  | false =>
   simp only [Bool.false_eq_true, if_false]
   refine wpS_pure ⟨rfl, rfl, fun i j le lt => ?_⟩
   rcases Nat.lt_or_ge j x with c1 | c1
   ·exact hr i j le c1
   ·obtain rfl : j = x := by lia
    rcases Nat.eq_or_lt_of_le le with c2 | c2
    ·subst c2; exact KeyOrd.kle_refl _
    ·exact KeyOrd.kle_trans (hr i (j - 1) (by lia) (by lia)) q
 ·obtain ⟨hz, hc, hr⟩ := hI
  subst hz hc
  have e : max a top = top := by lia
  rw [e] at hr ⊢
  exact k top h2 (Nat.le_refl _) hr (Or.inl rfl)
theorem turn3 {z : SortSt} {n top : Nat} {Q : Option Nat -> SortSt -> Prop} (L : Asks prog w A s κ kd) (all : KeysOf κ src) (f : Fit src kd z) (h1 : 1 <= n) (h2 : n <= top) (h3 : top <= src.size) (r : NonIncK κ (arrOf z) n)
  (k : ∀ m z', Fit src kd z' -> 1 <= m -> m <= top -> SortedToK κ (arrOf z') m -> Q (some m) z') : wpS (model prog w) A E s (tail3 n top) Q z := by
 have sz : n <= (arrOf z).size := by rw [f.len]; lia
 have f' : Fit src kd (setArr z (mirror (arrOf z) 0 n ((n - 0) / 2))) := f.re (mirror_perm _ _ _ _)
 have r' : SortedToK κ (arrOf (setArr z (mirror (arrOf z) 0 n ((n - 0) / 2)))) n := by
  intro i j le lt
  show κ.kle (KK κ (mirror (arrOf z) 0 n ((n - 0) / 2)) i) (KK κ (mirror (arrOf z) 0 n ((n - 0) / 2)) j)
  rw [KK_mirror sz, KK_mirror sz, if_pos ⟨Nat.zero_le _, by lia⟩, if_pos ⟨Nat.zero_le _, lt⟩]
  exact r _ _ (by lia) (by lia)
 unfold tail3
 refine wpS_bind (wpS_reverse (wpS_bind (up_loop L all f' h1 h2 h3 r' fun m g1 g2 g3 _ => ?_)))
 exact wpS_pure (k m _ f' (Nat.le_trans h1 g1) g2 g3)
theorem down_loop {z : SortSt} {n top : Nat} {Q : DescSt -> SortSt -> Prop} (L : Asks prog w A s κ kd) (all : KeysOf κ src) (f : Fit src kd z) (h1 : 1 <= n) (h2 : n <= top) (h3 : top <= src.size) (r : NonIncK κ (arrOf z) n)
  (k : ∀ m q z', Fit src kd z' -> n <= m -> m <= top -> NonIncK κ (arrOf z') m -> q + 1 <= m -> (∀ i, m - (q + 1) <= i -> i < m -> KK κ (arrOf z') i = KK κ (arrOf z') (m - 1)) -> Q (none, m, q) z') : wpS (model prog w) A E s (descLoop n top) Q z := by
 have one : ∀ (ys : Array Keyed) (x : Nat) (i : Nat), x - (0 + 1) <= i -> i < x -> KK κ ys i = KK κ ys (x - 1) := fun ys x i c1 c2 => by
  have : i = x - 1 := by lia
  rw [this]
 unfold descLoop
 refine wpS_forRange (fun x c z' => ∃ q, c = (none, x, q) /\ Fit src kd z' /\ NonIncK κ (arrOf z') x /\ q + 1 <= x /\ ∀ i, x - (q + 1) <= i -> i < x -> KK κ (arrOf z') i = KK κ (arrOf z') (x - 1))
  (fun x c z' g1 g2 hI => ?_) (fun c z' hI => ?_) ⟨0, rfl, f, r, h1, one _ _⟩
 ·obtain ⟨q, hc, f', r', hq, he⟩ := hI
  subst hc
  dsimp only
  have lx : x < src.size := Nat.lt_of_lt_of_le g2 h3
  have sz : x <= (arrOf z').size := by rw [f'.len]; lia
  refine wpS_bind (lt_at L f' all lx (by lia) ?_)
  cases c1 : κ.blt (KK κ (arrOf z') x) (KK κ (arrOf z') (x - 1)) with
  | true =>
   simp only [if_true]
   have more : ∀ ys : Array Keyed, (∀ m, KK κ ys m = KK κ (arrOf z') m) -> NonIncK κ ys (x + 1) := fun ys same i j le lt => by
    rw [same i, same j]
    rcases Nat.lt_or_ge j x with d1 | d1
    ·exact r' i j le d1
    ·obtain rfl : j = x := by lia
     rcases Nat.eq_or_lt_of_le le with d2 | d2
     ·subst d2; exact KeyOrd.kle_refl _
     ·exact KeyOrd.kle_trans (KeyOrd.kle_of_klt c1) (r' i (j - 1) (by lia) (by lia))
   by_cases c2 : q > 0
   ·rw [if_pos c2]
    exact wpS_bind (wpS_reverse (wpS_pure ⟨0, rfl, f'.re (mirror_perm _ _ _ _), more _ (KK_mirror_equal sz he), by lia, one _ _⟩))
   ·rw [if_neg c2]
    exact wpS_pure ⟨0, rfl, f', more _ fun _ => rfl, by lia, one _ _⟩
  | false =>
   simp only [Bool.false_eq_true, if_false]
   refine wpS_bind (lt_at L f' all (by lia) lx ?_)
   cases c2 : κ.blt (KK κ (arrOf z') (x - 1)) (KK κ (arrOf z') x) with
   | true => simp only [if_true]; exact wpS_pure (k x q z' f' g1 (Nat.le_of_lt g2) r' hq he)
   | false =>
    simp only [Bool.false_eq_true, if_false]
    have same : KK κ (arrOf z') x = KK κ (arrOf z') (x - 1) := KeyOrd.kle_antisymm c2 c1
    refine wpS_pure ⟨q + 1, rfl, f', fun i j le lt => ?_, by lia, fun i d1 d2 => ?_⟩
    ·rcases Nat.lt_or_ge j x with e1 | e1
     ·exact r' i j le e1
     ·obtain rfl : j = x := by lia
      rcases Nat.eq_or_lt_of_le le with e2 | e2
      ·subst e2; exact KeyOrd.kle_refl _
      ·rw [same]; exact r' i (j - 1) (by lia) (by lia)
    ·show KK κ (arrOf z') i = KK κ (arrOf z') x
     rcases Nat.lt_or_ge i x with e1 | e1
     ·rw [same]; exact he i (by lia) e1
     ·have : i = x := by lia
      rw [this]
 ·obtain ⟨q, hc, f', r', hq, he⟩ := hI
  have e : max n top = top := by lia
  rw [e] at hc r' hq he
  subst hc
  exact k top q z' f' h2 (Nat.le_refl _) r' hq he
theorem down_part {z : SortSt} {n top : Nat} {Q : Option Nat -> SortSt -> Prop} (L : Asks prog w A s κ kd) (all : KeysOf κ src) (f : Fit src kd z) (h2 : n + 1 <= top) (h3 : top <= src.size) (r : NonIncK κ (arrOf z) (n + 1))
  (k : ∀ m z', Fit src kd z' -> 1 <= m -> m <= top -> SortedToK κ (arrOf z') m -> Q (some m) z') : wpS (model prog w) A E s (descPart n top) Q z := by
 unfold descPart
 refine wpS_bind (wpS_lift (wpAny_rule ⟨rfl, wpS_bind (down_loop L all f (Nat.le_add_left 1 n) h2 h3 r fun m q z' f' g1 g2 r' hq he => ?_)⟩))
 have sz : m <= (arrOf z').size := by rw [f'.len]; lia
 dsimp only
 by_cases c : q > 0
 ·rw [if_pos c]
  refine wpS_bind (wpS_reverse (turn3 L all (f'.re (mirror_perm _ _ _ _)) (by lia) g2 h3 (fun i j le lt => ?_) k))
  show κ.kle (KK κ (mirror (arrOf z') (m - (q + 1)) m ((m - (m - (q + 1))) / 2)) j) (KK κ (mirror (arrOf z') (m - (q + 1)) m ((m - (m - (q + 1))) / 2)) i)
  rw [KK_mirror_equal sz he, KK_mirror_equal sz he]
  exact r' i j le lt
 ·rw [if_neg c]
  exact turn3 L all f' (by lia) g2 h3 r' k
theorem first_run {z : SortSt} {top : Nat} {Q : Option Nat -> SortSt -> Prop} (L : Asks prog w A s κ kd) (all : KeysOf κ src) (f : Fit src kd z) (h1 : 1 <= top) (h3 : top <= src.size)
  (k : ∀ m z', Fit src kd z' -> 1 <= m -> m <= top -> SortedToK κ (arrOf z') m -> Q (some m) z') : wpS (model prog w) A E s (countRun' 0 top) Q z := by
 have r1 : SortedToK κ (arrOf z) 1 := fun i j le lt => by
  obtain rfl : i = j := by lia
  exact KeyOrd.kle_refl _
 rw [countRun0_eq]
 refine wpS_bind (up_loop L all f (Nat.le_refl 1) h1 h3 r1 fun n g1 g2 g3 g4 => ?_)
 dsimp only
 by_cases c : n = top
 ·rw [if_pos (beq_iff_eq.mpr c)]
  exact wpS_pure (k n z f g1 g2 g3)
 ·rw [if_neg (fun h => c (beq_iff_eq.mp h))]
  have fall := g4.resolve_left c
  by_cases c2 : n > 1
  ·rw [if_pos c2]
   refine wpS_bind (lt_at L f all (by lia) (by lia) ?_)
   cases c3 : κ.blt (KK κ (arrOf z) 0) (KK κ (arrOf z) (n - 1)) with
   | true => simp only [if_true]; exact wpS_pure (k n z f g1 g2 g3)
   | false =>
    simp only [Bool.false_eq_true, if_false]
    have sz : n <= (arrOf z).size := by rw [f.len]; lia
    have eq : ∀ m, 0 <= m -> m < n -> KK κ (arrOf z) m = KK κ (arrOf z) (n - 1) := fun m _ lt =>
     KeyOrd.kle_antisymm (g3 m (n - 1) (by lia) (by lia)) (KeyOrd.kle_trans c3 (g3 0 m (Nat.zero_le _) lt))
    refine wpS_bind (wpS_reverse (down_part L all (f.re (mirror_perm _ _ _ _)) (by lia) h3 (fun i j le lt => ?_) k))
    show κ.kle (KK κ (mirror (arrOf z) 0 n ((n - 0) / 2)) j) (KK κ (mirror (arrOf z) 0 n ((n - 0) / 2)) i)
    rw [KK_mirror_equal sz eq, KK_mirror_equal sz eq]
    rcases Nat.lt_or_ge j n with d | d
    ·rw [eq i (Nat.zero_le _) (by lia), eq j (Nat.zero_le _) d]
     exact KeyOrd.kle_refl _
    ·obtain rfl : j = n := by lia
     rcases Nat.eq_or_lt_of_le le with d2 | d2
     ·subst d2; exact KeyOrd.kle_refl _
     ·rw [eq i (Nat.zero_le _) d2]; exact KeyOrd.kle_of_klt fall
  ·rw [if_neg c2]
   obtain rfl : n = 1 := by lia
   refine down_part L all f (by lia) h3 (fun i j le lt => ?_) k
   rcases Nat.eq_or_lt_of_le le with d2 | d2
   ·subst d2; exact KeyOrd.kle_refl _
   ·obtain rfl : i = 0 := by lia
    obtain rfl : j = 1 := by lia
    exact KeyOrd.kle_of_klt fall
theorem ins_sort {z : SortSt} {n ok : Nat} {Q : Bool -> SortSt -> Prop} (L : Asks prog w A s κ kd) (all : KeysOf κ src) (f : Fit src kd z) (h1 : ok <= n) (h3 : n <= src.size) (r : SortedToK κ (arrOf z) ok)
  (k : ∀ z', Fit src kd z' -> SortedToK κ (arrOf z') n -> Q true z') : wpS (model prog w) A E s (binarySort' 0 n ok) Q z := by
 rw [binarySort'_eq]
 simp only [Nat.zero_add]
 have r0 : SortedToK κ (arrOf z) (min (max ok 1) n) := fun i j le lt => by
  rcases Nat.eq_or_lt_of_le le with c | c
  ·subst c; exact KeyOrd.kle_refl _
  ·exact r i j le (by lia)
 refine wpS_bind (wpS_mono (wpS_forRange (fun m c z' => c = (none, ()) /\ Fit src kd z' /\ SortedToK κ (arrOf z') (min m n)) (Q := fun c z' => c = (none, ()) /\ Fit src kd z' /\ SortedToK κ (arrOf z') n)
  (fun m c z' g1 g2 hI => ?_) (fun c z' hI => ?_) ⟨rfl, f, r0⟩) fun c z' hQ => ?_)
 ·obtain ⟨hc, f', r'⟩ := hI
  subst hc
  have em : min m n = m := by lia
  rw [em] at r'
  have lm : m < src.size := by lia
  refine wpS_bind (wpS_mono (wpS_forRange (fun t c z2 => z2 = z' /\ ∃ lo hi, c = (none, lo, hi) /\ lo <= hi /\ hi <= m /\ hi - lo <= m - t /\ (∀ i, i < lo -> κ.kle (KK κ (arrOf z') i) (KK κ (arrOf z') m)) /\
    ∀ i, hi <= i -> i < m -> κ.klt (KK κ (arrOf z') m) (KK κ (arrOf z') i))
   (Q := fun c z2 => z2 = z' /\ ∃ lo hi, c = (none, lo, hi) /\ lo <= m /\ (∀ i, i < lo -> κ.kle (KK κ (arrOf z') i) (KK κ (arrOf z') m)) /\ ∀ i, lo <= i -> i < m -> κ.klt (KK κ (arrOf z') m) (KK κ (arrOf z') i))
   (fun t c z2 _ lt hJ => ?_) (fun c z2 hJ => ?_) ⟨rfl, 0, m, rfl, Nat.zero_le _, Nat.le_refl _, by lia, fun i c => absurd c (Nat.not_lt_zero _), fun i c1 c2 => absurd c2 (Nat.not_lt.mpr c1)⟩) fun c z2 hJ => ?_)
  ·obtain ⟨hz, lo, hi, hc, c1, c2, c3, c4, c5⟩ := hJ
   subst hz hc
   dsimp only
   by_cases d : lo >= hi
   ·rw [if_pos d]
    obtain rfl : lo = hi := by lia
    exact wpS_pure ⟨rfl, lo, lo, rfl, c2, c4, c5⟩
   ·rw [if_neg d]
    refine wpS_bind (lt_at L f' all lm (by lia) ?_)
    cases q : κ.blt (KK κ (arrOf z2) m) (KK κ (arrOf z2) ((lo + hi) / 2)) with
    | true =>
     simp only [if_true]
     exact wpS_pure ⟨rfl, lo, (lo + hi) / 2, rfl, by lia, by lia, by lia, c4, fun i e1 e2 => KeyOrd.klt_of_klt_of_kle q (r' _ _ e1 e2)⟩
    | false =>
     simp only [Bool.false_eq_true, if_false]
     refine wpS_pure ⟨rfl, (lo + hi) / 2 + 1, hi, rfl, by lia, c2, by lia, fun i e1 => ?_, c5⟩
     have q' : κ.kle (KK κ (arrOf z2) ((lo + hi) / 2)) (KK κ (arrOf z2) m) := q
     exact KeyOrd.kle_trans (r' i ((lo + hi) / 2) (by lia) (by lia)) q'
  ·obtain ⟨hz, lo, hi, hc, c1, c2, c3, c4, c5⟩ := hJ
   obtain rfl : lo = hi := by lia
   exact ⟨hz, lo, lo, hc, c2, c4, c5⟩
  ·obtain ⟨hz, lo, hi, hc, c2, c4, c5⟩ := hJ
   subst hz hc
   show wpS _ _ _ _ (moveDown' m lo >>= fun _ => pure (ForInStep.yield (none, ()))) _ _
   rw [moveDown'_eq]
   refine wpS_bind (wpS_modify (wpS_pure ⟨rfl, f'.re (bubble_perm _ _ _), ?_⟩))
   have es : m < (arrOf z2).size := by rw [f'.len]; exact lm
   have e2 : min (m + 1) n = m + 1 := by lia
   rw [e2]
   intro i j le lt
   show κ.kle (KK κ (bubble (arrOf z2) m (m - lo)) i) (KK κ (bubble (arrOf z2) m (m - lo)) j)
   have e3 : m - (m - lo) = lo := by lia
   rw [KK_bubble es (by lia), KK_bubble es (by lia), e3]
   by_cases i1 : i = lo <;> by_cases j1 : j = lo
   ·rw [if_pos i1, if_pos j1]; exact KeyOrd.kle_refl _
   ·rw [if_pos i1, if_neg j1, if_pos ⟨by lia, by lia⟩]
    exact KeyOrd.kle_of_klt (c5 _ (by lia) (by lia))
   ·rw [if_neg i1, if_pos j1, if_neg (by lia)]
    exact c4 _ (by lia)
   ·rw [if_neg i1, if_neg j1]
    by_cases i2 : lo < i /\ i <= m <;> by_cases j2 : lo < j /\ j <= m
    ·rw [if_pos i2, if_pos j2]; exact r' _ _ (by lia) (by lia)
    ·exact absurd ⟨by lia, by lia⟩ j2
    ·rw [if_neg i2, if_pos j2]; exact r' _ _ (by lia) (by lia)
    ·rw [if_neg i2, if_neg j2]; exact r' _ _ le (by lia)
 ·obtain ⟨hc, f', r'⟩ := hI
  have e : min (max (max ok 1) n) n = n := by lia
  rw [e] at r'
  exact ⟨hc, f', r'⟩
 ·obtain ⟨hc, f', r'⟩ := hQ
  subst hc
  exact wpS_pure (k z' f' r')
theorem all_runs {z : SortSt} {Q : Unit -> SortSt -> Prop} (L : Asks prog w A s κ kd) (all : KeysOf κ src) (f : Fit src kd z) (h2 : 2 <= src.size) (h64 : src.size < 64)
  (k : ∀ z', (arrOf z').Perm src -> failedOf z' = none -> SortedToK κ (arrOf z') src.size -> Q () z') : wpS (model prog w) A E s sortRuns' Q z := by
 have em : minRun' src.size src.size 0 = src.size := by
  have g : ∀ t, t = src.size -> minRun' t src.size 0 = src.size := fun t e => by
   cases t with
   | zero => lia
   | succ t => rw [minRun'_succ, if_pos h64]; rfl
  exact g _ rfl
 rw [sortRuns'_eq]
 refine wpS_bind (wpS_get ?_)
 dsimp only
 simp only [f.len, em]
 refine wpS_bind (wpS_mono (wpS_forRange (fun t c z' => (t = 0 /\ c = (none, 0) /\ Fit src kd z') ∨ (0 < t /\ c = (none, src.size) /\ (arrOf z').Perm src /\ failedOf z' = none /\ pendingOf z' = #[(0, src.size, 0)] /\ SortedToK κ (arrOf z') src.size))
  (Q := fun c z' => c = (none, src.size) /\ (arrOf z').Perm src /\ failedOf z' = none /\ pendingOf z' = #[(0, src.size, 0)] /\ SortedToK κ (arrOf z') src.size)
  (fun t c z' _ lt hI => ?_) (fun c z' hI => ?_) (Or.inl ⟨rfl, rfl, f⟩)) fun c z' hQ => ?_)
 ·rcases hI with ⟨ht, hc, f'⟩ | ⟨ht, hc, d1, d2, d3, d4⟩
  ·subst ht hc
   dsimp only
   rw [if_neg (by lia)]
   simp only [Nat.sub_zero, Nat.min_self, Nat.zero_add]
   have close : ∀ z3, Fit src kd z3 -> SortedToK κ (arrOf z3) src.size -> (0 < 0 + 1 /\ ((none : Option Unit), src.size) = (none, src.size) /\ (arrOf (setPending z3 ((pendingOf z3).push (0, src.size, 0)))).Perm src /\ failedOf (setPending z3 ((pendingOf z3).push (0, src.size, 0))) = none /\
     pendingOf (setPending z3 ((pendingOf z3).push (0, src.size, 0))) = #[(0, src.size, 0)] /\ SortedToK κ (arrOf (setPending z3 ((pendingOf z3).push (0, src.size, 0)))) src.size) := fun z3 f3 r3 =>
    ⟨Nat.zero_lt_succ _, rfl, f3.mix, f3.fine, by show (pendingOf z3).push (0, src.size, 0) = _; rw [f3.none]; rfl, r3⟩
   refine wpS_bind (first_run L all f' (by lia) (Nat.le_refl _) fun m z2 f2 g1 g2 r2 => ?_)
   dsimp only
   by_cases c : m < src.size
   ·rw [if_pos c]
    refine wpS_bind (wpS_lift (wpAny_rule ⟨rfl, wpS_bind (ins_sort L all f2 g2 (Nat.le_refl _) r2 fun z3 f3 r3 => ?_)⟩))
    simp only [Bool.not_true, Bool.false_eq_true, if_false]
    refine wpS_bind (wpS_get ?_)
    have eb : (pendingOf z3).back? = none := by rw [f3.none]; rfl
    rw [eb]
    dsimp only
    exact wpS_bind (wpS_modify (wpS_pure (Or.inr (close z3 f3 r3))))
   ·rw [if_neg c]
    obtain rfl : m = src.size := by lia
    refine wpS_bind (wpS_get ?_)
    have eb : (pendingOf z2).back? = none := by rw [f2.none]; rfl
    rw [eb]
    dsimp only
    exact wpS_bind (wpS_modify (wpS_pure (Or.inr (close z2 f2 r2))))
  ·subst hc
   dsimp only
   rw [if_pos (Nat.le_refl _)]
   exact wpS_pure ⟨rfl, d1, d2, d3, d4⟩
 ·rcases hI with ⟨ht, _⟩ | ⟨_, d⟩
  ·lia
  ·exact d
 ·obtain ⟨hc, d1, d2, d3, d4⟩ := hQ
  subst hc
  dsimp only
  refine wpS_bind (wpS_mono (wpS_forRange (fun _ c z2 => z2 = z' /\ c = (none, ())) (Q := fun c z2 => z2 = z' /\ c = (none, ())) (fun t c z2 _ _ hJ => ?_) (fun _ _ hJ => hJ) ⟨rfl, rfl⟩) fun c z2 hJ => ?_)
  ·obtain ⟨hz, hc⟩ := hJ
   subst hz hc
   refine wpS_bind (wpS_get ?_)
   rw [if_pos (by rw [d3]; exact Nat.le_refl 1)]
   exact wpS_pure ⟨rfl, rfl⟩
  ·obtain ⟨hz, hc⟩ := hJ
   subst hz hc
   exact wpS_pure (k _ d1 d2 d4)
theorem sort_at {a : Addr} {vs : List Value} {n : Nat} {P : Fin -> Shared -> Prop} (ho : s.heap.get? a = some (seqObj "list" vs.toArray n)) (all : KeysOf κ (pairsOf vs)) (h64 : vs.length < 64)
  (kind : ∀ h', (∀ b o, b ≠ a -> s.heap.get? b = some o -> h'.get? b = some o) -> 2 <= vs.length -> wpAny (model prog w) A (keyKind' vs.toArray) (fun q s' => q = kd /\ s' = { s with heap := h' }) E { s with heap := h' })
  (L : ∀ h', (∀ b o, b ≠ a -> s.heap.get? b = some o -> h'.get? b = some o) -> Asks prog w A { s with heap := h' } κ kd)
  (k : ∀ z' : SortSt, (arrOf z').Perm (pairsOf vs) -> SortedToK κ (arrOf z') (pairsOf vs).size -> P (.done (.ret .none)) { s with heap := sortedHeap s.heap a vs ((arrOf z').map (·.2)) }) :
  wpAny (model prog w) A (Builtin.«list.sort» ⟨[.ref a], []⟩) P E s := by
 have ha : a < s.heap.objs.size := Heap.lt_size ho
 have hl : vs.toArray.size = vs.length := by simp
 rw [list_sort_plain]
 refine wpAny_bind (listItems_at ho rfl (wpAny_bind (listUpdate_at ho rfl ?_)))
 obtain ⟨t, h1⟩ : ∃ t, (s.heap.update a (Obj.mapSeq fun _ => #[])).get? a = some (seqObj "list" #[] t) := ⟨_, get?_update_seq ho fun _ => #[]⟩
 refine wpAny_bind (seqEpoch_at h1 rfl (wpAny_bind (wpAny_newTuple (wpAny_bind (wpAny_newList (wpAny_holding ?_))))))
 show wpAny (model prog w) A _ P E { s with heap := ((s.heap.update a (Obj.mapSeq fun _ => #[])).push (seqObj "tuple" vs.toArray 0)).push (seqObj "list" #[] 0) }
 have keep : ∀ b o, b ≠ a -> s.heap.get? b = some o -> (((s.heap.update a (Obj.mapSeq fun _ => #[])).push (seqObj "tuple" vs.toArray 0)).push (seqObj "list" #[] 0)).get? b = some o := fun b o nb e =>
  Heap.get?_push_of_some _ (Heap.get?_push_of_some _ (by rw [Heap.get?_update_ne _ _ _ _ nb]; exact e))
 have h6 : (((s.heap.update a (Obj.mapSeq fun _ => #[])).push (seqObj "tuple" vs.toArray 0)).push (seqObj "list" #[] 0)).get? a = some (seqObj "list" #[] t) := Heap.get?_push_of_some _ (Heap.get?_push_of_some _ h1)
 dsimp only
 by_cases c : vs.toArray.size < 2
 ·rw [if_pos c, if_pos c]
  refine wpAny_bind (wpAny_pure ?_)
  rw [StateT.run_pure]
  refine wpAny_bind (wpAny_pure (wpAny_bind (seqEpoch_at h6 rfl (wpAny_bind (listUpdate_at h6 rfl ?_ (hsz2 := by
   rw [Array.size_map]; show (pairsOf vs).size <= _; rw [pairsOf_size, sizeLine_eq]; lia))))))
  simp only [bne_self_eq_false, Bool.false_eq_true, if_false]
  refine wpAny_pure (k (SortSt.mk' general' (vs.toArray.zip vs.toArray) #[] 7 none) (Array.Perm.refl _) fun i j le lt => ?_)
  obtain rfl : i = j := by rw [pairsOf_size] at lt; lia
  exact KeyOrd.kle_refl _
 ·rw [if_neg c, if_neg c]
  refine wpAny_bind (wpAny_mono (kind _ keep (by lia)) (fun q s' hq => ?_) fun _ _ e => e)
  obtain ⟨rfl, rfl⟩ := hq
  refine wpAny_bind (wpAny_mono (all_runs (src := pairsOf vs) (z := SortSt.mk' q (vs.toArray.zip vs.toArray) #[] 7 none)
   (Q := fun _ z' => (arrOf z').Perm (pairsOf vs) /\ failedOf z' = none /\ SortedToK κ (arrOf z') (pairsOf vs).size)
   (L _ keep) all ⟨Array.Perm.refl _, rfl, rfl, rfl⟩ (by rw [pairsOf_size]; lia) (by rw [pairsOf_size]; exact h64) fun z' d1 d2 d3 => ⟨d1, d2, d3⟩) (fun rz s' hq => ?_) fun _ _ e => e)
  obtain ⟨⟨⟩, z'⟩ := rz
  obtain ⟨rfl, d1, d2, d3⟩ := hq
  dsimp only at d1 d2 d3 ⊢
  refine wpAny_bind (seqEpoch_at h6 rfl (wpAny_bind (listUpdate_at h6 rfl ?_ (hsz2 := by
   refine Nat.le_trans (Nat.le_of_eq ((Array.size_map ..).trans (d1.size_eq.trans (pairsOf_size _)))) ?_
   rw [sizeLine_eq]; lia))))
  rw [d2]
  simp only [bne_self_eq_false, Bool.false_eq_true, if_false]
  exact wpAny_pure (k z' d1 d3)
end
end SG
namespace DL
open PySem PySem.Spec PyProof.Rows L2
abbrev D := PyData
noncomputable def FzL (K : PySem.W.Frag) (F : Addr -> Prop) (H : Hp) (a : Addr) (vs : List V) : Prop := (F a /\ Rd H a (.lst vs)) ∨ SqL K (fun _ => none) a vs
theorem FzL.sq {K : PySem.W.Frag} {F : Addr -> Prop} {H : Hp} {a : Addr} {vs : List V} (h : FzL K F H a vs) : SqL K H a vs := by
 rcases h with ⟨_, h⟩ | (h | ⟨o, h⟩) | h
 ·exact .inl h
 ·cases h
 ·cases h
 ·exact .inr h
abbrev DKey := Sum (List Int) (List (List Int))
noncomputable def encT (ks : List Int) : D := .tuple (ks.map .int)
noncomputable def encK : DKey -> D
 | .inl ks => encT ks
 | .inr kss => .tuple (kss.map encT)
noncomputable def hashT (ks : List Int) : Int := reduceHash (Builtin.Tuple.tupleHashOf (ks.map hashInt))
noncomputable def hashK : DKey -> Int
 | .inl ks => hashT ks
 | .inr kss => reduceHash (Builtin.Tuple.tupleHashOf (kss.map hashT))
noncomputable def KeyOk (K : PySem.W.Frag) (H : Hp) (k : DKey) (b : Addr) : Prop := match k with
 | .inl ks => SqT K H b (ks.map V.int)
 | .inr kss => kss ≠ [] /\ ∃ bs : List Addr, SqT K H b (bs.map V.ref) /\ Paired (fun (ks : List Int) (b : Addr) => SqT K H b (ks.map V.int)) kss bs
noncomputable def DctO (a : Addr) (es : List (DKey × Addr × V)) (ep : Nat) : HO := .ext fun h => (a == sysModules) = false /\ ∃ o raw, h.get? a = some o /\ o.ExactDict /\ o.data = .dict raw ep /\ Paired (fun (e : DKey × Addr × V) (r : DictEntry) => r.hash = hashK e.1 /\ r.key = .ref e.2.1 /\ RelV e.2.2 r.val) es raw.toList
noncomputable def ExcO (a C : Addr) : HO := .ext fun h => ∃ o, h.get? a = some o /\ o.cls = .ref C
noncomputable def excD (x : Str) : D := .dict [(.none, .str x)]
mutual
inductive Rep (K : PySem.W.Frag) (F : Addr -> Prop) (H : Hp) : D -> V -> Prop
 | non : Rep K F H .none .non
 | bl (b : Bool) : Rep K F H (.bool b) (.bl b)
 | int (i : Int) : Rep K F H (.int i) (.int i)
 | str (x : Str) : Rep K F H (.str x) (.str x)
 | tup {a : Addr} {vs : List V} {ds : List D} : SqT K H a vs -> Reps K F H ds vs -> Rep K F H (.tuple ds) (.ref a)
 | lst {a : Addr} {vs : List V} {ds : List D} : FzL K F H a vs -> Reps K F H ds vs -> Rep K F H (.list ds) (.ref a)
 | dct {a : Addr} {es : List (DKey × Addr × V)} {kvs : List (D × D)} {ep : Nat} : F a -> H a = some (DctO a es ep) -> (es.map (·.1)).Nodup -> es.length <= 1000 -> DReps K F H kvs es -> Rep K F H (.dict kvs) (.ref a)
 | exn {a C : Addr} {x : Str} : F a -> H a = some (ExcO a C) -> PySem.W.nsIn K mainGlobals x = some (some (.ref C)) -> Rep K F H (excD x) (.ref a)
inductive DReps (K : PySem.W.Frag) (F : Addr -> Prop) (H : Hp) : List (D × D) -> List (DKey × Addr × V) -> Prop
 | nil : DReps K F H [] []
 | cons {k : DKey} {b : Addr} {d : D} {v : V} {kvs : List (D × D)} {es : List (DKey × Addr × V)} : KeyOk K H k b -> Rep K F H d v -> DReps K F H kvs es -> DReps K F H ((encK k, d) :: kvs) ((k, b, v) :: es)
inductive Reps (K : PySem.W.Frag) (F : Addr -> Prop) (H : Hp) : List D -> List V -> Prop
 | nil : Reps K F H [] []
 | cons {d : D} {v : V} {ds : List D} {vs : List V} : Rep K F H d v -> Reps K F H ds vs -> Reps K F H (d :: ds) (v :: vs)
end
structure Stay (K : PySem.W.Frag) (F F' : Addr -> Prop) (H H' : Hp) : Prop where
 up : ∀ a, F a -> F' a
 tp : ∀ a xs, SqT K H a xs -> SqT K H' a xs
 ls : ∀ a xs, F a -> Rd H a (.lst xs) -> Rd H' a (.lst xs)
 xt : ∀ a φ, F a -> H a = some (.ext φ) -> H' a = some (.ext φ)
theorem KeyOk.stay {K : PySem.W.Frag} {F F' : Addr -> Prop} {H H' : Hp} (S : Stay K F F' H H') {k : DKey} {b : Addr} (h : KeyOk K H k b) : KeyOk K H' k b := by
 cases k with
 | inl ks => exact S.tp _ _ h
 | inr kss => obtain ⟨n, bs, h1, h2⟩ := h; exact ⟨n, bs, S.tp _ _ h1, Paired.mapP h2 fun _ _ z => S.tp _ _ z⟩
theorem FzL.stay {K : PySem.W.Frag} {F F' : Addr -> Prop} {H H' : Hp} (S : Stay K F F' H H') {a : Addr} {vs : List V} (h : FzL K F H a vs) : FzL K F' H' a vs := by
 rcases h with ⟨f, h⟩ | h
 ·exact .inl ⟨S.up a f, S.ls a vs f h⟩
 ·exact .inr h
mutual
theorem Rep.stay {K : PySem.W.Frag} {F F' : Addr -> Prop} {H H' : Hp} (S : Stay K F F' H H') : ∀ {d : D} {v : V}, Rep K F H d v -> Rep K F' H' d v
 | _, _, .non => .non
 | _, _, .bl b => .bl b
 | _, _, .int i => .int i
 | _, _, .str x => .str x
 | _, _, .tup h r => .tup (S.tp _ _ h) (Reps.stay S r)
 | _, _, .lst h r => .lst (h.stay S) (Reps.stay S r)
 | _, _, .dct f h n l r => .dct (S.up _ f) (S.xt _ _ f h) n l (DReps.stay S r)
 | _, _, .exn f h n => .exn (S.up _ f) (S.xt _ _ f h) n
theorem DReps.stay {K : PySem.W.Frag} {F F' : Addr -> Prop} {H H' : Hp} (S : Stay K F F' H H') : ∀ {kvs : List (D × D)} {es : List (DKey × Addr × V)}, DReps K F H kvs es -> DReps K F' H' kvs es
 | _, _, .nil => .nil
 | _, _, .cons h r t => .cons (h.stay S) (Rep.stay S r) (DReps.stay S t)
theorem Reps.stay {K : PySem.W.Frag} {F F' : Addr -> Prop} {H H' : Hp} (S : Stay K F F' H H') : ∀ {ds : List D} {vs : List V}, Reps K F H ds vs -> Reps K F' H' ds vs
 | _, _, .nil => .nil
 | _, _, .cons h r => .cons (Rep.stay S h) (Reps.stay S r)
end
theorem Reps.length {K : PySem.W.Frag} {F : Addr -> Prop} {H : Hp} : ∀ {ds : List D} {vs : List V}, Reps K F H ds vs -> ds.length = vs.length
 | _, _, .nil => rfl
 | _, _, .cons _ r => by simp [Reps.length r]
theorem Reps.get {K : PySem.W.Frag} {F : Addr -> Prop} {H : Hp} : ∀ {ds : List D} {vs : List V} {i : Nat} {d : D}, Reps K F H ds vs -> ds[i]? = some d -> ∃ v, vs[i]? = some v /\ Rep K F H d v
 | _, _, _, _, .nil, e => by simp at e
 | _, _, 0, _, .cons h _, e => by simp at e; subst e; exact ⟨_, rfl, h⟩
 | _, _, i + 1, d, .cons _ r, e => by
  obtain ⟨v, h1, h2⟩ := Reps.get (i := i) (d := d) r (by simpa using e)
  exact ⟨v, by simpa using h1, h2⟩
theorem Reps.append {K : PySem.W.Frag} {F : Addr -> Prop} {H : Hp} : ∀ {ds es : List D} {vs us : List V}, Reps K F H ds vs -> Reps K F H es us -> Reps K F H (ds ++ es) (vs ++ us)
 | _, _, _, _, .nil, s => s
 | _, _, _, _, .cons h r, s => .cons h (Reps.append r s)
theorem Reps.take {K : PySem.W.Frag} {F : Addr -> Prop} {H : Hp} : ∀ {ds : List D} {vs : List V} (n : Nat), Reps K F H ds vs -> Reps K F H (ds.take n) (vs.take n)
 | _, _, 0, _ => .nil
 | _, _, _ + 1, .nil => .nil
 | _, _, n + 1, .cons h r => .cons h (Reps.take n r)
theorem Reps.drop {K : PySem.W.Frag} {F : Addr -> Prop} {H : Hp} : ∀ {ds : List D} {vs : List V} (n : Nat), Reps K F H ds vs -> Reps K F H (ds.drop n) (vs.drop n)
 | _, _, 0, r => r
 | _, _, _ + 1, .nil => .nil
 | _, _, n + 1, .cons _ r => Reps.drop n r
structure Ext (F F' : Addr -> Prop) (H H' : Hp) : Prop where
 same : Same H H'
 up : ∀ a, F a -> F' a
 new : ∀ a, F' a -> F a ∨ (H a = none /\ H' a ≠ none)
theorem Ext.refl (F : Addr -> Prop) (H : Hp) : Ext F F H H := ⟨Same.refl H, fun _ h => h, fun _ h => .inl h⟩
theorem Ext.trans {F F1 F2 : Addr -> Prop} {H H1 H2 : Hp} (a : Ext F F1 H H1) (b : Ext F1 F2 H1 H2) : Ext F F2 H H2 :=
 ⟨a.same.trans b.same, fun x h => b.up x (a.up x h), fun x h => by
  rcases b.new x h with h1 | ⟨h1, h2⟩
  ·rcases a.new x h1 with h3 | ⟨h3, h4⟩
   ·exact .inl h3
   ·refine .inr ⟨h3, fun z => h4 (b.same.free z)⟩
  ·exact .inr ⟨a.same.free h1, h2⟩⟩
theorem Same.sqT {K : PySem.W.Frag} {H H' : Hp} {a : Addr} {xs : List V} (e : Same H H') (h : SqT K H a xs) : SqT K H' a xs := by
 rcases h with (h | ⟨o, h⟩) | h
 ·exact .inl (.inl (e _ _ h))
 ·exact .inl (.inr ⟨o, e _ _ h⟩)
 ·exact .inr h
theorem Same.rd {H H' : Hp} {a : Addr} {u : HO} (e : Same H H') (h : Rd H a u) : Rd H' a u := by
 rcases h with h | ⟨o, h⟩
 ·exact .inl (e _ _ h)
 ·exact .inr ⟨o, e _ _ h⟩
theorem Ext.stay {K : PySem.W.Frag} {F F' : Addr -> Prop} {H H' : Hp} (e : Ext F F' H H') : Stay K F F' H H' :=
 ⟨e.up, fun _ _ h => Same.sqT e.same h, fun _ _ _ h => Same.rd e.same h, fun _ _ _ h => e.same _ _ h⟩
theorem same_upd {H : Hp} {p : Addr} {o : HO} (hp : H p = none) : Same H (upd H p o) := fun b u e => by
 rw [upd_ne (ne_of_none e hp)]; exact e
theorem Ext.fresh {F : Addr -> Prop} {H : Hp} {p : Addr} {o : HO} (hp : H p = none) : Ext F F H (upd H p o) := ⟨same_upd hp, fun _ h => h, fun _ h => .inl h⟩
theorem Ext.frozen {F : Addr -> Prop} {H : Hp} {p : Addr} {o : HO} (hp : H p = none) : Ext F (fun a => F a ∨ a = p) H (upd H p o) :=
 ⟨same_upd hp, fun _ h => .inl h, fun a h => h.elim .inl fun e => .inr (by subst e; exact ⟨hp, by rw [upd_same]; simp⟩)⟩
theorem Rep.newTup {K : PySem.W.Frag} {F : Addr -> Prop} {H : Hp} {p : Addr} {vs : List V} {ds : List D} (hp : H p = none) (r : Reps K F H ds vs) : Rep K F (upd H p (.tup vs)) (.tuple ds) (.ref p) :=
 .tup (.inl (.inl upd_same)) (r.stay (Ext.fresh hp).stay)
theorem Rep.newLst {K : PySem.W.Frag} {F : Addr -> Prop} {H : Hp} {p : Addr} {vs : List V} {ds : List D} (hp : H p = none) (r : Reps K F H ds vs) : Rep K (fun a => F a ∨ a = p) (upd H p (.lst vs)) (.list ds) (.ref p) :=
 .lst (.inl ⟨.inr rfl, .inl upd_same⟩) (r.stay (Ext.frozen hp).stay)
inductive Sl where
 | no
 | dat (d : D)
 | own (ds : List D)
 | ownD (kvs : List (D × D))
noncomputable def SlOk (K : PySem.W.Frag) (F : Addr -> Prop) (H H₀ : Hp) : Option V -> Sl -> Prop
 | _, .no => True
 | o, .dat d => ∃ v, o = some v /\ Rep K F H d v
 | o, .own ds => ∃ a vs, o = some (.ref a) /\ H a = some (.lst vs) /\ ¬ F a /\ H₀ a = none /\ Reps K F H ds vs
 | o, .ownD kvs => ∃ a es ep, o = some (.ref a) /\ H a = some (DctO a es ep) /\ ¬ F a /\ H₀ a = none /\ (es.map (·.1)).Nodup /\ es.length <= 1000 /\ DReps K F H kvs es
structure StOk (K : PySem.W.Frag) (F : Addr -> Prop) (H H₀ : Hp) (σ : L2.St) (ρ : List Sl) : Prop where
 len : σ.length = ρ.length
 sl : ∀ (i : Nat) (s : Sl), ρ[i]? = some s -> ∃ o, σ[i]? = some o /\ SlOk K F H H₀ o s
 sep : ∀ (i j : Nat) (a : Addr) (ds es : List D), i ≠ j -> ρ[i]? = some (.own ds) -> ρ[j]? = some (.own es) -> σ[i]? = some (some (.ref a)) -> σ[j]? ≠ some (some (.ref a))
 fz : ∀ a, F a -> H a ≠ none
theorem SlOk.ext {K : PySem.W.Frag} {F F' : Addr -> Prop} {H H' H₀ : Hp} (e : Ext F F' H H') {o : Option V} {s : Sl} (h : SlOk K F H H₀ o s) : SlOk K F' H' H₀ o s := by
 cases s with
 | no => trivial
 | ownD kvs =>
  obtain ⟨a, es, ep, q, ha, nf, h0, n, l, r⟩ := h
  refine ⟨a, es, ep, q, e.same _ _ ha, fun f => ?_, h0, n, l, r.stay e.stay⟩
  rcases e.new a f with f | ⟨f, _⟩
  ·exact nf f
  ·rw [ha] at f; cases f
 | dat d => obtain ⟨v, q, r⟩ := h; exact ⟨v, q, r.stay e.stay⟩
 | own ds =>
  obtain ⟨a, vs, q, ha, nf, h0, r⟩ := h
  refine ⟨a, vs, q, e.same _ _ ha, fun f => ?_, h0, r.stay e.stay⟩
  rcases e.new a f with f | ⟨f, _⟩
  ·exact nf f
  ·rw [ha] at f; cases f
theorem Ext.fz {F F' : Addr -> Prop} {H H' : Hp} (e : Ext F F' H H') (z : ∀ a, F a -> H a ≠ none) : ∀ a, F' a -> H' a ≠ none := fun a f q => by
 rcases e.new a f with f | ⟨_, f⟩
 ·exact z a f (e.same.free q)
 ·exact f q
theorem StOk.ext {K : PySem.W.Frag} {F F' : Addr -> Prop} {H H' H₀ : Hp} {σ : L2.St} {ρ : List Sl} (S : StOk K F H H₀ σ ρ) (e : Ext F F' H H') : StOk K F' H' H₀ σ ρ :=
 ⟨S.len, fun i s h => let ⟨o, q, r⟩ := S.sl i s h; ⟨o, q, r.ext e⟩, S.sep, e.fz S.fz⟩
theorem StOk.dat {K : PySem.W.Frag} {F : Addr -> Prop} {H H₀ : Hp} {σ : L2.St} {ρ : List Sl} (S : StOk K F H H₀ σ ρ) {i : Nat} {d : D} (h : ρ[i]? = some (.dat d)) : ∃ v, σ[i]? = some (some v) /\ Rep K F H d v := by
 obtain ⟨o, q, v, e, r⟩ := S.sl i _ h
 exact ⟨v, by rw [q, e], r⟩
theorem StOk.ownD {K : PySem.W.Frag} {F : Addr -> Prop} {H H₀ : Hp} {σ : L2.St} {ρ : List Sl} (S : StOk K F H H₀ σ ρ) {i : Nat} {kvs : List (D × D)} (h : ρ[i]? = some (.ownD kvs)) :
  ∃ a es ep, σ[i]? = some (some (.ref a)) /\ H a = some (DctO a es ep) /\ ¬ F a /\ H₀ a = none /\ (es.map (·.1)).Nodup /\ es.length <= 1000 /\ DReps K F H kvs es := by
 obtain ⟨o, q, a, es, ep, e, r⟩ := S.sl i _ h
 exact ⟨a, es, ep, by rw [q, e], r⟩
theorem StOk.own {K : PySem.W.Frag} {F : Addr -> Prop} {H H₀ : Hp} {σ : L2.St} {ρ : List Sl} (S : StOk K F H H₀ σ ρ) {i : Nat} {ds : List D} (h : ρ[i]? = some (.own ds)) :
  ∃ a vs, σ[i]? = some (some (.ref a)) /\ H a = some (.lst vs) /\ ¬ F a /\ H₀ a = none /\ Reps K F H ds vs := by
 obtain ⟨o, q, a, vs, e, r⟩ := S.sl i _ h
 exact ⟨a, vs, by rw [q, e], r⟩
theorem StOk.put {K : PySem.W.Frag} {F : Addr -> Prop} {H H₀ : Hp} {σ : L2.St} {ρ : List Sl} (S : StOk K F H H₀ σ ρ) {i : Nat} {d : D} {v : V} (r : Rep K F H d v) : StOk K F H H₀ (σ.set i (some v)) (ρ.set i (.dat d)) := by
 refine ⟨by simp [S.len], fun j s h => ?_, fun j k a ds es hjk h1 h2 h3 => ?_, S.fz⟩
 ·by_cases hij : i = j
  ·subst hij
   have hl : i < ρ.length := by
    have := List.getElem?_eq_some_iff.mp h
    simpa using this.1
   rw [List.getElem?_set_self hl] at h
   cases h
   exact ⟨some v, by rw [List.getElem?_set_self (by rw [S.len]; exact hl)], v, rfl, r⟩
  ·rw [List.getElem?_set_ne hij] at h
   obtain ⟨o, q, w⟩ := S.sl j s h
   exact ⟨o, by rw [List.getElem?_set_ne hij]; exact q, w⟩
 ·have nj : i ≠ j := by
   intro e; subst e
   have hl : i < ρ.length := by
    have := List.getElem?_eq_some_iff.mp h1
    simpa using this.1
   rw [List.getElem?_set_self hl] at h1; cases h1
  have nk : i ≠ k := by
   intro e; subst e
   have hl : i < ρ.length := by
    have := List.getElem?_eq_some_iff.mp h2
    simpa using this.1
   rw [List.getElem?_set_self hl] at h2; cases h2
  rw [List.getElem?_set_ne nj] at h1 h3
  rw [List.getElem?_set_ne nk] at h2 ⊢
  exact S.sep j k a ds es hjk h1 h2 h3
theorem StOk.putOwn {K : PySem.W.Frag} {F : Addr -> Prop} {H H₀ : Hp} {σ : L2.St} {ρ : List Sl} (S : StOk K F H H₀ σ ρ) {i : Nat} {ds : List D} {vs : List V} {p : Addr} (hp : H p = none) (h0 : H₀ p = none) (r : Reps K F H ds vs) :
  StOk K F (upd H p (.lst vs)) H₀ (σ.set i (some (.ref p))) (ρ.set i (.own ds)) := by
 have e : Ext F F H (upd H p (.lst vs)) := Ext.fresh hp
 have S' := S.ext e
 have hf : ¬ F p := fun f => S.fz p f hp
 refine ⟨by simp [S.len], fun j s h => ?_, fun j k a ds' es hjk h1 h2 h3 h4 => ?_, S'.fz⟩
 ·by_cases hij : i = j
  ·subst hij
   have hl : i < ρ.length := by
    have := List.getElem?_eq_some_iff.mp h
    simpa using this.1
   rw [List.getElem?_set_self hl] at h
   cases h
   exact ⟨some (.ref p), by rw [List.getElem?_set_self (by rw [S.len]; exact hl)], p, vs, rfl, upd_same, hf, h0, r.stay e.stay⟩
  ·rw [List.getElem?_set_ne hij] at h
   obtain ⟨o, q, w⟩ := S'.sl j s h
   exact ⟨o, by rw [List.getElem?_set_ne hij]; exact q, w⟩
 ·have old : ∀ (m : Nat) (a : Addr) (es : List D), i ≠ m -> (ρ.set i (.own ds))[m]? = some (.own es) -> (σ.set i (some (.ref p)))[m]? = some (some (.ref a)) -> a ≠ p := fun m a es nm g1 g2 z => by
   rw [List.getElem?_set_ne nm] at g1 g2
   obtain ⟨b, us, q1, q2, _⟩ := S.own g1
   rw [q1] at g2; cases g2
   subst z
   rw [hp] at q2; cases q2
  by_cases hij : i = j
  ·subst hij
   have hik : i ≠ k := hjk
   have hl : i < ρ.length := by
    have := List.getElem?_eq_some_iff.mp h1
    simpa using this.1
   rw [List.getElem?_set_self (by rw [S.len]; exact hl)] at h3
   cases h3
   exact old k p es hik h2 h4 rfl
  ·by_cases hik : i = k
   ·subst hik
    have hl : i < ρ.length := by
     have := List.getElem?_eq_some_iff.mp h2
     simpa using this.1
    rw [List.getElem?_set_self (by rw [S.len]; exact hl)] at h4
    cases h4
    exact old j p ds' hij h1 h3 rfl
   ·rw [List.getElem?_set_ne hij] at h1 h3
    rw [List.getElem?_set_ne hik] at h2 h4
    exact S.sep j k a ds' es hjk h1 h2 h3 h4
theorem StOk.turn {K : PySem.W.Frag} {F : Addr -> Prop} {H H₀ : Hp} {σ : L2.St} {ρ : List Sl} (S : StOk K F H H₀ σ ρ) {i : Nat} {ds es : List D} {vs us : List V} {p : Addr} (hi : ρ[i]? = some (.own ds)) (hs : σ[i]? = some (some (.ref p)))
  (hp : H p = some (.lst vs)) (hf : ¬ F p) (r : Reps K F H es us) : StOk K F (upd H p (.lst us)) H₀ σ (ρ.set i (.own es)) /\ Stay K F F H (upd H p (.lst us)) := by
 have T : Stay K F F H (upd H p (.lst us)) := ⟨fun _ h => h, fun a xs h => by
   rcases h with (h | ⟨o, h⟩) | h
   ·exact .inl (.inl (by rw [upd_ne (by intro z; subst z; rw [hp] at h; cases h)]; exact h))
   ·exact .inl (.inr ⟨o, by rw [upd_ne (by intro z; subst z; rw [hp] at h; cases h)]; exact h⟩)
   ·exact .inr h, fun a xs f h => by
   have na : a ≠ p := fun z => hf (z ▸ f)
   rcases h with h | ⟨o, h⟩
   ·exact .inl (by rw [upd_ne na]; exact h)
   ·exact .inr ⟨o, by rw [upd_ne na]; exact h⟩, fun a φ f h => by rw [upd_ne (fun z => hf (by rw [<- z]; exact f))]; exact h⟩
 refine ⟨⟨by simp [S.len], fun j s h => ?_, fun j k a ds' es' hjk h1 h2 h3 => ?_, fun a f z => S.fz a f (by
  have na : a ≠ p := fun y => hf (by rw [<- y]; exact f)
  rwa [upd_ne na] at z)⟩, T⟩
 ·by_cases hij : i = j
  ·subst hij
   have hl : i < ρ.length := (List.getElem?_eq_some_iff.mp hi).1
   rw [List.getElem?_set_self hl] at h
   cases h
   obtain ⟨a, ws, q1, _, _, q4, _⟩ := S.own hi
   rw [hs] at q1; cases q1
   exact ⟨_, hs, p, us, rfl, upd_same, hf, q4, r.stay T⟩
  ·rw [List.getElem?_set_ne hij] at h
   obtain ⟨o, q, w⟩ := S.sl j s h
   refine ⟨o, q, ?_⟩
   cases s with
   | no => trivial
   | ownD kvs =>
    obtain ⟨a, es', ep, q', ha, nf, h0, n, l, r'⟩ := w
    exact ⟨a, es', ep, q', by rw [upd_ne (by intro z; subst z; rw [hp] at ha; cases ha)]; exact ha, nf, h0, n, l, r'.stay T⟩
   | dat d => obtain ⟨v, q', r'⟩ := w; exact ⟨v, q', r'.stay T⟩
   | own ds' =>
    obtain ⟨a, ws, q', ha, nf, h0, r'⟩ := w
    have na : a ≠ p := by
     intro z; subst z
     exact S.sep i j a ds ds' hij hi h hs (by rw [q, q'])
    exact ⟨a, ws, q', by rw [upd_ne na]; exact ha, nf, h0, r'.stay T⟩
 ·have get : ∀ (m : Nat) (es' : List D), (ρ.set i (.own es))[m]? = some (.own es') -> ∃ ds'' : List D, ρ[m]? = some (.own ds'') := fun m es' g => by
   by_cases him : i = m
   ·subst him; exact ⟨ds, hi⟩
   ·rw [List.getElem?_set_ne him] at g; exact ⟨es', g⟩
  obtain ⟨d1, g1⟩ := get j ds' h1
  obtain ⟨d2, g2⟩ := get k es' h2
  exact S.sep j k a d1 d2 hjk g1 g2 h3
noncomputable def frz : Sl -> Sl
 | .own ds => .dat (.list ds)
 | .ownD kvs => .dat (.dict kvs)
 | s => s
noncomputable def Own (σ : L2.St) (ρ : List Sl) (a : Addr) : Prop := (∃ (i : Nat) (ds : List D), ρ[i]? = some (.own ds) /\ σ[i]? = some (some (.ref a))) ∨ ∃ (i : Nat) (kvs : List (D × D)), ρ[i]? = some (.ownD kvs) /\ σ[i]? = some (some (.ref a))
theorem StOk.frz {K : PySem.W.Frag} {F : Addr -> Prop} {H H₀ : Hp} {σ : L2.St} {ρ : List Sl} (S : StOk K F H H₀ σ ρ) : StOk K (fun a => F a ∨ Own σ ρ a) H H₀ σ (ρ.map frz) := by
 have T : Stay K F (fun a => F a ∨ Own σ ρ a) H H := ⟨fun _ h => .inl h, fun _ _ h => h, fun _ _ _ h => h, fun _ _ _ h => h⟩
 refine ⟨by simp [S.len], fun j s h => ?_, fun j k a ds es _ h1 => ?_, fun a f => ?_⟩
 ·rw [List.getElem?_map] at h
  cases e : ρ[j]? with
  | none => rw [e] at h; cases h
  | some s' =>
   rw [e] at h
   obtain ⟨o, q, w⟩ := S.sl j s' e
   refine ⟨o, q, ?_⟩
   cases s' with
   | no => cases h; trivial
   | ownD kvs =>
    cases h
    obtain ⟨a, es, ep, q', ha, nf, h0, n, l, r⟩ := w
    exact ⟨.ref a, q', .dct (.inr (.inr ⟨j, kvs, e, by rw [q, q']⟩)) ha n l (r.stay T)⟩
   | dat d => cases h; obtain ⟨v, q', r⟩ := w; exact ⟨v, q', r.stay T⟩
   | own ds =>
    cases h
    obtain ⟨a, vs, q', ha, nf, h0, r⟩ := w
    exact ⟨.ref a, q', .lst (.inl ⟨.inr (.inl ⟨j, ds, e, by rw [q, q']⟩), .inl ha⟩) (r.stay T)⟩
 ·rw [List.getElem?_map] at h1
  cases e : ρ[j]? with
  | none => rw [e] at h1; cases h1
  | some s' => rw [e] at h1; cases s' <;> cases h1
 ·rcases f with f | ⟨i, ds, q1, q2⟩ | ⟨i, kvs, q1, q2⟩
  ·exact S.fz a f
  ·obtain ⟨b, vs, g1, g2, _⟩ := S.own q1
   rw [g1] at q2; cases q2
   rw [g2]; simp
  ·obtain ⟨b, vs, ep, g1, g2, _⟩ := S.ownD q1
   rw [g1] at q2; cases q2
   rw [g2]; simp
theorem StOk.frz1 {K : PySem.W.Frag} {F : Addr -> Prop} {H H₀ : Hp} {σ : L2.St} {ρ : List Sl} (S : StOk K F H H₀ σ ρ) {i : Nat} {ds : List D} (hi : ρ[i]? = some (.own ds)) :
  ∃ a, H₀ a = none /\ StOk K (fun b => F b ∨ b = a) H H₀ σ (ρ.set i (.dat (.list ds))) := by
 obtain ⟨a, vs, q1, q2, nf, h0, r⟩ := S.own hi
 have T : Stay K F (fun b => F b ∨ b = a) H H := ⟨fun _ h => .inl h, fun _ _ h => h, fun _ _ _ h => h, fun _ _ _ h => h⟩
 have hl : i < ρ.length := (List.getElem?_eq_some_iff.mp hi).1
 refine ⟨a, h0, by simp [S.len], fun j s h => ?_, fun j k b ds' es hjk h1 h2 h3 => ?_, fun b f => f.elim (S.fz b) fun z => by subst z; rw [q2]; simp⟩
 ·by_cases hij : i = j
  ·subst hij
   rw [List.getElem?_set_self hl] at h
   cases h
   exact ⟨_, q1, .ref a, rfl, .lst (.inl ⟨.inr rfl, .inl q2⟩) (r.stay T)⟩
  ·rw [List.getElem?_set_ne hij] at h
   obtain ⟨o, q, w⟩ := S.sl j s h
   refine ⟨o, q, ?_⟩
   cases s with
   | no => trivial
   | ownD kvs =>
    obtain ⟨b, es', ep, q', ha, nf', h0', n, l, r'⟩ := w
    refine ⟨b, es', ep, q', ha, fun f => ?_, h0', n, l, r'.stay T⟩
    rcases f with f | f
    ·exact nf' f
    ·subst f; rw [ha] at q2; cases q2
   | dat d => obtain ⟨v, q', r'⟩ := w; exact ⟨v, q', r'.stay T⟩
   | own ds' =>
    obtain ⟨b, ws, q', ha, nf', h0', r'⟩ := w
    refine ⟨b, ws, q', ha, fun f => ?_, h0', r'.stay T⟩
    rcases f with f | f
    ·exact nf' f
    ·subst f
     exact S.sep i j b ds ds' hij hi h q1 (by rw [q, q'])
 ·have nj : i ≠ j := by intro e; subst e; rw [List.getElem?_set_self hl] at h1; cases h1
  have nk : i ≠ k := by intro e; subst e; rw [List.getElem?_set_self hl] at h2; cases h2
  rw [List.getElem?_set_ne nj] at h1
  rw [List.getElem?_set_ne nk] at h2
  exact S.sep j k b ds' es hjk h1 h2 h3
end DL
namespace DL
open PySem PySem.Spec PyProof.Rows L2
abbrev Rho := List Sl
section
variable {X : Cx}
theorem pe_mono {e : Expr} {t t' : TE} (h : PE X e t) (m : ∀ σ H Q, t' σ H Q -> t σ H Q) : PE X e t' := fun pins s σ H Q I q => h pins s σ H Q I (m σ H Q q)
theorem pt_mono {e : Expr} {t t' : TT} (h : PT X e t) (m : ∀ σ H Q, t' σ H Q -> t σ H Q) : PT X e t' := fun pins s σ H Q I q => h pins s σ H Q I (m σ H Q q)
theorem pw_mono {e : Expr} {t t' : TT} (h : PW X e t) (m : ∀ σ H Q, t' σ H Q -> t σ H Q) : PW X e t' := fun wh pins s σ H Q I q => h wh pins s σ H Q I (m σ H Q q)
theorem pa_mono {es : List Expr} {t t' : TA} (h : PA X es t) (m : ∀ σ H Q, t' σ H Q -> t σ H Q) : PA X es t' := fun pos pins s σ H Q I q => h pos pins s σ H Q I (m σ H Q q)
theorem ps_mono {e : Stmt} {t t' : TS} (h : PS X e t) (m : ∀ W σ H, t' W σ H -> t W σ H) : PS X e t' := fun pins s σ H W I q => h pins s σ H W I (m W σ H q)
theorem pss_mono {e : List Stmt} {t t' : TS} (h : PSs X e t) (m : ∀ W σ H, t' W σ H -> t W σ H) : PSs X e t' := fun pins s σ H W I q => h pins s σ H W I (m W σ H q)
theorem opr_mono {f : Value -> Value -> Sem Value} {r r' : R2} (h : OpR X f r) (m : ∀ x y H Q, r' x y H Q -> r x y H Q) : OpR X f r' := fun pins s σ H x y v u Q I rx ry q => h pins s σ H x y v u Q I rx ry (m x y H Q q)
theorem unr_mono {f : Value -> Sem Value} {r r' : V -> Hp -> VK -> Prop} (h : UnR X f r) (m : ∀ x H Q, r' x H Q -> r x H Q) : UnR X f r' := fun pins s σ H x v Q I rx q => h pins s σ H x v Q I rx (m x H Q q)
theorem callr_mono {f : Value} {r r' : List V -> Hp -> VK -> Prop} (h : CallR X f r) (m : ∀ x H Q, r' x H Q -> r x H Q) : CallR X f r' := fun pins s σ H x v Q I rx q => h pins s σ H x v Q I rx (m x H Q q)
theorem ixr_mono {r r' : R2} (h : IxR X r) (m : ∀ x y H Q, r' x y H Q -> r x y H Q) : IxR X r' := fun a b pins s σ H x y v u Q I rx ry q hs => h a b pins s σ H x y v u Q I rx ry (m x y H Q q) hs
end
noncomputable def tD (K : PySem.W.Frag) (g : Rho -> Option D) : TE := fun σ H Q => ∃ (F : Addr -> Prop) (H₀ : Hp) (ρ : Rho) (d : D), StOk K F H H₀ σ ρ /\ g ρ = some d /\ ∀ F' H' v, Ext F F' H H' -> Rep K F' H' d v -> Q v H'
noncomputable def tDT (K : PySem.W.Frag) (g : Rho -> Option Bool) : TT := fun σ H Q => ∃ (F : Addr -> Prop) (H₀ : Hp) (ρ : Rho) (b : Bool), StOk K F H H₀ σ ρ /\ g ρ = some b /\ ∀ F' H', Ext F F' H H' -> Q b H'
noncomputable def tDA (K : PySem.W.Frag) (g : Rho -> Option (List D)) : TA := fun σ H Q => ∃ (F : Addr -> Prop) (H₀ : Hp) (ρ : Rho) (ds : List D), StOk K F H H₀ σ ρ /\ g ρ = some ds /\ ∀ F' H' vs, Ext F F' H H' -> Reps K F' H' ds vs -> Q vs H'
noncomputable def DE (X : Cx) (e : Expr) (g : Rho -> Option D) : Prop := PE X e (tD X.K g)
noncomputable def DT (X : Cx) (e : Expr) (g : Rho -> Option Bool) : Prop := PT X e (tDT X.K g)
noncomputable def DW (X : Cx) (e : Expr) (g : Rho -> Option Bool) : Prop := PW X e (tDT X.K g)
noncomputable def DA (X : Cx) (es : List Expr) (g : Rho -> Option (List D)) : Prop := PA X es (tDA X.K g)
noncomputable def eC (d : D) : Rho -> Option D := fun _ => some d
noncomputable def eV (i : Nat) : Rho -> Option D := fun ρ => match ρ[i]? with
 | some (.dat d) => some d
 | _ => none
noncomputable def eOp (f : D -> D -> Option D) (ga gb : Rho -> Option D) : Rho -> Option D := fun ρ => (ga ρ).bind fun x => (gb ρ).bind fun y => f x y
noncomputable def eUn (f : D -> Option D) (ga : Rho -> Option D) : Rho -> Option D := fun ρ => (ga ρ).bind f
noncomputable def eNil : Rho -> Option (List D) := fun _ => some []
noncomputable def eCons (ga : Rho -> Option D) (gr : Rho -> Option (List D)) : Rho -> Option (List D) := fun ρ => (ga ρ).bind fun x => (gr ρ).bind fun xs => some (x :: xs)
noncomputable def eTup (ga : Rho -> Option (List D)) : Rho -> Option D := fun ρ => (ga ρ).bind fun xs => if xs.length <= 1000 then some (.tuple xs) else none
noncomputable def eLst (ga : Rho -> Option (List D)) : Rho -> Option D := fun ρ => (ga ρ).bind fun xs => if xs.length <= 1000 then some (.list xs) else none
noncomputable def eCall (G : List D -> Option D) (ga : Rho -> Option (List D)) : Rho -> Option D := fun ρ => (ga ρ).bind G
noncomputable def asB : D -> Option Bool
 | .bool b => some b
 | _ => none
noncomputable def asI : D -> Option Int
 | .int i => some i
 | _ => none
noncomputable def eB (ga : Rho -> Option D) : Rho -> Option Bool := fun ρ => (ga ρ).bind asB
noncomputable def eAnd (t u : Rho -> Option Bool) : Rho -> Option Bool := fun ρ => (t ρ).bind fun b => if b = true then u ρ else some false
noncomputable def eOr (t u : Rho -> Option Bool) : Rho -> Option Bool := fun ρ => (t ρ).bind fun b => if b = true then some true else u ρ
noncomputable def eNot (t : Rho -> Option Bool) : Rho -> Option Bool := fun ρ => (t ρ).bind fun b => some (!b)
noncomputable def eIf (t : Rho -> Option Bool) (ga gb : Rho -> Option D) : Rho -> Option D := fun ρ => (t ρ).bind fun b => if b = true then ga ρ else gb ρ
noncomputable def eAndV (ga gb : Rho -> Option D) : Rho -> Option D := fun ρ => (ga ρ).bind fun x => (asB x).bind fun c => if c = true then gb ρ else some (.bool false)
noncomputable def eOrV (ga gb : Rho -> Option D) : Rho -> Option D := fun ρ => (ga ρ).bind fun x => (asB x).bind fun c => if c = true then some (.bool true) else gb ρ
noncomputable def eNotV (ga : Rho -> Option D) : Rho -> Option D := fun ρ => (ga ρ).bind fun x => (asB x).bind fun c => some (.bool (!c))
noncomputable def eChain (h h' : D -> D -> Option D) (ga gb gc : Rho -> Option D) : Rho -> Option D := fun ρ => (ga ρ).bind fun x => (gb ρ).bind fun y => (h x y).bind fun z => (asB z).bind fun k => if k = true then (gc ρ).bind fun w => h' y w else some (.bool false)
noncomputable def rD2 (K : PySem.W.Frag) (h : D -> D -> Option D) : R2 := fun x y H Q => ∃ (F : Addr -> Prop) (d e r : D), (∀ a, F a -> H a ≠ none) /\ Rep K F H d x /\ Rep K F H e y /\ h d e = some r /\ ∀ F' H' v, Ext F F' H H' -> Rep K F' H' r v -> Q v H'
noncomputable def rD1 (K : PySem.W.Frag) (h : D -> Option D) : V -> Hp -> VK -> Prop := fun x H Q => ∃ (F : Addr -> Prop) (d r : D), (∀ a, F a -> H a ≠ none) /\ Rep K F H d x /\ h d = some r /\ ∀ F' H' v, Ext F F' H H' -> Rep K F' H' r v -> Q v H'
noncomputable def rDA (K : PySem.W.Frag) (h : List D -> Option D) : List V -> Hp -> VK -> Prop := fun xs H Q => ∃ (F : Addr -> Prop) (ds : List D) (r : D), (∀ a, F a -> H a ≠ none) /\ Reps K F H ds xs /\ h ds = some r /\ ∀ F' H' v, Ext F F' H H' -> Rep K F' H' r v -> Q v H'
section
variable {X : Cx} {a b c e : Expr} {es : List Expr} {ga gb gc : Rho -> Option D} {pos p : Pos}
theorem bnd {α β : Type} {o : Option α} {f : α -> Option β} {b : β} (h : o.bind f = some b) : ∃ a, o = some a /\ f a = some b := by
 cases o with
 | none => cases h
 | some a => exact ⟨a, rfl, h⟩
theorem de_of_c {v : V} {d : D} (h : PE X e (tC v)) (r : ∀ K F H, Rep K F H d v) : DE X e (eC d) :=
 pe_mono h fun σ H Q zz => by
  obtain ⟨F, H₀, ρ, d', S, q, k⟩ := zz
  cases q
  exact k F H v (Ext.refl F H) (r _ _ _)
theorem de_int {i : Int} {j : Nat} : DE X (.Constant (.int i) j pos) (eC (.int i)) := de_of_c pe_int fun _ _ _ => .int i
theorem de_bl {i : Bool} {j : Nat} : DE X (.Constant (.bool i) j pos) (eC (.bool i)) := de_of_c pe_bl fun _ _ _ => .bl i
theorem de_str {x : Str} {j : Nat} : DE X (.Constant (.str x) j pos) (eC (.str x)) := de_of_c pe_str fun _ _ _ => .str x
theorem de_var (i : Nat) {x : Str} (hN : X.N[i]? = some x := by rfl) (hv : Vis X.env.scope x := by first | exact Or.inl rfl | exact Or.inr (Or.inl rfl) | exact Or.inr (Or.inr rfl)) (hd : (x == ("__debug__" : Str)) = false := by decide)
  (hcd : (x == ("__classdict__" : Str)) = false := by decide) : DE X (.Name x pos) (eV i) :=
 pe_mono (pe_var hN hv hd hcd) fun σ H Q zz => by
  obtain ⟨F, H₀, ρ, d, S, q, k⟩ := zz
  unfold eV at q
  split at q
  ·rename_i d' e
   cases q
   obtain ⟨v, hs, r⟩ := S.dat e
   exact ⟨v, hs, k F H v (Ext.refl F H) r⟩
  ·cases q
theorem lift2 {h : D -> D -> Option D} {σ : L2.St} {H : Hp} {Q : VK} (q : tD X.K (eOp h ga gb) σ H Q) : tOp (rD2 X.K h) (tD X.K ga) (tD X.K gb) σ H Q := by
 obtain ⟨F, H₀, ρ, d, S, q, k⟩ := q
 obtain ⟨x, e1, q⟩ := bnd q
 obtain ⟨y, e2, q⟩ := bnd q
 exact ⟨F, H₀, ρ, x, S, e1, fun F1 H1 v E1 R1 => ⟨F1, H₀, ρ, y, S.ext E1, e2, fun F2 H2 u E2 R2 => ⟨F2, x, y, d, ((S.ext E1).ext E2).fz, R1.stay E2.stay, R2, q, fun F3 H3 w E3 R3 => k F3 H3 w (E1.trans (E2.trans E3)) R3⟩⟩⟩
theorem de_op {op : Operator} {h : D -> D -> Option D} (ho : OpR X (binaryOp op) (rD2 X.K h)) (ha : DE X a ga) (hb : DE X b gb) : DE X (.BinOp a op b pos) (eOp h ga gb) :=
 pe_mono (pe_op ho ha hb) fun _ _ _ q => lift2 q
theorem de_cmp {op : CmpOp} {h : D -> D -> Option D} (ho : OpR X (compareOp op) (rD2 X.K h)) (ha : DE X a ga) (hb : DE X b gb) (hm : behindInMarks op b = false) : DE X (.Compare a [op] [b] pos) (eOp h ga gb) :=
 pe_mono (pe_cmpR ho ha hb hm) fun _ _ _ q => lift2 q
theorem de_ix {h : D -> D -> Option D} (ho : IxR X (rD2 X.K h)) (ha : DE X a ga) (hb : DE X b gb) (hs : PlainIx b := by exact fun _ _ => rfl) : DE X (.Subscript a b pos) (eOp h ga gb) :=
 pe_mono (pe_ix ho ha hb hs) fun _ _ _ q => lift2 q
theorem de_un {op : UnaryOp} {h : D -> Option D} (ho : UnR X (unaryOp op) (rD1 X.K h)) (ha : DE X a ga) : DE X (.UnaryOp op a pos) (eUn h ga) :=
 pe_mono (pe_un ho ha) fun σ H Q zz => by
  obtain ⟨F, H₀, ρ, d, S, q, k⟩ := zz
  obtain ⟨x, e1, q⟩ := bnd q
  exact ⟨F, H₀, ρ, x, S, e1, fun F1 H1 v E1 R1 => ⟨F1, x, d, (S.ext E1).fz, R1, q, fun F3 H3 w E3 R3 => k F3 H3 w (E1.trans E3) R3⟩⟩
theorem rep_bool {K : PySem.W.Frag} {F : Addr -> Prop} {H : Hp} {d : D} {v : V} {b : Bool} (r : Rep K F H d v) (h : asB d = some b) : v = .bl b := by
 cases r with
 | bl c => cases h; rfl
 | _ => cases h
theorem rep_int {K : PySem.W.Frag} {F : Addr -> Prop} {H : Hp} {d : D} {v : V} {i : Int} (r : Rep K F H d v) (h : asI d = some i) : v = .int i := by
 cases r with
 | int c => cases h; rfl
 | _ => cases h
theorem liftT {t : TE} {g : Rho -> Option D} (m : ∀ σ H Q, tD X.K g σ H Q -> t σ H Q) {σ : L2.St} {H : Hp} {Q : Bool -> Hp -> Prop} (q : tDT X.K (eB g) σ H Q) : tTest t σ H Q := by
 obtain ⟨F, H₀, ρ, b, S, q, k⟩ := q
 obtain ⟨d, e1, q⟩ := bnd q
 exact m σ H _ ⟨F, H₀, ρ, d, S, e1, fun F1 H1 v E1 R1 => ⟨b, rep_bool R1 q, k F1 H1 E1⟩⟩
theorem dt_cmp {op : CmpOp} {h : D -> D -> Option D} (ho : OpR X (compareOp op) (rD2 X.K h)) (ha : DE X a ga) (hb : DE X b gb) (hm : behindInMarks op b = false) : DT X (.Compare a [op] [b] pos) (eB (eOp h ga gb)) :=
 pt_mono (pt_cmpR ho ha hb hm) fun _ _ _ q => liftT (fun _ _ _ => lift2) q
theorem lift3 {h h' : D -> D -> Option D} {σ : L2.St} {H : Hp} {Q : VK} (q : tD X.K (eChain h h' ga gb gc) σ H Q) : tChain (rD2 X.K h) (rD2 X.K h') (tD X.K ga) (tD X.K gb) (tD X.K gc) σ H Q := by
 obtain ⟨F, H₀, ρ, d, S, q, k⟩ := q
 obtain ⟨x, e1, q⟩ := bnd q
 obtain ⟨y, e2, q⟩ := bnd q
 obtain ⟨z, e3, q⟩ := bnd q
 obtain ⟨c', e4, q⟩ := bnd q
 refine ⟨F, H₀, ρ, x, S, e1, fun F1 H1 v E1 R1 => ⟨F1, H₀, ρ, y, S.ext E1, e2, fun F2 H2 u E2 R2 => ⟨F2, x, y, z, ((S.ext E1).ext E2).fz, R1.stay E2.stay, R2, e3, fun F3 H3 w E3 R3 => ⟨c', rep_bool R3 e4, ?_⟩⟩⟩⟩
 cases c' with
 | false =>
  simp only [Bool.false_eq_true, if_false] at q ⊢
  cases q
  exact k F3 H3 _ (E1.trans (E2.trans E3)) (.bl false)
 | true =>
  simp only [if_true] at q ⊢
  obtain ⟨w', e5, q⟩ := bnd q
  have S3 := ((S.ext E1).ext E2).ext E3
  exact ⟨F3, H₀, ρ, w', S3, e5, fun F4 H4 v4 E4 R4 => ⟨F4, y, w', d, (S3.ext E4).fz, (R2.stay E3.stay).stay E4.stay, R4, q, fun F5 H5 v5 E5 R5 => k F5 H5 v5 (E1.trans (E2.trans (E3.trans (E4.trans E5)))) R5⟩⟩
theorem de_chain {op op' : CmpOp} {h h' : D -> D -> Option D} (ho : OpR X (compareOp op) (rD2 X.K h)) (ho' : OpR X (compareOp op') (rD2 X.K h')) (ha : DE X a ga) (hb : DE X b gb) (hc : DE X c gc)
  (hm : lastMarks [op, op'] [b, c] = false := by with_unfolding_all rfl) : DE X (.Compare a [op, op'] [b, c] pos) (eChain h h' ga gb gc) :=
 pe_mono (pe_chain ho ho' ha hb hc hm) fun _ _ _ q => lift3 q
theorem dt_val (ha : DE X a ga) (he : ∀ whole, isTrue a X.env whole = (do let v <- whole; standAt a.pos; holding [v] (truthy v)) := by intro _; rfl) : DT X a (eB ga) :=
 pt_mono (pt_val ha he) fun σ H Q zz => by
  obtain ⟨F, H₀, ρ, b, S, q, k⟩ := zz
  obtain ⟨d, e1, q⟩ := bnd q
  exact ⟨F, H₀, ρ, d, S, e1, fun F1 H1 v E1 R1 => ⟨b, rep_bool R1 q, k F1 H1 E1⟩⟩
variable {t u : Rho -> Option Bool} {rest : List Expr}
theorem dw_and1 (ha : DT X a t) : DW X (.BoolOp .And [a] pos) t := pw_and1 ha
theorem dw_or1 (ha : DT X a t) : DW X (.BoolOp .Or [a] pos) t := pw_or1 ha
theorem dw_and (ha : DT X a t) (hb : DW X (.BoolOp .And (b :: rest) pos) u) : DW X (.BoolOp .And (a :: b :: rest) pos) (eAnd t u) :=
 pw_mono (pw_and ha hb) fun σ H Q zz => by
  obtain ⟨F, H₀, ρ, r, S, q, k⟩ := zz
  obtain ⟨d, e1, q⟩ := bnd q
  refine ⟨F, H₀, ρ, d, S, e1, fun F1 H1 E1 => ?_⟩
  cases d with
  | true => simp only [if_true] at q ⊢; exact ⟨F1, H₀, ρ, r, S.ext E1, q, fun F2 H2 E2 => k F2 H2 (E1.trans E2)⟩
  | false => simp only [Bool.false_eq_true, if_false] at q ⊢; cases q; exact k F1 H1 E1
theorem dw_or (ha : DT X a t) (hb : DW X (.BoolOp .Or (b :: rest) pos) u) : DW X (.BoolOp .Or (a :: b :: rest) pos) (eOr t u) :=
 pw_mono (pw_or ha hb) fun σ H Q zz => by
  obtain ⟨F, H₀, ρ, r, S, q, k⟩ := zz
  obtain ⟨d, e1, q⟩ := bnd q
  refine ⟨F, H₀, ρ, d, S, e1, fun F1 H1 E1 => ?_⟩
  cases d with
  | false => simp only [Bool.false_eq_true, if_false] at q ⊢; exact ⟨F1, H₀, ρ, r, S.ext E1, q, fun F2 H2 E2 => k F2 H2 (E1.trans E2)⟩
  | true => simp only [if_true] at q ⊢; cases q; exact k F1 H1 E1
theorem dw_t (h : DW X a t) : DT X a t := PW.pt h
theorem dt_not (ha : DT X a t) : DT X (.UnaryOp .Not a pos) (eNot t) :=
 pt_mono (pt_not ha) fun σ H Q zz => by
  obtain ⟨F, H₀, ρ, r, S, q, k⟩ := zz
  obtain ⟨d, e1, q⟩ := bnd q
  cases q
  exact ⟨F, H₀, ρ, d, S, e1, fun F1 H1 E1 => k F1 H1 E1⟩
theorem de_one {op : BoolOp} (ha : DE X a ga) : DE X (.BoolOp op [a] pos) ga := pe_one ha
theorem de_and (ha : DE X a ga) (hb : DE X (.BoolOp .And (b :: rest) pos) gb) : DE X (.BoolOp .And (a :: b :: rest) pos) (eAndV ga gb) :=
 pe_mono (pe_and ha hb) fun σ H Q zz => by
  obtain ⟨F, H₀, ρ, r, S, q, k⟩ := zz
  obtain ⟨d, e1, q⟩ := bnd q
  obtain ⟨c, e2, q⟩ := bnd q
  refine ⟨F, H₀, ρ, d, S, e1, fun F1 H1 v E1 R1 => ⟨c, rep_bool R1 e2, ?_⟩⟩
  cases c with
  | true => simp only [if_true] at q ⊢; exact ⟨F1, H₀, ρ, r, S.ext E1, q, fun F2 H2 w E2 R2 => k F2 H2 w (E1.trans E2) R2⟩
  | false => simp only [Bool.false_eq_true, if_false] at q ⊢; cases q; exact k F1 H1 _ E1 (.bl false)
theorem de_not (ha : DE X a ga) : DE X (.UnaryOp .Not a pos) (eNotV ga) :=
 pe_mono (pe_not ha) fun σ H Q zz => by
  obtain ⟨F, H₀, ρ, r, S, q, k⟩ := zz
  obtain ⟨d, e1, q⟩ := bnd q
  obtain ⟨c, e2, q⟩ := bnd q
  cases q
  exact ⟨F, H₀, ρ, d, S, e1, fun F1 H1 v E1 R1 => ⟨c, rep_bool R1 e2, k F1 H1 _ E1 (.bl _)⟩⟩
theorem de_if (hc : DT X c t) (ha : DE X a ga) (hb : DE X b gb) : DE X (.IfExp c a b pos) (eIf t ga gb) :=
 pe_mono (pe_ifExp hc ha hb) fun σ H Q zz => by
  obtain ⟨F, H₀, ρ, r, S, q, k⟩ := zz
  obtain ⟨d, e1, q⟩ := bnd q
  refine ⟨F, H₀, ρ, d, S, e1, fun F1 H1 E1 => ?_⟩
  cases d with
  | true => simp only [if_true] at q ⊢; exact ⟨F1, H₀, ρ, r, S.ext E1, q, fun F2 H2 w E2 R2 => k F2 H2 w (E1.trans E2) R2⟩
  | false => simp only [Bool.false_eq_true, if_false] at q ⊢; exact ⟨F1, H₀, ρ, r, S.ext E1, q, fun F2 H2 w E2 R2 => k F2 H2 w (E1.trans E2) R2⟩
variable {gr : Rho -> Option (List D)}
theorem da_nil : DA X [] eNil := pa_mono pa_nil fun σ H Q zz => by
 obtain ⟨F, H₀, ρ, d, S, q, k⟩ := zz
 cases q
 exact k F H [] (Ext.refl F H) .nil
theorem da_cons (ha : DE X e ga) (hr : DA X es gr) (hs : starEach (e :: es) X.env = (false, eval e X.env) :: starEach es X.env := by rfl) : DA X (e :: es) (eCons ga gr) :=
 pa_mono (pa_cons ha hr hs) fun σ H Q zz => by
  obtain ⟨F, H₀, ρ, d, S, q, k⟩ := zz
  obtain ⟨x, e1, q⟩ := bnd q
  obtain ⟨xs, e2, q⟩ := bnd q
  cases q
  exact ⟨F, H₀, ρ, x, S, e1, fun F1 H1 v E1 R1 => ⟨F1, H₀, ρ, xs, S.ext E1, e2, fun F2 H2 vs E2 R2 => k F2 H2 _ (E1.trans E2) (.cons (R1.stay E2.stay) R2)⟩⟩
theorem line1000 {n : Nat} (h : n <= 1000) : n <= sizeLine := Nat.le_of_lt (small1000 h)
theorem de_tup {x1} (h : DA X es gr) : DE X (.Tuple es x1 pos) (eTup gr) :=
 pe_mono (pe_tup h) fun σ H Q zz => by
  obtain ⟨F, H₀, ρ, d, S, q, k⟩ := zz
  obtain ⟨xs, e1, q⟩ := bnd q
  refine ⟨F, H₀, ρ, xs, S, e1, fun F1 H1 vs E1 R1 => ?_⟩
  by_cases hl : xs.length <= 1000
  ·rw [if_pos hl] at q
   cases q
   refine ⟨line1000 (by rw [<- R1.length]; exact hl), fun p hp => k F1 _ _ (E1.trans (Ext.fresh hp)) (Rep.newTup hp R1)⟩
  ·rw [if_neg hl] at q; cases q
theorem de_lst (h : DA X es gr) : DE X (.List es pos) (eLst gr) :=
 pe_mono (pe_lst h) fun σ H Q zz => by
  obtain ⟨F, H₀, ρ, d, S, q, k⟩ := zz
  obtain ⟨xs, e1, q⟩ := bnd q
  refine ⟨F, H₀, ρ, xs, S, e1, fun F1 H1 vs E1 R1 => ?_⟩
  by_cases hl : xs.length <= 1000
  ·rw [if_pos hl] at q
   cases q
   refine ⟨line1000 (by rw [<- R1.length]; exact hl), fun p hp => k _ _ _ (E1.trans (Ext.frozen hp)) (Rep.newLst hp R1)⟩
  ·rw [if_neg hl] at q; cases q
theorem liftA {h : List D -> Option D} {σ : L2.St} {H : Hp} {Q : VK} (q : tD X.K (eCall h gr) σ H Q) : tCB (rDA X.K h) (tDA X.K gr) σ H Q := by
 obtain ⟨F, H₀, ρ, d, S, q, k⟩ := q
 obtain ⟨xs, e1, q⟩ := bnd q
 exact ⟨F, H₀, ρ, xs, S, e1, fun F1 H1 vs E1 R1 => ⟨F1, xs, d, (S.ext E1).fz, R1, q, fun F2 H2 w E2 R2 => k F2 H2 w (E1.trans E2) R2⟩⟩
theorem de_callB {id : String} {x : Str} {h : List D -> Option D} (hc : CallR X (.builtin id) (rDA X.K h)) (hg : Gl X x) (hm : X.mg x = none) (hv : bootBuiltins x = some (.builtin id)) (ha : DA X (e :: es) gr) (hn : x ≠ "__name__" := by decide) (hdb : (x == ("__debug__" : Str)) = false := by decide)
  (he : starEach (e :: es) X.env = (false, eval e X.env) :: starEach es X.env := by rfl) (hpl : (backTo pos (starEach es X.env)).any (·.1) = false := by rfl) : DE X (.Call (.Name x p) (e :: es) [] pos) (eCall h gr) :=
 pe_mono (pe_callB hc hg hm hv ha hn hdb he hpl) fun _ _ _ q => liftA q
theorem de_callTy {T : String} {x : Str} {h : List D -> Option D} (hc : CallR X (.type T) (rDA X.K h)) (hg : Gl X x) (hm : X.mg x = none) (hv : bootBuiltins x = some (.type T)) (ha : DA X (e :: es) gr) (hn : x ≠ "__name__" := by decide) (hdb : (x == ("__debug__" : Str)) = false := by decide)
  (he : starEach (e :: es) X.env = (false, eval e X.env) :: starEach es X.env := by rfl) (hpl : (backTo pos (starEach es X.env)).any (·.1) = false := by rfl) : DE X (.Call (.Name x p) (e :: es) [] pos) (eCall h gr) :=
 pe_mono (pe_callTy hc hg hm hv ha hn hdb he hpl) fun _ _ _ q => liftA q
noncomputable def spD (K : PySem.W.Frag) (n : Nat) (G : List D -> Option D) : Sp := fun vs H Q _ => ∃ (F : Addr -> Prop) (ds : List D) (d : D), ds.length = n /\ (∀ a, F a -> H a ≠ none) /\ Reps K F H ds vs /\ G ds = some d /\ ∀ F' H' v, Ext F F' H H' -> Rep K F' H' d v -> Q v H'
theorem de_call {k n : Nat} {f : Addr} {fd : FuncData} {ps : List Str} {x : Str} {G : List D -> Option D} (F : FnOk X.prog X.w X.K X.mg X.base CX0 k f fd ps (spD X.K n G)) (hr : Room k X.A) (hg : Gl X x) (hm : X.mg x = some (.ref f)) (hk : PySem.W.keepIn X.K (.ref f) = true) (hb : Binds X.K fd ps [])
  (ha : DA X (e :: es) gr) (hln : ∀ ρ ds, gr ρ = some ds -> ds.length = n) (hdb : (x == ("__debug__" : Str)) = false := by decide) (he : starEach (e :: es) X.env = (false, eval e X.env) :: starEach es X.env := by rfl) (hpl : (backTo pos (starEach es X.env)).any (·.1) = false := by rfl) :
  DE X (.Call (.Name x p) (e :: es) [] pos) (eCall G gr) :=
 pe_mono (pe_call (E := E0) F hr hg hm hk hb .nil pass0 ha hdb he hpl) fun σ H Q zz => by
  obtain ⟨F, H₀, ρ, d, S, q, k⟩ := zz
  obtain ⟨xs, e1, q⟩ := bnd q
  exact ⟨F, H₀, ρ, xs, S, e1, fun F1 H1 vs E1 R1 => by
   show spD X.K n G (vs ++ []) H1 Q E0
   rw [List.append_nil]
   exact ⟨F1, xs, d, hln ρ xs e1, (S.ext E1).fz, R1, q, fun F2 H2 w E2 R2 => k F2 H2 w (E1.trans E2) R2⟩⟩
theorem eNil_len {ρ : Rho} {ds : List D} (h : eNil ρ = some ds) : ds.length = 0 := by cases h; rfl
theorem eCons_len {n : Nat} (h' : ∀ ρ ds, gr ρ = some ds -> ds.length = n) (ρ : Rho) (ds : List D) (h : eCons ga gr ρ = some ds) : ds.length = n + 1 := by
 obtain ⟨x, e1, q⟩ := bnd h
 obtain ⟨xs, e2, q⟩ := bnd q
 cases q
 simp [h' ρ xs e2]
end
end DL
namespace EX
open PySem PySem.Spec PyProof.Rows L2
noncomputable def Fly (h : Heap) (e : Addr) (cls : Value) (tr : Option Addr) : Prop :=
 ∃ oe vs, h.get? e = some oe /\ oe.cls = cls /\ oe.data = .fields vs /\ match tr with
  | none => vs[1]? = some .none
  | some T => vs[1]? = some (.ref T) /\ T ≠ e /\ ∃ oT ts, h.get? T = some oT /\ oT.data = .fields ts /\ ts[3]? = some .none
structure ThrownC (X : Cx) (pins : List (Addr × Obj)) (H : Hp) (s : Shared) (a : Addr) (cls : Value) (tr : Option Addr) : Prop where
 fly : Fly s.heap a cls tr
 new : ∀ b, (b = a ∨ some b = tr) -> X.s₀.heap.get? b = none /\ H b = none /\ b ≠ X.env.locals /\ (∀ x c, X.env.cells.lookup x = some c -> c ≠ b) /\ ∀ p ∈ X.pn ++ pins, p.1 ≠ b
section
variable {M : Model} {A : Around} {E : Value -> Shared -> Prop} {s : Shared}
end
end EX
namespace DL
open PySem PySem.Spec PyProof.Rows L2
inductive Out where
 | nx (ρ : Rho)
 | rt (d : D)
 | bk (ρ : Rho)
 | ct (ρ : Rho)
 | ex (x : Str) (ρ : Rho)
theorem Stay.refl (K : PySem.W.Frag) (F : Addr -> Prop) (H : Hp) : Stay K F F H H := ⟨fun _ h => h, fun _ _ h => h, fun _ _ _ h => h, fun _ _ _ h => h⟩
theorem Stay.trans {K : PySem.W.Frag} {F F1 F2 : Addr -> Prop} {H H1 H2 : Hp} (a : Stay K F F1 H H1) (b : Stay K F1 F2 H1 H2) : Stay K F F2 H H2 :=
 ⟨fun x h => b.up x (a.up x h), fun x xs h => b.tp x xs (a.tp x xs h), fun x xs f h => b.ls x xs (a.up x f) (a.ls x xs f h), fun x φ f h => b.xt x φ (a.up x f) (a.xt x φ f h)⟩
noncomputable def OutOk (X : Cx) (F₀ : Addr -> Prop) (H₀ : Hp) (F : Addr -> Prop) (H : Hp) (W : Ends) : Out -> Prop
 | .nx ρ => ∀ F' H' σ, Ext F₀ F' H₀ H' -> Stay X.K F F' H H' -> StOk X.K F' H' H₀ σ ρ -> W.nx σ H'
 | .rt d => ∀ F' H' v, Ext F₀ F' H₀ H' -> Rep X.K F' H' d v -> W.rt v H'
 | .bk ρ => ∀ F' H' σ, Ext F₀ F' H₀ H' -> Stay X.K F F' H H' -> StOk X.K F' H' H₀ σ ρ -> W.bk σ H'
 | .ct ρ => ∀ F' H' σ, Ext F₀ F' H₀ H' -> Stay X.K F F' H H' -> StOk X.K F' H' H₀ σ ρ -> W.ct σ H'
 | .ex x ρ => ∀ F' H' σ pins s a C tr, Ext F₀ F' H₀ H' -> StOk X.K F' H' H₀ σ ρ -> Inv X pins σ H' s -> PySem.W.nsIn X.K mainGlobals x = some (some (.ref C)) -> EX.ThrownC X pins H' s a (.ref C) tr -> X.xe (.ref a) s
theorem OutOk.from {X : Cx} {F₀ F F' : Addr -> Prop} {H₀ H H' : Hp} {W : Ends} {o : Out} (T : Stay X.K F F' H H') (k : OutOk X F₀ H₀ F H W o) : OutOk X F₀ H₀ F' H' W o := by
 cases o with
 | nx ρ => exact fun F2 H2 σ E T2 S => k F2 H2 σ E (T.trans T2) S
 | rt d => exact k
 | bk ρ => exact fun F2 H2 σ E T2 S => k F2 H2 σ E (T.trans T2) S
 | ct ρ => exact fun F2 H2 σ E T2 S => k F2 H2 σ E (T.trans T2) S
 | ex x ρ => exact k
noncomputable def tDS (X : Cx) (g : Rho -> Option Out) : TS := fun W σ H => ∃ (F₀ : Addr -> Prop) (H₀ : Hp) (F : Addr -> Prop) (ρ : Rho) (o : Out), Ext F₀ F H₀ H /\ StOk X.K F H H₀ σ ρ /\ g ρ = some o /\ OutOk X F₀ H₀ F H W o
noncomputable def DS (X : Cx) (st : Stmt) (g : Rho -> Option Out) : Prop := PS X st (tDS X g)
noncomputable def DSs (X : Cx) (sts : List Stmt) (g : Rho -> Option Out) : Prop := PSs X sts (tDS X g)
noncomputable def sSeq (g1 g2 : Rho -> Option Out) : Rho -> Option Out := fun ρ => (g1 ρ).bind fun o => match o with
 | .nx ρ' => g2 ρ'
 | o => some o
noncomputable def sSkip : Rho -> Option Out := fun ρ => some (.nx ρ)
noncomputable def sRet (g : Rho -> Option D) : Rho -> Option Out := fun ρ => (g (ρ.map frz)).bind fun d => some (.rt d)
noncomputable def sSet (i : Nat) (g : Rho -> Option D) : Rho -> Option Out := fun ρ => (g ρ).bind fun d => some (.nx (ρ.set i (.dat d)))
noncomputable def sOwn (i : Nat) (g : Rho -> Option (List D)) : Rho -> Option Out := fun ρ => (g ρ).bind fun ds => if ds.length <= 1000 then some (.nx (ρ.set i (.own ds))) else none
noncomputable def frzAt (i : Nat) (ρ : Rho) : Rho := match ρ[i]? with
 | some (.own ds) => ρ.set i (.dat (.list ds))
 | _ => ρ
noncomputable def sFrz (i : Nat) (g : Rho -> Option Out) : Rho -> Option Out := fun ρ => g (frzAt i ρ)
noncomputable def sIf (t : Rho -> Option Bool) (g1 g2 : Rho -> Option Out) : Rho -> Option Out := fun ρ => (t (ρ.map frz)).bind fun b => if b = true then g1 ρ else g2 ρ
noncomputable def sDrop (g : Rho -> Option D) : Rho -> Option Out := fun ρ => (g ρ).bind fun _ => some (.nx ρ)
noncomputable def sApp (i : Nat) (g : Rho -> Option D) : Rho -> Option Out := fun ρ => match ρ[i]? with
 | some (.own ds) => (g ρ).bind fun d => if ds.length < 1000 then some (.nx (ρ.set i (.own (ds ++ [d])))) else none
 | _ => none
noncomputable def whileN (t : Rho -> Option Bool) (g : Rho -> Option Out) : Nat -> Rho -> Option Out
 | 0, _ => none
 | n + 1, ρ => (t (ρ.map frz)).bind fun b => if b = true then (g ρ).bind fun o => match o with
   | .nx ρ' => whileN t g n ρ'
   | .ct ρ' => whileN t g n ρ'
   | .bk ρ' => some (.nx ρ')
   | .rt d => some (.rt d)
   | .ex x ρ' => some (.ex x ρ')
  else some (.nx ρ)
noncomputable def forN (s : D -> Rho -> Option Rho) (g : Rho -> Option Out) : List D -> Rho -> Option Out
 | [], ρ => some (.nx ρ)
 | d :: ds, ρ => (s d ρ).bind fun ρ1 => (g ρ1).bind fun o => match o with
   | .nx ρ' => forN s g ds ρ'
   | .ct ρ' => forN s g ds ρ'
   | .bk ρ' => some (.nx ρ')
   | .rt d => some (.rt d)
   | .ex x ρ' => some (.ex x ρ')
noncomputable def sFor (gi : Rho -> Option (List D)) (s : D -> Rho -> Option Rho) (g : Rho -> Option Out) : Rho -> Option Out := fun ρ => (gi ρ).bind fun xs => forN s g xs ρ
section
variable {X : Cx} {e a b c tg : Expr} {es : List Expr} {st : Stmt} {rest body orelse : List Stmt} {g g1 g2 gb : Rho -> Option Out} {ga : Rho -> Option D} {gr : Rho -> Option (List D)} {t : Rho -> Option Bool} {pos p : Pos}
theorem dss_nil : DSs X [] sSkip := pss_mono pss_nil fun W σ H zz => by
 obtain ⟨F₀, H₀, F, ρ, o, E, S, q, k⟩ := zz
 cases q
 exact k F H σ E (Stay.refl _ F H) S
theorem seq_ok {F₀ : Addr -> Prop} {H₀ : Hp} {F : Addr -> Prop} {ρ : Rho} {o : Out} {W : Ends} {σ : L2.St} {H : Hp} (E : Ext F₀ F H₀ H) (S : StOk X.K F H H₀ σ ρ) (q : sSeq g1 g2 ρ = some o) (k : OutOk X F₀ H₀ F H W o) : tDS X g1 { W with nx := tDS X g2 W } σ H := by
 obtain ⟨o1, e1, q⟩ := bnd q
 refine ⟨F₀, H₀, F, ρ, o1, E, S, e1, ?_⟩
 cases o1 with
 | nx ρ' => exact fun F' H' σ' E' T' S' => ⟨F₀, H₀, F', ρ', o, E', S', q, k.from T'⟩
 | rt d => cases q; exact k
 | bk ρ' => cases q; exact k
 | ct ρ' => cases q; exact k
 | ex x ρ' => cases q; exact k
theorem dss_cons (h1 : DS X st g1) (h2 : DSs X rest g2) : DSs X (st :: rest) (sSeq g1 g2) :=
 pss_mono (pss_cons h1 h2) fun W σ H ⟨F₀, H₀, F, ρ, o, E, S, q, k⟩ => seq_ok E S q k
theorem dss_one (h1 : DS X st g) : DSs X [st] g := pss_one h1
theorem Ext.thaw {K : PySem.W.Frag} {F₀ F F' : Addr -> Prop} {H₀ H H' : Hp} {σ : L2.St} {ρ : Rho} (E : Ext F₀ F H₀ H) (S : StOk K F H H₀ σ ρ) (E' : Ext (fun a => F a ∨ Own σ ρ a) F' H H') : Ext F₀ F' H₀ H' :=
 ⟨E.same.trans E'.same, fun a f => E'.up a (.inl (E.up a f)), fun a f => by
  rcases E'.new a f with (f | ⟨i, ds, q1, q2⟩ | ⟨i, ds, q1, q2⟩) | ⟨f1, f2⟩
  ·rcases E.new a f with f | ⟨f, f'⟩
   ·exact .inl f
   ·exact .inr ⟨f, fun z => f' (E'.same.free z)⟩
  ·obtain ⟨b, vs, g1, g2, _, g4, _⟩ := S.own q1
   rw [g1] at q2; cases q2
   exact .inr ⟨g4, by rw [E'.same _ _ g2]; simp⟩
  ·obtain ⟨b, vs, ep, g1, g2, _, g4, _⟩ := S.ownD q1
   rw [g1] at q2; cases q2
   exact .inr ⟨g4, by rw [E'.same _ _ g2]; simp⟩
  ·exact .inr ⟨E.same.free f1, f2⟩⟩
theorem ds_ret (ha : DE X e ga) : DS X (.Return (some e) pos) (sRet ga) := ps_mono (ps_ret ha) fun W σ H zz => by
 obtain ⟨F₀, H₀, F, ρ, o, E, S, q, k⟩ := zz
 obtain ⟨d, e1, q⟩ := bnd q
 cases q
 exact ⟨_, H₀, ρ.map frz, d, S.frz, e1, fun F' H' v E' R' => k F' H' v (E.thaw S E') R'⟩
theorem ds_set {i : Nat} {x : Str} {pos' : Pos} (hN : X.N.Nodup) (ha : DE X e ga) (hi : X.N[i]? = some x := by rfl) (hx : Loc X.env.scope x := by first | exact Or.inl rfl | exact Or.inr rfl) (hs : swapsWith e (some (.Name x pos')) pos.line X.env = pure false := by rfl) (hf : X.fn x = true ∨ X.env.scope.names.lookup x = some .local := by first | exact .inl rfl | exact .inr rfl | assumption) :
  DS X (.Assign [.Name x pos'] e pos) (sSet i ga) := ps_mono (ps_set hN hi hx ha hs hf) fun W σ H zz => by
 obtain ⟨F₀, H₀, F, ρ, o, E, S, q, k⟩ := zz
 obtain ⟨d, e1, q⟩ := bnd q
 cases q
 exact ⟨F, H₀, ρ, d, S, e1, fun F' H' v E' R' => k F' H' _ (E.trans E') E'.stay ((S.ext E').put R')⟩
theorem Ext.lend {K : PySem.W.Frag} {F F' : Addr -> Prop} {H H₀ H' : Hp} {σ : L2.St} {ρ : Rho} (S : StOk K F H H₀ σ ρ) (E' : Ext (fun a => F a ∨ Own σ ρ a) F' H H') : Ext F (fun a => F' a /\ ¬ Own σ ρ a) H H' :=
 ⟨E'.same, fun a f => ⟨E'.up a (.inl f), fun z => by
   rcases z with ⟨i, ds, q1, q2⟩ | ⟨i, ds, q1, q2⟩
   ·obtain ⟨b, vs, g1, g2, g3, _⟩ := S.own q1
    rw [g1] at q2; cases q2
    exact g3 f
   ·obtain ⟨b, vs, ep, g1, g2, g3, _⟩ := S.ownD q1
    rw [g1] at q2; cases q2
    exact g3 f⟩, fun a zz => by
  obtain ⟨f, n⟩ := zz
  rcases E'.new a f with (f | f) | f
  ·exact .inl f
  ·exact absurd f n
  ·exact .inr f⟩
theorem ds_own {i : Nat} {x : Str} {pos' pos'' : Pos} (hN : X.N.Nodup) (ha : DA X es gr) (hi : X.N[i]? = some x := by rfl) (hx : Loc X.env.scope x := by first | exact Or.inl rfl | exact Or.inr rfl) (hs : swapsWith (.List es pos'') (some (.Name x pos')) pos.line X.env = pure false := by rfl) (hf : X.fn x = true ∨ X.env.scope.names.lookup x = some .local := by first | exact .inl rfl | exact .inr rfl | assumption) :
  DS X (.Assign [.Name x pos'] (.List es pos'') pos) (sOwn i gr) := ps_mono (ps_set hN hi hx (pe_lst ha) hs hf) fun W σ H zz => by
 obtain ⟨F₀, H₀, F, ρ, o, E, S, q, k⟩ := zz
 obtain ⟨ds, e1, q⟩ := bnd q
 by_cases hl : ds.length <= 1000
 ·rw [if_pos hl] at q
  cases q
  refine ⟨F, H₀, ρ, ds, S, e1, fun F' H' vs E' R' => ⟨line1000 (by rw [<- R'.length]; exact hl), fun pp hp => ?_⟩⟩
  exact k F' _ _ ((E.trans E').trans (Ext.fresh hp)) (E'.stay.trans (Ext.fresh hp).stay) ((S.ext E').putOwn hp ((E.trans E').same.free hp) R')
 ·rw [if_neg hl] at q; cases q
theorem dss_frz (i : Nat) (h : DSs X rest g) : DSs X rest (sFrz i g) := pss_mono h fun W σ H zz => by
 obtain ⟨F₀, H₀, F, ρ, o, E, S, q, k⟩ := zz
 unfold sFrz frzAt at q
 split at q
 ·rename_i ds e1
  obtain ⟨a, h0, S'⟩ := S.frz1 e1
  refine ⟨F₀, H₀, _, _, o, ⟨E.same, fun x f => .inl (E.up x f), fun x f => ?_⟩, S', q, k.from ⟨fun _ f => .inl f, fun _ _ f => f, fun _ _ _ f => f, fun _ _ _ f => f⟩⟩
  rcases f with f | rfl
  ·exact E.new x f
  ·exact .inr ⟨h0, S'.fz x (.inr rfl)⟩
 ·exact ⟨F₀, H₀, F, ρ, o, E, S, q, k⟩
theorem ds_if (hc : DT X c t) (h1 : DSs X body g1) (h2 : DSs X orelse g2) : DS X (.If c body orelse pos) (sIf t g1 g2) := ps_mono (ps_if hc h1 h2) fun W σ H zz => by
 obtain ⟨F₀, H₀, F, ρ, o, E, S, q, k⟩ := zz
 obtain ⟨r, e1, q⟩ := bnd q
 refine ⟨_, H₀, ρ.map frz, r, S.frz, e1, fun F' H' E' => ?_⟩
 have E2 := E'.lend S
 cases r with
 | true => simp only [if_true] at q ⊢; exact ⟨F₀, H₀, _, ρ, o, E.trans E2, S.ext E2, q, k.from E2.stay⟩
 | false => simp only [Bool.false_eq_true, if_false] at q ⊢; exact ⟨F₀, H₀, _, ρ, o, E.trans E2, S.ext E2, q, k.from E2.stay⟩
theorem ds_drop (ha : DE X e ga) (hs : swapsWith e none pos.line X.env = pure false := by rfl) : DS X (.Expr e pos) (sDrop ga) := ps_mono (ps_expr ha hs) fun W σ H zz => by
 obtain ⟨F₀, H₀, F, ρ, o, E, S, q, k⟩ := zz
 obtain ⟨d, e1, q⟩ := bnd q
 cases q
 exact ⟨F, H₀, ρ, d, S, e1, fun F' H' v E' R' => k F' H' σ (E.trans E') E'.stay (S.ext E')⟩
theorem Ext.turn {F₀ F : Addr -> Prop} {H₀ H : Hp} {p : Addr} {o : HO} (E : Ext F₀ F H₀ H) (h0 : H₀ p = none) : Ext F₀ F H₀ (upd H p o) :=
 ⟨fun b u q => by rw [upd_ne (ne_of_none q h0)]; exact E.same b u q, E.up, fun a f => by
  rcases E.new a f with f | ⟨f1, f2⟩
  ·exact .inl f
  ·refine .inr ⟨f1, fun z => ?_⟩
   by_cases ha : a = p
   ·subst ha; rw [upd_same] at z; cases z
   ·rw [upd_ne ha] at z; exact f2 z⟩
theorem ds_app {i : Nat} {x : Str} {apos pos' : Pos} (ha : DE X e ga) (hN : X.N[i]? = some x := by rfl) (hv : Vis X.env.scope x := by first | exact Or.inl rfl | exact Or.inr (Or.inl rfl) | exact Or.inr (Or.inr rfl)) (hd : (x == ("__debug__" : Str)) = false := by decide)
  (hcd : (x == ("__classdict__" : Str)) = false := by decide) (hse : starEach [e] X.env = (false, eval e X.env) :: starEach [] X.env := by rfl)
  (hbase : attributeBase (.Name x p) "append" X.env (eval (.Name x p) X.env) = eval (.Name x p) X.env := by rfl)
  (hfew : ((backTo pos' (starEach [e] X.env)).all (fun x => !x.1) && (backToKw pos' (keywordEach [] X.env)).all (fun x => x.1.isSome)
   && decide ([e].length + ([] : List Keyword).length + (if ([] : List Keyword).isEmpty then 0 else 1) < 30)) = true := by rfl)
  (hline : (apos.endLine == pos'.line) = true := by rfl) (hplain : (backTo pos' (starEach [] X.env)).any (·.1) = false := by rfl) (hsw : swapsWith (.Call (.Attribute (.Name x p) "append" apos) [e] [] pos') none pos.line X.env = pure false := by rfl) :
  DS X (.Expr (.Call (.Attribute (.Name x p) "append" apos) [e] [] pos') pos) (sApp i ga) :=
 ps_mono (ps_expr (pe_bm PySem.F.plainAttrs_list PySem.F.slot_list_append PySem.F.type_list_append mt_append (pe_var hN hv hd hcd) (pa_cons ha pa_nil hse) hbase hfew hline hse hplain) hsw) fun W σ H zz => by
 obtain ⟨F₀, H₀, F, ρ, o, E, S, q, k⟩ := zz
 unfold sApp at q
 split at q
 ·rename_i ds e0
  obtain ⟨d, e1, q⟩ := bnd q
  by_cases hl : ds.length < 1000
  ·rw [if_pos hl] at q
   cases q
   obtain ⟨l, vs, q1, q2, q3, q4, q5⟩ := S.own e0
   refine ⟨_, q1, .inl ⟨rfl, _, SqL.of q2⟩, F, H₀, ρ, d, S, e1, fun F' H' v E' R' => ?_⟩
   have S' := S.ext E'
   obtain ⟨l', vs', g1, g2, g3, g4, g5⟩ := S'.own e0
   rw [q1] at g1; cases g1
   refine ⟨l, vs', v, rfl, rfl, g2, small1000 (by rw [<- g5.length]; lia), ?_⟩
   obtain ⟨S2, T⟩ := S'.turn e0 q1 g2 g3 (g5.append (.cons R' .nil))
   exact k F' _ σ ((E.trans E').turn q4) (E'.stay.trans T) S2
  ·rw [if_neg hl] at q; cases q
 ·cases q
end
end DL
namespace DL
open PySem PySem.Spec PyProof.Rows L2
noncomputable def tDG (K : PySem.W.Frag) (s : D -> Rho -> Option Rho) : TG := fun v σ H Q => ∃ (F : Addr -> Prop) (H₀ : Hp) (ρ : Rho) (d : D) (ρ' : Rho), StOk K F H H₀ σ ρ /\ Rep K F H d v /\ s d ρ = some ρ' /\ ∀ σ', StOk K F H H₀ σ' ρ' -> Q σ' H
noncomputable def tDGs (K : PySem.W.Frag) (s : List D -> Rho -> Option Rho) : TGs := fun vs σ H Q => ∃ (F : Addr -> Prop) (H₀ : Hp) (ρ : Rho) (ds : List D) (ρ' : Rho), StOk K F H H₀ σ ρ /\ Reps K F H ds vs /\ s ds ρ = some ρ' /\ ∀ σ', StOk K F H H₀ σ' ρ' -> Q σ' H
noncomputable def DG (X : Cx) (tg : Expr) (s : D -> Rho -> Option Rho) : Prop := PG X tg (tDG X.K s)
noncomputable def DGs (X : Cx) (ts : List Expr) (s : List D -> Rho -> Option Rho) : Prop := PGs X ts (tDGs X.K s)
noncomputable def uName (i : Nat) : D -> Rho -> Option Rho := fun d ρ => some (ρ.set i (.dat d))
noncomputable def uNil : List D -> Rho -> Option Rho
 | [], ρ => some ρ
 | _ :: _, _ => none
noncomputable def uCons (s1 : D -> Rho -> Option Rho) (s2 : List D -> Rho -> Option Rho) : List D -> Rho -> Option Rho
 | [], _ => none
 | d :: ds, ρ => (s1 d ρ).bind fun ρ' => s2 ds ρ'
noncomputable def uTup (n : Nat) (s : List D -> Rho -> Option Rho) : D -> Rho -> Option Rho
 | .tuple ds, ρ => if ds.length = n then s ds ρ else none
 | _, _ => none
section
variable {X : Cx} {e tg : Expr} {es : List Expr} {pos : Pos}
theorem pg_mono {t t' : TG} (h : PG X tg t) (m : ∀ v σ H Q, t' v σ H Q -> t v σ H Q) : PG X tg t' := fun pins s σ H v u Q I r q => h pins s σ H v u Q I r (m v σ H Q q)
theorem pgs_mono {t t' : TGs} (h : PGs X es t) (m : ∀ v σ H Q, t' v σ H Q -> t v σ H Q) : PGs X es t' := fun pins s σ H v u Q I r q => h pins s σ H v u Q I r (m v σ H Q q)
theorem dg_name {i : Nat} {x : Str} (hN : X.N.Nodup) (hi : X.N[i]? = some x := by rfl) (hx : Loc X.env.scope x := by first | exact Or.inl rfl | exact Or.inr rfl) (hf : X.fn x = true ∨ X.env.scope.names.lookup x = some .local := by first | exact .inl rfl | exact .inr rfl | assumption) : DG X (.Name x pos) (uName i) :=
 pg_mono (pg_name hN hi hx hf) fun v σ H Q zz => by
  obtain ⟨F, H₀, ρ, d, ρ', S, R, q, k⟩ := zz
  cases q
  exact k _ (S.put R)
theorem dgs_nil : DGs X [] uNil := pgs_mono pgs_nil fun v σ H Q zz => by
 obtain ⟨F, H₀, ρ, ds, ρ', S, R, q, k⟩ := zz
 cases R with
 | nil => cases q; exact ⟨rfl, k σ S⟩
 | cons _ _ => cases q
theorem dgs_cons {s1 : D -> Rho -> Option Rho} {s2 : List D -> Rho -> Option Rho} (h1 : DG X e s1) (h2 : DGs X es s2)
  (hs : (assignEach (e :: es) X.env).map (·.2) = assign e X.env :: (assignEach es X.env).map (·.2) := by rfl) : DGs X (e :: es) (uCons s1 s2) :=
 pgs_mono (pgs_cons h1 h2 hs) fun v σ H Q zz => by
  obtain ⟨F, H₀, ρ, ds, ρ', S, R, q, k⟩ := zz
  cases R with
  | nil => cases q
  | cons r rs =>
   obtain ⟨ρ1, e1, q⟩ := bnd q
   exact ⟨_, _, rfl, F, H₀, ρ, _, ρ1, S, r, e1, fun σ1 S1 => ⟨F, H₀, ρ1, _, ρ', S1, rs, q, k⟩⟩
theorem dg_tup {n k : Nat} {s : List D -> Rho -> Option Rho} (hc : X.calm = true) (h : DGs X es s) (hn : (assignEach es X.env).length = n := by rfl) (hst : (assignEach es X.env).findIdx? (·.1) = none := by rfl) : DG X (.Tuple es k pos) (uTup n s) :=
 pg_mono (pg_tup hc h hn hst) fun v σ H Q zz => by
  obtain ⟨F, H₀, ρ, d, ρ', S, R, q, k⟩ := zz
  cases R with
  | @tup a vs ds hq r =>
   by_cases hl : ds.length = n
   ·have q' : (if ds.length = n then s ds ρ else none) = some ρ' := q
    rw [if_pos hl] at q'
    exact ⟨_, _, rfl, hq, by rw [<- r.length]; exact hl, F, H₀, ρ, _, ρ', S, r, q', k⟩
   ·have q' : (if ds.length = n then s ds ρ else none) = some ρ' := q
    rw [if_neg hl] at q'; cases q'
  | non => cases q
  | dct _ _ _ _ _ => cases q
  | exn _ _ _ => cases q
  | bl _ => cases q
  | int _ => cases q
  | str _ => cases q
  | lst _ _ => cases q
end
noncomputable def sAsg (ga : Rho -> Option D) (s : D -> Rho -> Option Rho) : Rho -> Option Out := fun ρ => (ga ρ).bind fun d => (s d ρ).bind fun ρ' => some (.nx ρ')
section
variable {X : Cx} {e a b c tg iter : Expr} {es : List Expr} {st : Stmt} {rest body orelse : List Stmt} {g g1 g2 gb : Rho -> Option Out} {ga : Rho -> Option D} {gr : Rho -> Option (List D)} {t : Rho -> Option Bool} {pos p : Pos}
theorem ds_while (n : Nat) (hp : PassesOwn (model X.prog X.w) X.A X.env X.xe) (hc : DT X c t) (hb : DSs X body g) : DS X (.While c body [] pos) (whileN t g n) :=
 ps_mono (ps_while hp hc hb) fun W σ H zz => by
  obtain ⟨F₀, H₀, F1, ρ1, o, E, S, q, k⟩ := zz
  refine ⟨fun m σ' H' => ∃ F ρ, Ext F₀ F H₀ H' /\ Stay X.K F1 F H H' /\ StOk X.K F H' H₀ σ' ρ /\ whileN t g m ρ = some o, ⟨n, F1, ρ1, E, Stay.refl _ _ _, S, q⟩, ?_⟩
  rintro m σ' H' ⟨F, ρ, E', T', S', q'⟩
  cases m with
  | zero => cases q'
  | succ m =>
   obtain ⟨r, e1, q'⟩ := bnd q'
   refine ⟨_, H₀, ρ.map frz, r, S'.frz, e1, fun F2 H2 E2' => ?_⟩
   have E2 := E2'.lend S'
   cases r with
   | false =>
    simp only [Bool.false_eq_true, if_false] at q' ⊢
    cases q'
    exact k _ H2 σ' (E'.trans E2) (T'.trans E2.stay) (S'.ext E2)
   | true =>
    simp only [if_true] at q' ⊢
    obtain ⟨o1, e2, q'⟩ := bnd q'
    refine ⟨fun σ3 H3 => ∃ F ρ, Ext F₀ F H₀ H3 /\ Stay X.K F1 F H H3 /\ StOk X.K F H3 H₀ σ3 ρ /\ whileN t g m ρ = some o, fun σ3 H3 h3 => ⟨m, Nat.lt_succ_self m, h3⟩, F₀, H₀, _, ρ, o1, E'.trans E2, S'.ext E2, e2, ?_⟩
    cases o1 with
    | nx ρ3 => exact fun F3 H3 σ3 E3 T3 S3 => ⟨F3, ρ3, E3, (T'.trans E2.stay).trans T3, S3, q'⟩
    | ct ρ3 => exact fun F3 H3 σ3 E3 T3 S3 => ⟨F3, ρ3, E3, (T'.trans E2.stay).trans T3, S3, q'⟩
    | bk ρ3 => cases q'; exact fun F3 H3 σ3 E3 T3 S3 => k F3 H3 σ3 E3 ((T'.trans E2.stay).trans T3) S3
    | rt d => cases q'; exact k
    | ex x ρ3 => cases q'; exact k
noncomputable def ItD (K : PySem.W.Frag) (F : Addr -> Prop) (H : Hp) (ds : List D) (J : It) : Prop :=
 ∀ F2 H2, Stay K F F2 H H2 -> (∀ a, F2 a -> H2 a ≠ none) -> ∀ i : Nat, (∀ d, ds[i]? = some d -> J.go i H2 /\ ∀ x H3, J.yld i H2 x H3 -> ∃ F3, Ext F2 F3 H2 H3 /\ Rep K F3 H3 d x) /\ (ds.length <= i -> J.stop i H2)
noncomputable def tDI (K : PySem.W.Frag) (gi : Rho -> Option (List D)) : TI := fun σ H R => ∃ (F : Addr -> Prop) (H₀ : Hp) (ρ : Rho) (ds : List D), StOk K F H H₀ σ ρ /\ gi ρ = some ds /\ ∀ F' H' J, Ext F F' H H' -> ItD K F' H' ds J -> R J H'
noncomputable def DI (X : Cx) (tg iter : Expr) (gi : Rho -> Option (List D)) : Prop := PI X tg iter (tDI X.K gi)
theorem pi_mono {wi wi' : TI} (h : PI X tg iter wi) (m : ∀ σ H R, wi' σ H R -> wi σ H R) : PI X tg iter wi' := fun pins s σ H R I q => h pins s σ H R I (m σ H R q)
theorem ds_for {gi : Rho -> Option (List D)} {s : D -> Rho -> Option Rho} (hp : PassesOwn (model X.prog X.w) X.A X.env X.xe) (hc : X.calm = true) (hi : DI X tg iter gi) (hg : DG X tg s) (hb : DSs X body g)
  (hs : ∀ x, foldedSetIterable iter X.env x = pure x := by intro _; rfl) : DS X (.For tg iter body [] pos) (sFor gi s g) :=
 ps_mono (ps_for hp hc hi hg hb hs) fun W σ H zz => by
  obtain ⟨F₀, H₀, F, ρ, o, E, S, q, k⟩ := zz
  obtain ⟨xs, e1, q⟩ := bnd q
  refine ⟨F, H₀, ρ, xs, S, e1, fun F1 H1 J E1 I1 => ?_⟩
  refine ⟨fun i m σ2 H2 => ∃ F2 ρ2, m = xs.length - i /\ i <= xs.length /\ Ext F₀ F2 H₀ H2 /\ Stay X.K F F2 H H2 /\ Stay X.K F1 F2 H1 H2 /\ StOk X.K F2 H2 H₀ σ2 ρ2 /\ forN s g (xs.drop i) ρ2 = some o,
   ⟨xs.length, F1, ρ, by simp, Nat.zero_le _, E.trans E1, E1.stay, Stay.refl _ _ _, S.ext E1, by simpa using q⟩, ?_⟩
  rintro i m σ2 H2 ⟨F2, ρ2, rfl, hi2, E2, T0, T1, S2, q2⟩
  obtain ⟨it1, it2⟩ := I1 F2 H2 T1 S2.fz i
  by_cases hlt : i < xs.length
  ·right
   have hget : xs[i]? = some xs[i] := by simp [hlt]
   obtain ⟨go, yld⟩ := it1 _ hget
   rw [List.drop_eq_getElem_cons hlt] at q2
   obtain ⟨ρ3, e3, q2⟩ := bnd q2
   obtain ⟨o3, e4, q2⟩ := bnd q2
   refine ⟨go, fun σ4 H4 => ∃ F4 ρ4, Ext F₀ F4 H₀ H4 /\ Stay X.K F F4 H H4 /\ Stay X.K F1 F4 H1 H4 /\ StOk X.K F4 H4 H₀ σ4 ρ4 /\ forN s g (xs.drop (i + 1)) ρ4 = some o, fun σ4 H4 ⟨F4, ρ4, h1, h2, h3, h4, h5⟩ => ⟨xs.length - (i + 1), by lia, F4, ρ4, rfl, hlt, h1, h2, h3, h4, h5⟩, fun x H3 y => ?_⟩
   obtain ⟨F3, E3, R3⟩ := yld x H3 y
   refine ⟨F3, H₀, ρ2, xs[i], ρ3, S2.ext E3, R3, e3, fun σ5 S5 => ⟨F₀, H₀, F3, ρ3, o3, E2.trans E3, S5, e4, ?_⟩⟩
   have TT0 := T0.trans E3.stay
   have TT1 := T1.trans E3.stay
   cases o3 with
   | nx ρ6 => exact fun F6 H6 σ6 E6 T6 S6 => ⟨F6, ρ6, E6, TT0.trans T6, TT1.trans T6, S6, q2⟩
   | ct ρ6 => exact fun F6 H6 σ6 E6 T6 S6 => ⟨F6, ρ6, E6, TT0.trans T6, TT1.trans T6, S6, q2⟩
   | bk ρ6 => cases q2; exact fun F6 H6 σ6 E6 T6 S6 => k F6 H6 σ6 E6 (TT0.trans T6) S6
   | rt d => cases q2; exact k
   | ex x ρ6 => cases q2; exact k
  ·left
   have hge : xs.length <= i := Nat.le_of_not_lt hlt
   refine ⟨it2 hge, ?_⟩
   rw [List.drop_eq_nil_of_le hge] at q2
   cases q2
   exact k F2 H2 σ2 E2 T0 S2
noncomputable def rng1 : List D -> Option (List D)
 | [.int j] => if -4611686018427387904 <= j /\ j < 4611686018427387904 then some ((List.range j.toNat).map fun (k : Nat) => .int (0 + (k : Int))) else none
 | _ => none
theorem it_range {K : PySem.W.Frag} {F : Addr -> Prop} {H : Hp} (lo : Int) (n : Nat) : ItD K F H ((List.range n).map fun (k : Nat) => .int (lo + (k : Int))) (Itr lo n) := fun F2 H2 T z i => by
 refine ⟨fun d hd => ?_, fun hl => ?_⟩
 ·have hi : i < n := by
   have := (List.getElem?_eq_some_iff.mp hd).1
   simpa using this
  have hd' : d = .int (lo + (i : Int)) := by
   rw [List.getElem?_map, List.getElem?_range hi] at hd
   cases hd; rfl
  subst hd'
  refine ⟨hi, fun x H3 y => ?_⟩
  obtain ⟨y1, y2⟩ := y
  subst y1 y2
  exact ⟨F2, Ext.refl _ _, .int _⟩
 ·show n <= i
  simpa using hl
theorem di_range1 (hg : Gl X "range") (hm : X.mg "range" = none) (ha : DA X [a] gr) (hs : starEach [a] X.env = [(false, eval a X.env)] := by rfl) : DI X tg (.Call (.Name "range" p) [a] [] pos) (fun ρ => (gr ρ).bind rng1) :=
 pi_mono (pi_range1 hg hm ha hs) fun σ H R zz => by
  obtain ⟨F, H₀, ρ, ds, S, q, k⟩ := zz
  obtain ⟨xs, e1, q⟩ := bnd q
  unfold rng1 at q
  split at q
  ·rename_i j
   by_cases hj : -4611686018427387904 <= j /\ j < 4611686018427387904
   ·rw [if_pos hj] at q
    cases q
    refine ⟨F, H₀, ρ, _, S, e1, fun F1 H1 vs E1 R1 => ?_⟩
    cases R1 with
    | cons r rs =>
     cases r
     cases rs
     exact ⟨j, rfl, by lia, by lia, k F1 H1 _ E1 (it_range 0 _)⟩
   ·rw [if_neg hj] at q; cases q
  ·cases q
noncomputable def seqD : D -> Option (List D)
 | .list ds => some ds
 | .tuple ds => some ds
 | _ => none
theorem it_list {K : PySem.W.Frag} {F : Addr -> Prop} {H : Hp} {a : Addr} {vs : List V} {ds : List D} (h : FzL K F H a vs) (r : Reps K F H ds vs) : ItD K F H ds (Itl K a) := fun F2 H2 T z i => by
 have h2 := h.stay T
 have r2 := r.stay T
 refine ⟨fun d hd => ?_, fun hl => ⟨vs, h2.sq, by rw [<- r2.length]; exact hl⟩⟩
 obtain ⟨v, e, rv⟩ := r2.get hd
 refine ⟨⟨vs, v, h2.sq, e⟩, fun x H3 y => ?_⟩
 obtain ⟨y1, y2⟩ := y
 subst y1
 have := y2 vs h2.sq
 rw [e] at this; cases this
 exact ⟨F2, Ext.refl _ _, rv⟩
theorem it_tup {K : PySem.W.Frag} {F : Addr -> Prop} {H : Hp} {a : Addr} {vs : List V} {ds : List D} (h : SqT K H a vs) (r : Reps K F H ds vs) : ItD K F H ds (Itt K a) := fun F2 H2 T z i => by
 have h2 := T.tp _ _ h
 have r2 := r.stay T
 refine ⟨fun d hd => ?_, fun hl => ⟨vs, h2, by rw [<- r2.length]; exact hl⟩⟩
 obtain ⟨v, e, rv⟩ := r2.get hd
 refine ⟨⟨vs, v, h2, e⟩, fun x H3 y => ?_⟩
 obtain ⟨y1, y2⟩ := y
 subst y1
 have := y2 vs h2
 rw [e] at this; cases this
 exact ⟨F2, Ext.refl _ _, rv⟩
theorem di_val (ha : DE X e ga) : DI X tg e (fun ρ => (ga ρ).bind seqD) := by
 intro pins s σ H R I h
 obtain ⟨F, H₀, ρ, ds, S, q, k⟩ := h
 obtain ⟨d, e1, q⟩ := bnd q
 refine thn (ha pins s σ H (fun x H1 => ∃ F1, Ext F F1 H H1 /\ Rep X.K F1 H1 d x) I ⟨F, H₀, ρ, d, S, e1, fun F1 H1 v E1 R1 => ⟨F1, E1, R1⟩⟩) fun v s1 zz => ?_
 obtain ⟨x, H1, I1, r1, F1, E1, R1⟩ := zz
 cases R1 with
 | @lst a vs ds' hq rr =>
  cases q
  cases r1
  obtain ⟨its, rv, p, hz⟩ := I1.list hq.sq
  refine wpAny_pyIter_list p.isList ?_
  refine ⟨s1.heap.objs.size, [s1.heap.objs.size], _, _, H1, rfl, I1.kept (t' := s1.toks) fun b o e => Heap.get?_push_of_some _ e, turn_list a _, ⟨_, Heap.get?_push_size _ rfl, rfl, rfl⟩, fun b hb => ?_, k F1 H1 _ E1 (it_list hq rr)⟩
  have e : b = s1.heap.objs.size := by simpa using hb
  subst e
  exact I1.fpOk (Nat.le_refl _) (I1.hok.fresh (Nat.le_refl _))
 | @tup a vs ds' hq rr =>
  cases q
  cases r1
  obtain ⟨its, rv, p, hz⟩ := I1.tuple hq
  refine wpAny_pyIter_tuple (show s1.heap.IsTuple a its.toArray from p) ?_
  refine ⟨s1.heap.objs.size, [s1.heap.objs.size], _, _, H1, rfl, I1.kept (t' := s1.toks) fun b o e => Heap.get?_push_of_some _ e, turn_tuple a _, ⟨_, Heap.get?_push_size _ rfl, rfl, rfl⟩, fun b hb => ?_, k F1 H1 _ E1 (it_tup hq rr)⟩
  have e : b = s1.heap.objs.size := by simpa using hb
  subst e
  exact I1.fpOk (Nat.le_refl _) (I1.hok.fresh (Nat.le_refl _))
 | non => cases q
 | dct _ _ _ _ _ => cases q
 | exn _ _ _ => cases q
 | bl _ => cases q
 | int _ => cases q
 | str _ => cases q
end
noncomputable def startD (n : Nat) (ds : List D) : Rho := ds.map .dat ++ List.replicate (n - ds.length) .no
noncomputable def fnD (n : Nat) (g : Rho -> Option Out) : List D -> Option D := fun ds => match g (startD n ds) with
 | some (.rt d) => some d
 | some (.nx _) => some .none
 | _ => none
theorem start_ok {K : PySem.W.Frag} {F : Addr -> Prop} {H : Hp} {N : List Str} {ds : List D} {vs : List V} (z : ∀ a, F a -> H a ≠ none) (r : Reps K F H ds vs) : StOk K F H H (L2.start N vs) (startD N.length ds) := by
 have hl := r.length
 refine ⟨by simp [L2.start, startD, hl], fun i s h => ?_, fun i j a es es' hij h1 => ?_, z⟩
 ·unfold startD at h
  by_cases hi : i < ds.length
  ·rw [List.getElem?_append_left (by simpa using hi), List.getElem?_map] at h
   cases e : ds[i]? with
   | none => rw [e] at h; cases h
   | some d =>
    rw [e] at h; cases h
    obtain ⟨v, e2, rv⟩ := r.get e
    refine ⟨some v, ?_, v, rfl, rv⟩
    unfold L2.start
    rw [List.getElem?_append_left (by simpa using (by lia : i < vs.length)), List.getElem?_map, e2]
    rfl
  ·rw [List.getElem?_append_right (by simpa using hi), List.getElem?_replicate] at h
   split at h
   ·rename_i hlt
    cases h
    refine ⟨none, ?_, trivial⟩
    unfold L2.start
    rw [List.getElem?_append_right (by simpa using (by lia : vs.length <= i)), List.getElem?_replicate, if_pos (by simp at hlt ⊢; lia)]
   ·cases h
 ·unfold startD at h1
  by_cases hi : i < ds.length
  ·rw [List.getElem?_append_left (by simpa using hi), List.getElem?_map] at h1
   cases e : ds[i]? with
   | none => rw [e] at h1; cases h1
   | some d => rw [e] at h1; cases h1
  ·rw [List.getElem?_append_right (by simpa using hi), List.getElem?_replicate] at h1
   split at h1 <;> cases h1
theorem fn_D {P : Program} {w : World} {K : PySem.W.Frag} {mg : Str -> Option Value} {base : Heap} {x qual : Str} {st : Stmt} {f : Addr} {fd : FuncData} {N ps : List Str} {k : Nat} {g : Rho -> Option Out} (F : Fun K x qual st f fd) (S : FnScope N ps (defScope st))
  (hb : ∀ (cdv : Value) (A : Around) (outer : List Env) (s : Shared) (H : Hp) (E : XK), Room k (A.deeper (envOfC qual (defScope st) s.heap.objs.size f cdv)) ->
   DSs (cxOf CX0 P w K mg base N qual (defScope st) f cdv A outer s H E).nox (defBody st) g) : FnOk P w K mg base CX0 (k + 1) f fd ps (spD K ps.length (fnD N.length g)) := by
 refine F.ok S (fun vs H Q E h => ?_) (fun cdv A outer s H vs Q E hr h => ?_)
 ·obtain ⟨F, ds, d, hl, _, r, _⟩ := h
  rw [<- r.length, hl]
 ·obtain ⟨F, ds, d, hl, z, r, q, kk⟩ := h
  refine ⟨_, hb cdv A outer s H E hr, ?_⟩
  unfold fnD at q
  split at q
  ·rename_i d' e
   cases q
   exact ⟨F, H, F, _, _, Ext.refl F H, start_ok z r, e, fun F' H' v E' R' => kk F' H' v E' R'⟩
  ·rename_i ρ' e
   cases q
   exact ⟨F, H, F, _, _, Ext.refl F H, start_ok z r, e, fun F' H' σ' E' T' S' => kk F' H' .non E' .non⟩
  ·cases q
end DL
namespace DL
open PySem PySem.Spec PySem.SeqAt PyProof.Rows L2
mutual
theorem Rep.reads {X : Cx} {pins : List (Addr × Obj)} {σ : L2.St} {H : Hp} {s : Shared} {F : Addr -> Prop} (I : L2.Inv X pins σ H s) : ∀ {d : D} {x : V} {u : Value}, Rep X.K F H d x -> d.canLay0 = true -> L2.RelV x u -> ∃ as, Reads s.heap u d as
 | _, _, _, .non, _, r => by cases r; exact ⟨_, .none⟩
 | _, _, _, .bl b, _, r => by cases r; exact ⟨_, .bool b⟩
 | _, _, _, .int i, _, r => by obtain ⟨t, rfl⟩ := r; exact ⟨_, .int i t⟩
 | _, _, _, .str x, _, r => by obtain ⟨t, rfl⟩ := r; exact ⟨_, .str x t⟩
 | _, _, _, .tup h q, c, r => by
  cases r
  obtain ⟨its, rv, ⟨o, ho, hc, n, hd⟩, _⟩ := I.tuple h
  obtain ⟨as, z⟩ := Reps.reads I q (by simpa [PyData.canLay0] using c) rv
  exact ⟨_, .tuple ho hc hd (by simpa using z)⟩
 | _, _, _, .lst h q, c, r => by
  cases r
  obtain ⟨its, rv, pl, _⟩ := I.list h.sq
  obtain ⟨o, n, ho, hc, _, hd⟩ := pl
  obtain ⟨as, z⟩ := Reps.reads I q (by simpa [PyData.canLay0] using c) rv
  exact ⟨_, .list ho hc hd (by simpa using z)⟩
 | _, _, _, .dct _ _ _ _ _, c, _ => by simp [PyData.canLay0] at c
 | _, _, _, .exn _ _ _, c, _ => by simp [excD, PyData.canLay0] at c
theorem Reps.reads {X : Cx} {pins : List (Addr × Obj)} {σ : L2.St} {H : Hp} {s : Shared} {F : Addr -> Prop} (I : L2.Inv X pins σ H s) : ∀ {ds : List D} {xs : List V} {us : List Value}, Reps X.K F H ds xs -> PyData.canLayAll0 ds = true -> L2.Vals xs us -> ∃ as, ReadsAll s.heap us ds as
 | _, _, _, .nil, _, r => by cases r; exact ⟨_, .nil⟩
 | _, _, _, .cons h q, c, r => by
  rw [PyData.canLayAll0, Bool.and_eq_true] at c
  cases r with
  | cons r1 r2 =>
   obtain ⟨as, z⟩ := Rep.reads I h c.1 r1
   obtain ⟨bs, y⟩ := Reps.reads I q c.2 r2
   exact ⟨_, .cons z y⟩
end
noncomputable def dI0 (t : Int -> Int -> D) : D -> D -> Option D
 | .int i, .int j => some (t i j)
 | _, _ => none
noncomputable def dI2 (C : Int -> Int -> Bool) (t : Int -> Int -> D) : D -> D -> Option D
 | .int i, .int j => if C i j = true then some (t i j) else none
 | _, _ => none
noncomputable def okMul (i j : Int) : Bool := (decide (-18446744073709551616 < i) && decide (i < 18446744073709551616)) || (decide (-18446744073709551616 < j) && decide (j < 18446744073709551616))
noncomputable def okDiv (_ j : Int) : Bool := decide (0 < j) && decide (j < 1073741824)
noncomputable def okMod (_ j : Int) : Bool := decide (0 < j)
section
variable {X : Cx}
theorem opd0 {f : Value -> Value -> Sem Value} {g : Int -> Int -> V} {t : Int -> Int -> D} (h : OpR X f (rI0 g)) (r : ∀ i j K F H, Rep K F H (t i j) (g i j)) : OpR X f (rD2 X.K (dI0 t)) :=
 opr_mono h fun x y H Q zz => by
  obtain ⟨F, d, e, q, z, R1, R2, hq, k⟩ := zz
  unfold dI0 at hq
  split at hq
  ·cases hq
   cases R1
   cases R2
   exact ⟨_, _, rfl, rfl, k F H _ (Ext.refl F H) (r _ _ _ _ _)⟩
  ·cases hq
theorem opd2 {f : Value -> Value -> Sem Value} {C : Int -> Int -> Prop} {B : Int -> Int -> Bool} {g : Int -> Int -> V} {t : Int -> Int -> D} (h : OpR X f (rI C g)) (hB : ∀ i j, B i j = true -> C i j) (r : ∀ i j K F H, Rep K F H (t i j) (g i j)) : OpR X f (rD2 X.K (dI2 B t)) :=
 opr_mono h fun x y H Q zz => by
  obtain ⟨F, d, e, q, z, R1, R2, hq, k⟩ := zz
  unfold dI2 at hq
  split at hq
  ·rename_i i j
   by_cases hb : B i j = true
   ·rw [if_pos hb] at hq
    cases hq
    cases R1
    cases R2
    exact ⟨_, _, rfl, rfl, hB _ _ hb, k F H _ (Ext.refl F H) (r _ _ _ _ _)⟩
   ·rw [if_neg hb] at hq; cases hq
  ·cases hq
noncomputable def dSub : D -> D -> Option D := dI0 fun i j => .int (i - j)
noncomputable def dMul : D -> D -> Option D := dI2 okMul fun i j => .int (i * j)
noncomputable def dFdiv : D -> D -> Option D := dI2 okDiv fun i j => .int (i / j)
noncomputable def dMod : D -> D -> Option D := dI2 okMod fun i j => .int (i % j)
noncomputable def dLe : D -> D -> Option D := dI0 fun i j => .bool (decide (i <= j))
noncomputable def dGt : D -> D -> Option D := dI0 fun i j => .bool (decide (j < i))
noncomputable def dGe : D -> D -> Option D := dI0 fun i j => .bool (decide (j <= i))
theorem opd_sub : OpR X (binaryOp .Sub) (rD2 X.K dSub) := opd0 op_sub fun _ _ _ _ _ => .int _
theorem opd_mul : OpR X (binaryOp .Mult) (rD2 X.K dMul) := opd2 op_mul (fun i j h => by
 unfold okMul at h
 simp only [Bool.or_eq_true, Bool.and_eq_true, decide_eq_true_eq] at h
 unfold CMul
 lia) fun _ _ _ _ _ => .int _
theorem opd_fdiv : OpR X (binaryOp .FloorDiv) (rD2 X.K dFdiv) := opd2 op_fdiv (fun i j h => by
 unfold okDiv at h
 simp only [Bool.and_eq_true, decide_eq_true_eq] at h
 exact h) fun _ _ _ _ _ => .int _
theorem opd_mod : OpR X (binaryOp .Mod) (rD2 X.K dMod) := opd2 op_mod (fun i j h => by
 unfold okMod at h
 simpa using h) fun _ _ _ _ _ => .int _
theorem opd_le : OpR X (compareOp .LtE) (rD2 X.K dLe) := opd0 op_le fun _ _ _ _ _ => .bl _
theorem opd_gt : OpR X (compareOp .Gt) (rD2 X.K dGt) := opd0 op_gt fun _ _ _ _ _ => .bl _
noncomputable def dNeg : D -> Option D
 | .int i => some (.int (-i))
 | _ => none
theorem und_neg : UnR X (unaryOp .USub) (rD1 X.K dNeg) := unr_mono un_neg fun x H Q zz => by
 obtain ⟨F, d, q, z, R1, hq, k⟩ := zz
 unfold dNeg at hq
 split at hq
 ·cases hq
  cases R1
  exact ⟨_, rfl, k F H _ (Ext.refl F H) (.int _)⟩
 ·cases hq
noncomputable def dEq (d e : D) : Option D := if (shaped d && shaped e) = true then some (.bool (PyData.eqv d e)) else none
noncomputable def dNe (d e : D) : Option D := if (shaped d && shaped e) = true then some (.bool (!PyData.eqv d e)) else none
theorem opd_eq (hu : X.A.units + 64 < cLine) : OpR X (compareOp .Eq) (rD2 X.K dEq) := fun pins s σ H x y v u Q I rx ry zz => by
 obtain ⟨F, d, e, q, z, R1, R2, hq, k⟩ := zz
 unfold dEq at hq
 by_cases c : (shaped d && shaped e) = true
 ·rw [if_pos c] at hq
  cases hq
  have c' := Bool.and_eq_true_iff.mp c
  obtain ⟨as, a1⟩ := R1.reads I (canLay_of_shaped c'.1) rx
  obtain ⟨bs, a2⟩ := R2.reads I (canLay_of_shaped c'.2) ry
  exact eq_dataH a1 a2 c'.1 c'.2 hu ⟨.bl _, H, I, rfl, k F H _ (Ext.refl F H) (.bl _)⟩
 ·rw [if_neg c] at hq; cases hq
theorem opd_ne (hu : X.A.units + 64 < cLine) : OpR X (compareOp .NotEq) (rD2 X.K dNe) := fun pins s σ H x y v u Q I rx ry zz => by
 obtain ⟨F, d, e, q, z, R1, R2, hq, k⟩ := zz
 unfold dNe at hq
 by_cases c : (shaped d && shaped e) = true
 ·rw [if_pos c] at hq
  cases hq
  have c' := Bool.and_eq_true_iff.mp c
  obtain ⟨as, a1⟩ := R1.reads I (canLay_of_shaped c'.1) rx
  obtain ⟨bs, a2⟩ := R2.reads I (canLay_of_shaped c'.2) ry
  exact ne_dataH a1 a2 c'.1 c'.2 hu ⟨.bl _, H, I, rfl, k F H _ (Ext.refl F H) (.bl _)⟩
 ·rw [if_neg c] at hq; cases hq
noncomputable def dIn (neg : Bool) (d : D) : D -> Option D
 | .list xs => if (shaped d && shaped (.list xs)) = true then some (.bool (if neg then !(xs.any fun y => PyData.eqv y d) else xs.any fun y => PyData.eqv y d)) else none
 | .tuple xs => if (shaped d && shaped (.tuple xs)) = true then some (.bool (if neg then !(xs.any fun y => PyData.eqv y d) else xs.any fun y => PyData.eqv y d)) else none
 | _ => none
theorem opd_in (hu : X.A.units + 65 < cLine) : OpR X (compareOp .In) (rD2 X.K (dIn false)) := fun pins s σ H x y v u Q I rx ry zz => by
 obtain ⟨F, d, e, q, z, R1, R2, hq, k⟩ := zz
 unfold dIn at hq
 split at hq
 ·rename_i xs
  by_cases c : (shaped d && shaped (.list xs)) = true
  ·rw [if_pos c] at hq
   cases hq
   have c' := Bool.and_eq_true_iff.mp c
   obtain ⟨as, a1⟩ := R1.reads I (canLay_of_shaped c'.1) rx
   obtain ⟨bs, a2⟩ := R2.reads I (canLay_of_shaped c'.2) ry
   exact in_list_reads a2 a1 (canLay_of_shaped c'.2) (canLay_of_shaped c'.1) (room_in_shaped c'.1 hu) ⟨.bl _, H, I, rfl, k F H _ (Ext.refl F H) (.bl _)⟩
  ·rw [if_neg c] at hq; cases hq
 ·rename_i xs
  by_cases c : (shaped d && shaped (.tuple xs)) = true
  ·rw [if_pos c] at hq
   cases hq
   have c' := Bool.and_eq_true_iff.mp c
   obtain ⟨as, a1⟩ := R1.reads I (canLay_of_shaped c'.1) rx
   obtain ⟨bs, a2⟩ := R2.reads I (canLay_of_shaped c'.2) ry
   exact in_tuple_reads a2 a1 (canLay_of_shaped c'.2) (canLay_of_shaped c'.1) (room_in_shaped c'.1 hu) ⟨.bl _, H, I, rfl, k F H _ (Ext.refl F H) (.bl _)⟩
  ·rw [if_neg c] at hq; cases hq
 ·cases hq
theorem opd_notin (hu : X.A.units + 65 < cLine) : OpR X (compareOp .NotIn) (rD2 X.K (dIn true)) := fun pins s σ H x y v u Q I rx ry zz => by
 obtain ⟨F, d, e, q, z, R1, R2, hq, k⟩ := zz
 unfold dIn at hq
 split at hq
 ·rename_i xs
  by_cases c : (shaped d && shaped (.list xs)) = true
  ·rw [if_pos c] at hq
   cases hq
   have c' := Bool.and_eq_true_iff.mp c
   obtain ⟨as, a1⟩ := R1.reads I (canLay_of_shaped c'.1) rx
   obtain ⟨bs, a2⟩ := R2.reads I (canLay_of_shaped c'.2) ry
   exact notIn_list_reads a2 a1 (canLay_of_shaped c'.2) (canLay_of_shaped c'.1) (room_in_shaped c'.1 hu) ⟨.bl _, H, I, rfl, k F H _ (Ext.refl F H) (.bl _)⟩
  ·rw [if_neg c] at hq; cases hq
 ·rename_i xs
  by_cases c : (shaped d && shaped (.tuple xs)) = true
  ·rw [if_pos c] at hq
   cases hq
   have c' := Bool.and_eq_true_iff.mp c
   obtain ⟨as, a1⟩ := R1.reads I (canLay_of_shaped c'.1) rx
   obtain ⟨bs, a2⟩ := R2.reads I (canLay_of_shaped c'.2) ry
   exact notIn_tuple_reads a2 a1 (canLay_of_shaped c'.2) (canLay_of_shaped c'.1) (room_in_shaped c'.1 hu) ⟨.bl _, H, I, rfl, k F H _ (Ext.refl F H) (.bl _)⟩
  ·rw [if_neg c] at hq; cases hq
 ·cases hq
noncomputable def dIx : D -> D -> Option D
 | .tuple xs, .int i => atI xs i
 | .list xs, .int i => atI xs i
 | _, _ => none
theorem Reps.atI {K : PySem.W.Frag} {F : Addr -> Prop} {H : Hp} {ds : List D} {vs : List V} {i : Int} {d : D} (r : Reps K F H ds vs) (h : L2.atI ds i = some d) : ∃ v, L2.atI vs i = some v /\ Rep K F H d v := by
 unfold L2.atI at h ⊢
 rw [r.length] at h
 cases e : ixN vs.length i with
 | none => rw [e] at h; cases h
 | some j =>
  rw [e] at h
  obtain ⟨v, h1, h2⟩ := r.get (show ds[j]? = some d from h)
  exact ⟨v, h1, h2⟩
theorem ixd : IxR X (rD2 X.K dIx) := ixr_mono (ix_list.or ix_tup) fun x y H Q zz => by
 obtain ⟨F, d, e, q, z, R1, R2, hq, k⟩ := zz
 unfold dIx at hq
 split at hq
 ·rename_i xs i
  cases R1 with
  | @tup a vs _ h1 r1 =>
   cases R2
   obtain ⟨v, g1, g2⟩ := r1.atI hq
   exact .inr ⟨a, vs, i, v, rfl, rfl, h1, g1, k F H _ (Ext.refl F H) g2⟩
 ·rename_i xs i
  cases R1 with
  | @lst a vs _ h1 r1 =>
   cases R2
   obtain ⟨v, g1, g2⟩ := r1.atI hq
   exact .inl ⟨a, vs, i, v, rfl, rfl, h1.sq, g1, k F H _ (Ext.refl F H) g2⟩
 ·cases hq
noncomputable def dLen : List D -> Option D
 | [.list xs] => some (.int xs.length)
 | [.tuple xs] => some (.int xs.length)
 | _ => none
theorem cd_len : CallR X (.builtin "len") (rDA X.K dLen) := callr_mono call_len_seq fun xs H Q zz => by
 obtain ⟨F, ds, q, z, R, hq, k⟩ := zz
 unfold dLen at hq
 split at hq
 ·cases hq
  cases R with
  | cons R1 R2 =>
   cases R2
   cases R1 with
   | @lst a vs _ h1 r1 => exact ⟨a, vs, rfl, .inl h1.sq, by rw [<- r1.length]; exact k F H _ (Ext.refl F H) (.int _)⟩
 ·cases hq
  cases R with
  | cons R1 R2 =>
   cases R2
   cases R1 with
   | @tup a vs _ h1 r1 => exact ⟨a, vs, rfl, .inr h1, by rw [<- r1.length]; exact k F H _ (Ext.refl F H) (.int _)⟩
 ·cases hq
noncomputable def dAbs : List D -> Option D
 | [.int i] => some (.int (if i < 0 then -i else i))
 | _ => none
theorem cd_abs : CallR X (.builtin "abs") (rDA X.K dAbs) := callr_mono call_abs fun xs H Q zz => by
 obtain ⟨F, ds, q, z, R, hq, k⟩ := zz
 unfold dAbs at hq
 split at hq
 ·cases hq
  cases R with
  | cons R1 R2 => cases R2; cases R1; exact ⟨_, rfl, k F H _ (Ext.refl F H) (.int _)⟩
 ·cases hq
noncomputable def intsD : List D -> Option (List Int)
 | [] => some []
 | .int i :: r => (intsD r).bind fun is => some (i :: is)
 | _ => none
theorem ints_rep {K : PySem.W.Frag} {F : Addr -> Prop} {H : Hp} : ∀ {ds : List D} {vs : List V} {is : List Int}, Reps K F H ds vs -> intsD ds = some is -> vs = is.map V.int := by
 intro ds
 induction ds with
 | nil => intro vs is r h; cases r; cases h; rfl
 | cons d ds ih =>
  intro vs is r h
  cases r with
  | cons r1 r2 =>
   cases d with
   | int i =>
    cases r1
    obtain ⟨js, e, h⟩ := bnd h
    cases h
    rw [ih r2 e]; rfl
   | _ => cases h
noncomputable def dTuple : List D -> Option D
 | [.list xs] => some (.tuple xs)
 | [.tuple xs] => some (.tuple xs)
 | _ => none
theorem cd_tuple : CallR X (.type "tuple") (rDA X.K dTuple) := callr_mono call_tuple_of fun xs H Q zz => by
 obtain ⟨F, ds, q, z, R, hq, k⟩ := zz
 unfold dTuple at hq
 split at hq
 ·cases hq
  cases R with
  | cons R1 R2 =>
   cases R2
   cases R1 with
   | @lst a vs _ h1 r1 => exact ⟨a, vs, rfl, .inl ⟨h1.sq, fun l hl => k F _ _ (Ext.fresh hl) (Rep.newTup hl r1)⟩⟩
 ·cases hq
  cases R with
  | cons R1 R2 =>
   cases R2
   cases R1 with
   | @tup a vs _ h1 r1 => exact ⟨a, vs, rfl, .inr ⟨h1, k F H _ (Ext.refl F H) (.tup h1 r1)⟩⟩
 ·cases hq
noncomputable def dList : List D -> Option D
 | [.list xs] => some (.list xs)
 | [.tuple xs] => some (.list xs)
 | _ => none
end
end DL
namespace CL
open PySem PySem.Spec PyProof.Rows L2
theorem clos_go {env : Env} : ∀ (names : List (Str × NameKind)) (acc : List (Str × Addr)), (∀ x ∈ names, x.2 = .free -> ∃ c, env.cells.lookup x.1 = some c) ->
  (∀ x c, acc.lookup x = some c -> env.cells.lookup x = some c) ->
  ∃ cl, (forIn names acc (fun (x : Str × NameKind) (cs : List (Str × Addr)) => (do
    if x.2 == .free then
     let c <- cellOf env x.1
     pure (ForInStep.yield ((x.1, c) :: cs))
    else pure (ForInStep.yield cs) : Sem (ForInStep (List (Str × Addr))))) = (pure cl : Sem _)) /\ (∀ x c, cl.lookup x = some c -> env.cells.lookup x = some c) /\
   (∀ x, (x, NameKind.free) ∈ names -> ∃ c, cl.lookup x = some c) /\ (∀ x c, acc.lookup x = some c -> ∃ c', cl.lookup x = some c') /\ (∀ x c, cl.lookup x = some c -> (x, NameKind.free) ∈ names ∨ acc.lookup x = some c)
 | [], acc, _, h2 => ⟨acc, by rw [List.forIn_nil], h2, fun x h => by simp at h, fun x c h => ⟨c, h⟩, fun x c h => .inr h⟩
 | (n, k) :: r, acc, h1, h2 => by
  rw [List.forIn_cons]
  by_cases hk : k = .free
  ·subst hk
   obtain ⟨c, hc⟩ := h1 (n, .free) (List.mem_cons_self) rfl
   have hc' : env.cells.lookup n = some c := hc
   have h2' : ∀ x c', ((n, c) :: acc).lookup x = some c' -> env.cells.lookup x = some c' := fun x c' h => by
    rw [List.lookup_cons] at h
    cases e : x == n with
    | true => rw [e] at h; cases h; rw [eq_of_beq e]; exact hc'
    | false => rw [e] at h; exact h2 x c' h
   obtain ⟨cl, q, a1, a2, a3, a4⟩ := clos_go r ((n, c) :: acc) (fun x hx => h1 x (List.mem_cons_of_mem _ hx)) h2'
   refine ⟨cl, ?_, a1, fun x hx => ?_, fun x c' h => ?_, fun x c' h => ?_⟩
   ·have e1 : cellOf env n = pure c := by unfold cellOf; rw [hc']
    simp only [beq_self_eq_true, if_true, e1, pure_bind]
    exact q
   ·rcases List.mem_cons.mp hx with hx | hx
    ·cases hx
     exact a3 n c (by rw [List.lookup_cons, beq_self_eq_true])
    ·exact a2 x hx
   ·cases e : x == n with
    | true => rw [eq_of_beq e]; exact a3 n c (by rw [List.lookup_cons, beq_self_eq_true])
    | false => exact a3 x c' (by rw [List.lookup_cons, e]; exact h)
   ·rcases a4 x c' h with h | h
    ·exact .inl (List.mem_cons_of_mem _ h)
    ·rw [List.lookup_cons] at h
     cases e : x == n with
     | true => rw [eq_of_beq e]; exact .inl List.mem_cons_self
     | false => rw [e] at h; exact .inr h
  ·obtain ⟨cl, q, a1, a2, a3, a4⟩ := clos_go r acc (fun x hx => h1 x (List.mem_cons_of_mem _ hx)) h2
   refine ⟨cl, ?_, a1, fun x hx => ?_, a3, fun x c h => (a4 x c h).imp (List.mem_cons_of_mem _) id⟩
   ·have e : (k == NameKind.free) = false := by simpa using hk
    simp only [e, Bool.false_eq_true, if_false, pure_bind]
    exact q
   ·rcases List.mem_cons.mp hx with hx | hx
    ·cases hx; exact absurd rfl hk
    ·exact a2 x hx
theorem clos {env : Env} {scope : Scope} (h : ∀ x ∈ scope.names, x.2 = .free -> ∃ c, env.cells.lookup x.1 = some c) :
  ∃ cl, closureFor scope env = pure cl /\ (∀ x c, cl.lookup x = some c -> env.cells.lookup x = some c) /\ (∀ x, (x, NameKind.free) ∈ scope.names -> ∃ c, cl.lookup x = some c) /\ (∀ x c, cl.lookup x = some c -> (x, NameKind.free) ∈ scope.names) := by
 obtain ⟨cl, q, a1, a2, _, a4⟩ := clos_go (env := env) scope.names [] h (fun x c h => by simp at h)
 refine ⟨cl, ?_, a1, a2, fun x c h => (a4 x c h).elim id fun z => by simp at z⟩
 simp only [closureFor]
 first
  | exact q
  | (rw [<- q]; congr 1; funext x cs; obtain ⟨n, k⟩ := x; rfl)
  | simpa using q
noncomputable def inCx (X : Cx) (N' : List Str) (scope : Scope) (cl : List (Str × Addr)) (C : Addr) (fp : List Addr) (s : Shared) (H : Hp) : Cx :=
 { X with N := N', s₀ := s, H₀ := H, env := compEnvC scope cl C X.env, outer := X.stack, ex := fp, fn := fun x => scope.names.lookup x == some .local, pn := [], xe := fun _ _ => False }
structure CompScope (X : Cx) (N' : List Str) (scope : Scope) (inner : List (Option Nat)) : Prop where
 kind : scope.kind = .function
 nocell : ∀ x ∈ scope.names, x.2 ≠ .cell
 loc : ∀ x ∈ scope.names, x.2 = .local -> scope.names.lookup x.1 = some .local
 free : ∀ x ∈ scope.names, x.2 = .free -> scope.names.lookup x.1 = some .free /\ (X.env.scope.names.lookup x.1 = some .cell ∨ X.env.scope.names.lookup x.1 = some .free)
 len : inner.length = N'.length
 out : ∀ (i j : Nat), inner[i]? = some (some j) -> ∃ x, N'[i]? = some x /\ X.N[j]? = some x /\ scope.names.lookup x = some .free
noncomputable def inSt (inner : List (Option Nat)) (σ : L2.St) : L2.St := inner.map fun o => o.bind fun j => (σ[j]?).bind id
theorem relabel_free {env : Env} : ∀ {names : List (Str × NameKind)} {x : Str}, names.lookup x = some .free ->
  (names.map fun (n, k) => if (k == NameKind.free && env.scope.kind == .function && env.kindOf n == some .cell) then (n, NameKind.cell) else (n, k)).lookup x = some .free ∨
  (names.map fun (n, k) => if (k == NameKind.free && env.scope.kind == .function && env.kindOf n == some .cell) then (n, NameKind.cell) else (n, k)).lookup x = some .cell
 | [], _, h => by simp at h
 | (n, k) :: r, x, h => by
  have ih := @relabel_free env r x
  rw [List.map_cons]
  show List.lookup x ((if (k == NameKind.free && env.scope.kind == .function && env.kindOf n == some .cell) = true then (n, NameKind.cell) else (n, k)) :: _) = _ ∨ List.lookup x ((if (k == NameKind.free && env.scope.kind == .function && env.kindOf n == some .cell) = true then (n, NameKind.cell) else (n, k)) :: _) = _
  cases hx : x == n with
  | true =>
   simp only [List.lookup_cons, hx] at h
   cases h
   by_cases hc : (NameKind.free == NameKind.free && env.scope.kind == .function && env.kindOf n == some .cell) = true
   ·rw [if_pos hc]; right; simp [List.lookup_cons, hx]
   ·rw [if_neg hc]; left; simp [List.lookup_cons, hx]
  | false =>
   simp only [List.lookup_cons, hx] at h
   by_cases hc : (k == NameKind.free && env.scope.kind == .function && env.kindOf n == some .cell) = true
   ·rw [if_pos hc]; simp only [List.lookup_cons, hx]; exact ih h
   ·rw [if_neg hc]; simp only [List.lookup_cons, hx]; exact ih h
theorem relabel_back {env : Env} : ∀ {names : List (Str × NameKind)} {x : Str} {q : NameKind}, (∀ y ∈ names, y.2 ≠ .cell) -> (q = .cell ∨ q = .free) ->
  (names.map fun (n, k) => if (k == NameKind.free && env.scope.kind == .function && env.kindOf n == some .cell) then (n, NameKind.cell) else (n, k)).lookup x = some q -> (x, NameKind.free) ∈ names
 | [], _, _, _, _, h => by simp at h
 | (n, k) :: r, x, q, hn, hq, h => by
  have ih := @relabel_back env r x q (fun y hy => hn y (List.mem_cons_of_mem _ hy)) hq
  rw [List.map_cons] at h
  have h' : List.lookup x ((if (k == NameKind.free && env.scope.kind == .function && env.kindOf n == some .cell) = true then (n, NameKind.cell) else (n, k)) :: _) = some q := h
  cases hx : x == n with
  | true =>
   have e : x = n := eq_of_beq hx
   by_cases hc : (k == NameKind.free && env.scope.kind == .function && env.kindOf n == some .cell) = true
   ·have : k = .free := by
     have := hc
     simp only [Bool.and_eq_true, beq_iff_eq] at this
     exact this.1.1
    rw [e, this]; exact List.mem_cons_self
   ·rw [if_neg hc] at h'
    simp only [List.lookup_cons, hx] at h'
    have kq : k = q := Option.some.inj h'
    rcases hq with z | z
    ·exact absurd (kq.trans z) (hn (n, k) List.mem_cons_self)
    ·rw [e, <- z, <- kq]; exact List.mem_cons_self
  | false =>
   by_cases hc : (k == NameKind.free && env.scope.kind == .function && env.kindOf n == some .cell) = true
   ·rw [if_pos hc] at h'; simp only [List.lookup_cons, hx] at h'; exact List.mem_cons_of_mem _ (ih h')
   ·rw [if_neg hc] at h'; simp only [List.lookup_cons, hx] at h'; exact List.mem_cons_of_mem _ (ih h')
section
variable {X : Cx} {N' : List Str} {scope : Scope} {inner : List (Option Nat)} {cl : List (Str × Addr)} {C : Addr} {fp : List Addr} {s s4 : Shared} {H : Hp} {σ : L2.St} {pins : List (Addr × Obj)}
theorem in_start (CS : CompScope X N' scope inner) (I : Inv X pins σ H s) (hf : ∀ b ∈ fp, FpOk X pins H b) (c1 : ∀ x c, cl.lookup x = some c -> X.env.cells.lookup x = some c) (c2 : ∀ x, (x, NameKind.free) ∈ scope.names -> ∃ c, cl.lookup x = some c) (c3 : ∀ x c, cl.lookup x = some c -> (x, NameKind.free) ∈ scope.names)
  (hfl : ∀ b ∈ fp, b < s.heap.objs.size) (hC : C = s.heap.objs.size) {h' : Heap} {tk : Nat} (hk : ∀ b o, s.heap.get? b = some o -> h'.get? b = some o) (hns : h'.Ns C fun _ => none) (hs4 : s4 = { s with heap := h', toks := tk }) :
  Inv (inCx X N' scope cl C fp s H) [] (inSt inner σ) H s4 := by
 subst hs4
 have old : ∀ b o, s.heap.get? b = some o -> b ≠ C := fun b o e => by rw [hC]; exact Nat.ne_of_lt (Heap.lt_size e)
 have cC : ∀ x c, cl.lookup x = some c -> c ≠ C := fun x c e => by
  obtain ⟨v, o, q, _⟩ := I.cell x c (c1 x c e)
  exact old c o q
 refine ⟨⟨I.ok.mod, CS.kind, I.ok.glob, I.ok.blt, ?_, fun x y c h1 h2 => I.ok.inj x y c (c1 x c h1) (c1 y c h2), fun x hx => ?_, fun x c hx h => ?_, I.ok.hd, I.ok.frames, .inl rfl, fun b hb => ⟨?_, fun x c e z => (hf b hb).2.2.2.2.1 x c (c1 x c e) z⟩, I.bs, Nat.le_trans I.ok.bsz I.sz, fun b o e hb => ?_, fun b hb => ?_, I.stack, I.stkFree⟩,
  rfl, I.bare, Un.kept hk, ⟨_, hns, fun i x v e1 e2 e3 => ?_⟩, fun x c e => ?_, ?_, fun x c e => I.freeC x c (c1 x c e), fun p hp => absurd (show p ∈ ([] : List (Addr × Obj)) from hp) (by simp), I.hok.kept hk, ?_⟩
 ·show s.heap.objs.size <= C
  rw [hC]; exact Nat.le_refl _
 ·have hx' : (relabel scope X.env).names.lookup x = some .cell ∨ (relabel scope X.env).names.lookup x = some .free := hx
  rcases hx' with hx' | hx'
  ·exact c2 x (relabel_back CS.nocell (.inl rfl) hx')
  ·exact c2 x (relabel_back CS.nocell (.inr rfl) hx')
 ·have hx' : (scope.names.lookup x == some NameKind.local) = true := hx
  have e1 : scope.names.lookup x = some .local := eq_of_beq hx'
  have e2 := (CS.free _ (c3 x c h) rfl).1
  rw [e1] at e2; cases e2
 ·show b ≠ C
  rw [hC]; exact Nat.ne_of_lt (hfl b hb)
 ·rcases (hf b hb).2.2.2.1 with z | z
  ·exact I.ok.noex b o e z
  ·exact absurd (Nat.lt_of_lt_of_le (Heap.lt_size e) (Nat.le_trans I.ok.bsz z)) (Nat.lt_irrefl _)
 ·intro z
  rcases List.mem_cons.mp (I.stkSub b z) with q | q
  ·exact (hf b hb).2.1 q
  ·exact (hf b hb).2.2.1 q
 ·-- a name of the block: one that is free, read through its cell
  unfold inSt at e2
  rw [List.getElem?_map] at e2
  cases ei : inner[i]? with
  | none => rw [ei] at e2; cases e2
  | some o =>
   rw [ei] at e2
   cases o with
   | none => cases e2
   | some j =>
    have e2' : (σ[j]?).bind id = some v := by simpa using e2
    have e4 : σ[j]? = some (some v) := by
     cases ej : σ[j]? with
     | none => rw [ej] at e2'; cases e2'
     | some w' => rw [ej] at e2'; exact congrArg some e2'
    obtain ⟨x', g1, g2, g3⟩ := CS.out i j ei
    have e1' : N'[i]? = some x := e1
    rw [e1'] at g1; cases g1
    have mem : (x, NameKind.free) ∈ scope.names := PySem.mem_of_lookup g3
    have outer := (CS.free _ mem rfl).2
    obtain ⟨m, hm, hl⟩ := I.loc
    have vis : Vis X.env.scope x := outer.elim (fun z => .inr (.inl z)) fun z => .inr (.inr z)
    obtain ⟨u, ru, lk⟩ := hl j x v g2 e4 vis
    refine ⟨u, ru, ?_⟩
    obtain ⟨c, hc⟩ := c2 x mem
    rcases lk with ⟨k1, _⟩ | ⟨_, c', k2, k3⟩
    ·have k1' : X.env.scope.names.lookup x = some .local := k1
     rcases outer with z | z <;> (rw [k1'] at z; cases z)
    ·have e5 := c1 x c hc
     rw [k2] at e5; cases e5
     refine .inr ⟨?_, c, hc, (let ⟨o, q1, q2⟩ := k3; ⟨o, hk _ o q1, q2⟩)⟩
     have := relabel_free (env := X.env) g3
     exact this.elim .inr .inl
 ·obtain ⟨v, q⟩ := I.cell x c (c1 x c e)
  exact ⟨v, (let ⟨o, q1, q2⟩ := q; ⟨o, hk _ o q1, q2⟩)⟩
 ·show H C = none
  exact I.hok.fresh (by rw [hC]; exact Nat.le_refl _)
 ·show (inSt inner σ).length = N'.length
  unfold inSt
  rw [List.length_map]; exact CS.len
theorem in_end (I : Inv X pins σ H s) (hf : ∀ b ∈ fp, FpOk X pins H b) (hC : C = s.heap.objs.size) {σ' : L2.St} {H' : Hp} {s5 : Shared} (J : Inv (inCx X N' scope cl C fp s H) [] σ' H' s5) {h' : Heap} (sb : Heap.SameBut C s5.heap h') :
  Inv X pins σ H' { s5 with heap := h' } := by
 have old : ∀ b o, s.heap.get? b = some o -> b ≠ C := fun b o e => by rw [hC]; exact Nat.ne_of_lt (Heap.lt_size e)
 have U : Un (frs X.stack) fp H H' s.heap s5.heap := J.base
 have nC : H' C = none := J.free
 refine I.call' (ch := fp) J.os ⟨fun b o e n hb hx => ?_, fun b o e n hb hx => ?_, U.free, fun b o e hx => ?_, U.tups, U.frzs, U.tbls⟩ (fun b u e => ?_) J.bare fun b hb => ?_
 ·rw [sb.2 b (old b o e)]; exact U.keep b o e n hb hx
 ·obtain ⟨sl, q⟩ := U.slot b o e n hb hx
  exact ⟨sl, by rw [sb.2 b (old b o e)]; exact q⟩
 ·obtain ⟨o', q⟩ := U.there b o e hx
  exact ⟨o', by rw [sb.2 b (old b o e)]; exact q⟩
 ·have nt : ∀ c v, H' c = some v -> c ≠ C := fun c v q z => by rw [z, nC] at q; cases q
  refine (J.hok b u e).stay (fun c v hc q => ?_) (fun _ q => q) fun _ _ q => q
  rw [sb.2 c ?_]
  ·exact q
  ·rcases hc with z | z
   ·rw [z]; exact nt b u e
   ·exact nt c _ z
 ·exact ⟨(hf b hb).2.2.2.1, (hf b hb).2.1, (hf b hb).2.2.2.2.1, (hf b hb).2.2.2.2.2⟩
end
noncomputable def PTs (X : Cx) (ifs : List Expr) (t : TT) : Prop :=
 ∀ (pins : List (Addr × Obj)) (s : Shared) (σ : L2.St) (H : Hp) (Q : Bool -> Hp -> Prop), Inv X pins σ H s -> t σ H Q ->
  wpAny (model X.prog X.w) X.A (forIn ifs true fun c r => if r = true then do let ok <- isTrue c X.env (eval c X.env); pure (ForInStep.yield ok) else pure (ForInStep.yield r)) (TP X pins σ Q) X.xe s
theorem pts_one {X : Cx} {c : Expr} {t : TT} (h : PT X c t) : PTs X [c] t := fun pins s σ H Q I q => wpAny_tests_one (h pins s σ H Q I q)
noncomputable def tComp (wi : TI) (g : TG) (ti : TT) (te : TE) (inner : List (Option Nat)) : TE := fun σ H Q => wi σ H fun J H1 => ∀ D, H1 D = none -> ∃ W : Nat -> Nat -> L2.St -> Hp -> Prop, (∃ m, W 0 m (inSt inner σ) (upd H1 D (.lst []))) /\ ∀ i m σ' H', W i m σ' H' ->
 (J.stop i H' /\ Q (.ref D) H') ∨ (J.go i H' /\ ∀ x H2, J.yld i H' x H2 -> g x σ' H2 fun σ3 H3 => ti σ3 H3 fun b H4 => if b = true then te σ3 H4 fun y H5 => ∃ ys, H5 D = some (.lst ys) /\ ys.length < sizeLine /\ ∃ m', m' < m /\ W (i + 1) m' σ3 (upd H5 D (.lst (ys ++ [y]))) else ∃ m', m' < m /\ W (i + 1) m' σ3 H4)
section
variable {X : Cx} {elt tg iter : Expr} {ifs : List Expr} {scope : Scope} {pos : Pos} {N' : List Str} {inner : List (Option Nat)} {wi : TI} {g : TG} {ti : TT} {te : TE}
theorem comp_run (hc : X.calm = true) (CS : CompScope X N' scope inner) (hg : ∀ cl C fp s H, PG (inCx X N' scope cl C fp s H) tg g) (ht : ∀ cl C fp s H, PTs (inCx X N' scope cl C fp s H) ifs ti) (he : ∀ cl C fp s H, PE (inCx X N' scope cl C fp s H) elt te)
  {pins : List (Addr × Obj)} {σ : L2.St} {s2 : Shared} {H2 : Hp} {it : Addr} {fp : List Addr} {tn : Nat -> Heap -> Prop} {J : It} {cl : List (Str × Addr)} {Q : VK} {RR : Value -> Addr -> Result -> Shared -> Prop}
  (c1 : ∀ x c, cl.lookup x = some c -> X.env.cells.lookup x = some c) (c2 : ∀ x, (x, NameKind.free) ∈ scope.names -> ∃ c, cl.lookup x = some c) (c3 : ∀ x c, cl.lookup x = some c -> (x, NameKind.free) ∈ scope.names)
  (I2 : Inv X pins σ H2 s2) (T : Turn X.prog X.w X.K tg J fp it tn) (t0 : tn 0 s2.heap) (f2 : ∀ b ∈ fp, FpOk X pins H2 b)
  (q : ∀ D, H2 D = none -> ∃ W : Nat -> Nat -> L2.St -> Hp -> Prop, (∃ m, W 0 m (inSt inner σ) (upd H2 D (.lst []))) /\ ∀ i m σ' H', W i m σ' H' ->
   (J.stop i H' /\ Q (.ref D) H') ∨ (J.go i H' /\ ∀ x H3, J.yld i H' x H3 -> g x σ' H3 fun σ3 H3 => ti σ3 H3 fun b H4 => if b = true then te σ3 H4 fun y H5 => ∃ ys, H5 D = some (.lst ys) /\ ys.length < sizeLine /\ ∃ m', m' < m /\ W (i + 1) m' σ3 (upd H5 D (.lst (ys ++ [y]))) else ∃ m', m' < m /\ W (i + 1) m' σ3 H4))
  (fin : ∀ (D C : Addr) (H' : Hp) (s5 : Shared) (m : Str -> Option Value), s5.heap.Ns C m -> Q (.ref D) H' -> (∀ h', Heap.SameBut C s5.heap h' -> Inv X pins σ H' { s5 with heap := h' }) -> (H' C = none /\ C ≠ X.env.locals /\ X.s₀.heap.objs.size <= C /\ (∀ x c, X.env.cells.lookup x = some c -> c ≠ C) /\ ∀ p ∈ X.pn ++ pins, p.1 ≠ C) -> RR (.ref D) C (.ok .next) s5) :
  wpAny (model X.prog X.w) X.A (newList []) (fun acc s₃ => wpAny (model X.prog X.w) X.A (newFunctionEnv scope X.env.globals cl [] X.env.qual none .none (some X.env)) (fun cenv s₄ =>
   codeAny (model X.prog X.w) X.A (.compStart (.ListComp elt [⟨tg, iter, ifs, 0⟩] scope pos) 0 (.ref it) acc { cenv with scope := relabel scope X.env }) (RR acc cenv.locals) s₄) X.xe s₃) X.xe s2 := by
 refine wpAny_newList ?_
 have hD : H2 s2.heap.objs.size = none := I2.hok.fresh (Nat.le_refl _)
 generalize hs3 : ({ s2 with heap := s2.heap.push { cls := .type "list", data := .seq ([] : List Value).toArray } } : Shared) = s3
 have k23 : ∀ b o, s2.heap.get? b = some o -> s3.heap.get? b = some o := fun b o e => by rw [<- hs3]; exact Heap.get?_push_of_some _ e
 have sz3 : s3.heap.objs.size = s2.heap.objs.size + 1 := by rw [<- hs3]; exact Heap.size_push _ _
 have I3 : Inv X pins σ (upd H2 s2.heap.objs.size (.lst [])) s3 := by
  rw [<- hs3]
  exact I2.laid (t' := s2.toks) (o := .lst []) (fun b o e => Heap.get?_push_of_some _ e) (Nat.le_refl _) ⟨Nat.zero_le _, [], 0, .nil, Heap.get?_push_size _ rfl⟩
 have ffl : ∀ b ∈ fp, b < s2.heap.objs.size := fun b hb => by
  obtain ⟨o, e, _⟩ := T.obj 0 _ t0 b hb
  exact Heap.lt_size e
 have f3 : ∀ b ∈ fp, FpOk X pins (upd H2 s2.heap.objs.size (.lst [])) b := fun b hb => by
  obtain ⟨g0, g1⟩ := f2 b hb
  exact ⟨by rw [upd_ne (Nat.ne_of_lt (ffl b hb))]; exact g0, g1⟩
 have t3 : tn 0 s3.heap := T.keep _ _ _ t0 fun b _ o e => k23 b o e
 obtain ⟨W, ⟨m0, w0⟩, step⟩ := q _ hD
 refine wpAny_newFunctionEnv (fun x hx => CS.nocell x hx) (by intro y hy; simp at hy) (fun h₁ hns₁ hsb₁ => ?_) CS.kind
 try dsimp only at hns₁ hsb₁ ⊢
 have k34 : ∀ b o, s3.heap.get? b = some o -> h₁.get? b = some o := fun b o e => hsb₁.extBut b o (Nat.ne_of_lt (Heap.lt_size e)) (Heap.get?_push_of_some _ e)
 have hns : h₁.Ns s3.heap.objs.size fun _ => none := by
  have : (fun x => ([] : List (Str × Value)).reverse.lookup x) = (fun _ => none : Str -> Option Value) := by funext x; rfl
  rw [this] at hns₁; exact hns₁
 generalize hs4 : ({ s3 with heap := h₁, toks := s3.toks + ([] : List (Str × Value)).length } : Shared) = s4
 have I4 : Inv (inCx X N' scope cl s3.heap.objs.size fp s3 (upd H2 s2.heap.objs.size (.lst []))) [] (inSt inner σ) (upd H2 s2.heap.objs.size (.lst [])) s4 :=
  in_start CS I3 f3 c1 c2 c3 (fun b hb => by rw [sz3]; exact Nat.lt_succ_of_lt (ffl b hb)) rfl k34 hns hs4.symm
 have t4 : tn 0 s4.heap := by rw [<- hs4]; exact T.keep _ _ _ t3 fun b _ o e => k34 b o e
 have CL : s3.heap.objs.size ≠ X.env.locals := Nat.ne_of_gt I3.lt
 have CC : ∀ x c, X.env.cells.lookup x = some c -> c ≠ s3.heap.objs.size := fun x c e => by
  obtain ⟨v, o, z, _⟩ := I3.cell x c e
  exact Nat.ne_of_lt (Heap.lt_size z)
 show codeAny (model X.prog X.w) X.A (.compStart (.ListComp elt [⟨tg, iter, ifs, 0⟩] scope pos) 0 (.ref it) (.ref s2.heap.objs.size) (compEnvC scope cl s3.heap.objs.size X.env)) (RR (.ref s2.heap.objs.size) s3.heap.objs.size) s4
 have loop : codeAny (model X.prog X.w) X.A (.compLoop (.ListComp elt [⟨tg, iter, ifs, 0⟩] scope pos) 0 (.ref it) (.ref s2.heap.objs.size) (compEnvC scope cl s3.heap.objs.size X.env)) (RR (.ref s2.heap.objs.size) s3.heap.objs.size) s4 := by
  refine codeAny_loop rfl (fun m s' => ∃ i σ' H', Inv (inCx X N' scope cl s3.heap.objs.size fp s3 (upd H2 s2.heap.objs.size (.lst []))) [] σ' H' s' /\ tn i s'.heap /\ (∀ b ∈ fp, H' b = none) /\ W i m σ' H') (fun m s' hI => ?_) m0 ⟨0, _, _, I4, t4, fun b hb => (f3 b hb).1, w0⟩
  obtain ⟨i, σ', H', I', t', fr', w'⟩ := hI
  have fx : ∀ {H'' : Hp}, (∀ b ∈ fp, H'' b = none) -> ∀ b ∈ fp, FpOk (inCx X N' scope cl s3.heap.objs.size fp s3 (upd H2 s2.heap.objs.size (.lst []))) [] H'' b := fun {H''} z b hb =>
   ⟨z b hb, (I4.ok.exf b hb).1, I4.ok.exfs b hb, .inl hb, fun x c e => (I4.ok.exf b hb).2 x c e, fun p hp => absurd (show p ∈ ([] : List (Addr × Obj)) from hp) (by simp)⟩
  show wpAny _ X.A ((compTurn (.ListComp elt [⟨tg, iter, ifs, 0⟩] scope pos) 0 (.ref it) (.ref s2.heap.objs.size) (compEnvC scope cl s3.heap.objs.size X.env)).onRaise (fun x => do noteFrame x (compEnvC scope cl s3.heap.objs.size X.env); theTreesLotGoes x)) _ _ s'
  refine wpAny_noted ?_
  rw [compTurn_list]
  refine wpAny_bind (wpAny_standAt (wpAny_bind ?_))
  rcases step i m σ' H' w' with ⟨stop, qn⟩ | ⟨go, nxt⟩
  ·refine wpAny_mono (T.done (inCx X N' scope cl s3.heap.objs.size fp s3 (upd H2 s2.heap.objs.size (.lst []))) rfl rfl rfl hc i [] s' σ' H' (fun _ _ => False) I' (fx fr') t' stop) (fun r s5 hr => ?_) fun _ _ z => z.elim
   obtain ⟨hr, I5⟩ := hr
   subst hr
   obtain ⟨m5, hm5, _⟩ := id I5.loc
   exact wpAny_pure (fin _ _ H' s5 m5 hm5 qn (fun h' sb => in_end I3 f3 rfl I5 sb) ⟨I5.free, CL, I3.sz, CC, fun p hp => Nat.ne_of_lt (Heap.lt_size (I3.pin p hp).1)⟩)
  ·refine wpAny_mono (T.item (inCx X N' scope cl s3.heap.objs.size fp s3 (upd H2 s2.heap.objs.size (.lst []))) rfl rfl rfl hc i [] s' σ' H' (fun _ _ => False) I' (fx fr') t' go) (fun r s5 hr => ?_) fun _ _ z => z.elim
   obtain ⟨u, hr, h5⟩ := hr
   subst hr
   refine wpAny_bind (wpAny_mono h5 (fun _ s6 h6 => ?_) fun _ _ z => z.elim)
   obtain ⟨x, H6, I6, r6, y6, t6, fr6⟩ := h6
   have I6' := I6.pinned (fx fr6) (T.obj _ _ t6)
   have back : ∀ {m' : Nat} {σ7 : L2.St} {H7 : Hp} {s7 : Shared}, Inv (inCx X N' scope cl s3.heap.objs.size fp s3 (upd H2 s2.heap.objs.size (.lst []))) ([] ++ pinsAt fp s6.heap) σ7 H7 s7 -> m' < m -> W (i + 1) m' σ7 H7 ->
     ∃ m', m' < m /\ ∃ i σ' H', Inv (inCx X N' scope cl s3.heap.objs.size fp s3 (upd H2 s2.heap.objs.size (.lst []))) [] σ' H' s7 /\ tn i s7.heap /\ (∀ b ∈ fp, H' b = none) /\ W i m' σ' H' := fun {m' σ7 H7 s7} I7 lt w7 => by
    refine ⟨m', lt, i + 1, σ7, H7, I7.unpinned, T.keep _ _ _ t6 fun b hb o e => (I7.pin (b, o) (List.mem_append_right _ (List.mem_append_right _ (mem_pinsAt hb e)))).1, fun b hb => ?_, w7⟩
    obtain ⟨o, e, _⟩ := T.obj _ _ t6 b hb
    exact (I7.pin (b, o) (List.mem_append_right _ (List.mem_append_right _ (mem_pinsAt hb e)))).2.1
   refine wpAny_bind (wpAny_mono (hg _ _ _ _ _ _ s6 σ' H6 x u _ I6' r6 (nxt x H6 y6)) (fun _ s7 h7 => ?_) fun _ _ z => z.elim)
   obtain ⟨σ7, H7, I7, q7⟩ := h7
   refine wpAny_bind (wpAny_mono (ht _ _ _ _ _ _ s7 σ7 H7 _ I7 q7) (fun ok s8 h8 => ?_) fun _ _ z => z.elim)
   obtain ⟨H8, I8, q8⟩ := h8
   cases ok with
   | false =>
    simp only [Bool.false_eq_true, if_false] at q8 ⊢
    obtain ⟨m', lt, w8⟩ := q8
    exact wpAny_pure ⟨rfl, back I8 lt w8⟩
   | true =>
    simp only [if_true] at q8 ⊢
    refine wpAny_bind (wpAny_bind (wpAny_mono (he _ _ _ _ _ _ s8 σ7 H8 _ I8 q8) (fun y s9 h9 => ?_) fun _ _ z => z.elim))
    obtain ⟨yv, H9, I9, r9, ys, d9, l9, m', lt, w9⟩ := h9
    refine wpAny_bind (wpAny_mono (mt_append (X := inCx X N' scope cl s3.heap.objs.size fp s3 (upd H2 s2.heap.objs.size (.lst []))) _ s9 σ7 H9 (.ref s2.heap.objs.size) [yv] _ [y] (fun v H' => H' = upd H9 s2.heap.objs.size (.lst (ys ++ [yv]))) I9 rfl (.cons r9 .nil) ⟨_, ys, yv, rfl, rfl, d9, l9, rfl⟩) (fun _ s10 h10 => ?_) fun _ _ z => z.elim)
    obtain ⟨_, H10, I10, _, e10⟩ := h10
    subst e10
    exact wpAny_pure (wpAny_pure ⟨rfl, back I10 lt w9⟩)
 exact codeAny_compStart_list loop (T.self X.A 0 s4 _ _ t4 loop)
theorem pe_comp (hc : X.calm = true) (CS : CompScope X N' scope inner) (hi : PI X tg iter wi) (hg : ∀ cl C fp s H, PG (inCx X N' scope cl C fp s H) tg g) (ht : ∀ cl C fp s H, PTs (inCx X N' scope cl C fp s H) ifs ti) (he : ∀ cl C fp s H, PE (inCx X N' scope cl C fp s H) elt te)
  (hs : ∀ x, foldedSetIterable iter X.env x = pure x := by intro _; rfl) : PE X (.ListComp elt [⟨tg, iter, ifs, 0⟩] scope pos) (tComp wi g ti te inner) := by
 intro pins s σ H Q I h
 obtain ⟨cl, hcl, c1, c2, c3⟩ := clos (env := X.env) (scope := scope) fun x hx hk => I.ok.has x.1 (CS.free x hx hk).2
 rw [eval_ListComp]
 refine wpAny_comprehension_free (use := none) rfl hs hcl CS.kind CS.loc (thn (hi pins s σ H _ I h) fun xv s1 h1 => thn h1 fun itv s2 h2 => ?_)
 obtain ⟨it, fp, tn, J, H2, rfl, I2, T, t0, f2, q⟩ := h2
 refine comp_run (RR := fun acc C => compPost (model X.prog X.w) X.A X.xe none (EP X pins σ Q) acc C) hc CS hg ht he c1 c2 c3 I2 T t0 f2 q ?_
 intro D C H' s5 m hm hq hI _
 exact ⟨m, hm, fun h' sb => ⟨.ref D, H', hI h' sb, rfl, hq⟩⟩
end
end CL
namespace DL
open PySem PySem.Spec PySem.SeqAt PyProof.Rows L2 CL
noncomputable def inRho (inner : List (Option Nat)) (ρ : Rho) : Rho := inner.map fun o => match o with
 | some j => match ρ[j]? with
  | some (.dat d) => .dat d
  | _ => .no
 | none => .no
noncomputable def compN (s : D -> Rho -> Option Rho) (t : Rho -> Option Bool) (ge : Rho -> Option D) : List D -> Rho -> Option (List D)
 | [], _ => some []
 | d :: ds, ρ => (s d ρ).bind fun ρ1 => (t ρ1).bind fun b => if b = true then (ge ρ1).bind fun y => (compN s t ge ds ρ1).bind fun r => some (y :: r) else compN s t ge ds ρ1
noncomputable def eComp (gi : Rho -> Option (List D)) (s : D -> Rho -> Option Rho) (t : Rho -> Option Bool) (ge : Rho -> Option D) (inner : List (Option Nat)) : Rho -> Option (List D) :=
 fun ρ => (gi ρ).bind fun xs => (compN s t ge xs (inRho inner ρ)).bind fun out => if out.length <= 1000 then some out else none
noncomputable def eLc (g : Rho -> Option (List D)) : Rho -> Option D := fun ρ => (g ρ).bind fun out => some (.list out)
noncomputable def eT : Rho -> Option Bool := fun _ => some true
noncomputable def isOwn : Sl -> Bool
 | .own _ | .ownD _ => true
 | _ => false
noncomputable def Plain (ρ : Rho) : Prop := ∀ (i : Nat) (s : Sl), isOwn s = true -> ρ[i]? ≠ some s
noncomputable def KeepsPlain (s : D -> Rho -> Option Rho) : Prop := ∀ d ρ ρ', Plain ρ -> s d ρ = some ρ' -> Plain ρ'
noncomputable def KeepsPlains (s : List D -> Rho -> Option Rho) : Prop := ∀ ds ρ ρ', Plain ρ -> s ds ρ = some ρ' -> Plain ρ'
theorem plain_set {ρ : Rho} {i : Nat} {d : D} (h : Plain ρ) : Plain (ρ.set i (.dat d)) := fun j ds ow e => by
 by_cases c : i = j
 ·subst c
  by_cases l : i < ρ.length
  ·rw [List.getElem?_set_self l] at e; cases e; cases ow
  ·rw [List.getElem?_eq_none (by simpa using Nat.le_of_not_lt l)] at e; cases e
 ·rw [List.getElem?_set_ne c] at e; exact h j ds ow e
theorem kp_name (i : Nat) : KeepsPlain (uName i) := fun d ρ ρ' h e => by cases e; exact plain_set h
theorem kp_nil : KeepsPlains uNil := fun ds ρ ρ' h e => by
 cases ds with
 | nil => cases e; exact h
 | cons _ _ => cases e
theorem kp_cons {s1 : D -> Rho -> Option Rho} {s2 : List D -> Rho -> Option Rho} (h1 : KeepsPlain s1) (h2 : KeepsPlains s2) : KeepsPlains (uCons s1 s2) := fun ds ρ ρ' h e => by
 cases ds with
 | nil => cases e
 | cons d ds =>
  obtain ⟨ρ1, e1, e⟩ := bnd e
  exact h2 ds ρ1 ρ' (h1 d ρ ρ1 h e1) e
theorem kp_tup {n : Nat} {s : List D -> Rho -> Option Rho} (h1 : KeepsPlains s) : KeepsPlain (uTup n s) := fun d ρ ρ' h e => by
 cases d with
 | tuple ds =>
  have e' : (if ds.length = n then s ds ρ else none) = some ρ' := e
  by_cases c : ds.length = n
  ·rw [if_pos c] at e'; exact h1 ds ρ ρ' h e'
  ·rw [if_neg c] at e'; cases e'
 | _ => cases e
theorem plain_in (inner : List (Option Nat)) (ρ : Rho) : Plain (inRho inner ρ) := fun i ds ow e => by
 unfold inRho at e
 rw [List.getElem?_map] at e
 cases q : inner[i]? with
 | none => rw [q] at e; cases e
 | some o =>
  rw [q] at e
  cases o with
  | none => cases e; cases ow
  | some j =>
   have e' : (match ρ[j]? with | some (.dat d) => Sl.dat d | _ => Sl.no) = ds := Option.some.inj e
   split at e' <;> (subst e'; cases ow)
theorem stay_upd {K : PySem.W.Frag} {F : Addr -> Prop} {H : Hp} {p : Addr} {vs us : List V} (hp : H p = some (.lst vs)) (hf : ¬ F p) : Stay K F F H (upd H p (.lst us)) :=
 ⟨fun _ h => h, fun a xs h => by
  rcases h with (h | ⟨o, h⟩) | h
  ·exact .inl (.inl (by rw [upd_ne (by intro z; subst z; rw [hp] at h; cases h)]; exact h))
  ·exact .inl (.inr ⟨o, by rw [upd_ne (by intro z; subst z; rw [hp] at h; cases h)]; exact h⟩)
  ·exact .inr h, fun a xs f h => by
  have na : a ≠ p := fun z => hf (by rw [<- z]; exact f)
  rcases h with h | ⟨o, h⟩
  ·exact .inl (by rw [upd_ne na]; exact h)
  ·exact .inr ⟨o, by rw [upd_ne na]; exact h⟩, fun a φ f h => by rw [upd_ne (fun z => hf (by rw [<- z]; exact f))]; exact h⟩
theorem StOk.plain {K : PySem.W.Frag} {F F' : Addr -> Prop} {H H' H₀ H₁ : Hp} {σ : L2.St} {ρ : Rho} (S : StOk K F H H₀ σ ρ) (pl : Plain ρ) (T : Stay K F F' H H') (z : ∀ a, F' a -> H' a ≠ none) : StOk K F' H' H₁ σ ρ :=
 ⟨S.len, fun i s h => by
  obtain ⟨o, q, w⟩ := S.sl i s h
  refine ⟨o, q, ?_⟩
  cases s with
  | no => trivial
  | ownD kvs => exact absurd h (pl i _ rfl)
  | dat d => obtain ⟨v, e, r⟩ := w; exact ⟨v, e, r.stay T⟩
  | own ds => exact absurd h (pl i _ rfl), fun i j a ds es _ h1 => absurd h1 (pl i _ rfl), z⟩
theorem StOk.inner {K : PySem.W.Frag} {F : Addr -> Prop} {H H₀ : Hp} {σ : L2.St} {ρ : Rho} (S : StOk K F H H₀ σ ρ) (inner : List (Option Nat)) : StOk K F H H₀ (inSt inner σ) (inRho inner ρ) :=
 ⟨by simp [inSt, inRho], fun i s h => by
  unfold inRho at h
  unfold inSt
  rw [List.getElem?_map] at h ⊢
  cases q : inner[i]? with
  | none => rw [q] at h; cases h
  | some o =>
   rw [q] at h
   cases o with
   | none => cases h; exact ⟨none, rfl, trivial⟩
   | some j =>
    have h' : (match ρ[j]? with | some (.dat d) => Sl.dat d | _ => Sl.no) = s := Option.some.inj h
    split at h'
    ·rename_i d e
     cases h'
     obtain ⟨v, e2, r⟩ := S.dat e
     exact ⟨some v, by simp [e2], v, rfl, r⟩
    ·cases h'
     exact ⟨_, rfl, trivial⟩, fun i j a ds es _ h1 => absurd h1 (plain_in inner ρ i _ rfl), S.fz⟩
noncomputable def DTs (X : Cx) (ifs : List Expr) (t : Rho -> Option Bool) : Prop := PTs X ifs (tDT X.K t)
theorem dts_nil {X : Cx} : DTs X [] eT := fun pins s σ H Q I zz => by
 obtain ⟨F, H₀, ρ, b, S, q, k⟩ := zz
 cases q
 exact wpAny_tests_nil ⟨H, I, k F H (Ext.refl F H)⟩
theorem dts_one {X : Cx} {c : Expr} {t : Rho -> Option Bool} (h : DT X c t) : DTs X [c] t := pts_one h
section
variable {X : Cx} {elt tg iter : Expr} {ifs : List Expr} {scope : Scope} {pos : Pos} {N' : List Str} {inner : List (Option Nat)} {gi : Rho -> Option (List D)} {s : D -> Rho -> Option Rho} {t : Rho -> Option Bool} {ge : Rho -> Option D}
theorem comp_data (kp : KeepsPlain s) {σ : L2.St} {H : Hp} {Q : VK} {F : Addr -> Prop} {H₀ : Hp} {ρ : Rho} {out : List D} (S : StOk X.K F H H₀ σ ρ) (q : eComp gi s t ge inner ρ = some out)
  (fin : ∀ F' H' D' vs, Ext F F' H H' -> Stay X.K F F' H H' -> H D' = none -> H' D' = some (.lst vs) -> ¬ F' D' -> Reps X.K F' H' out vs -> StOk X.K F' H' H₀ σ ρ -> Q (.ref D') H') :
  tComp (tDI X.K gi) (tDG X.K s) (tDT X.K t) (tD X.K ge) inner σ H Q := by
 obtain ⟨xs, e1, q⟩ := bnd q
 obtain ⟨out', e2, q⟩ := bnd q
 by_cases hl : out'.length <= 1000
 ·rw [if_pos hl] at q
  cases q
  refine ⟨F, H₀, ρ, xs, S, e1, fun F1 H1 J E1 I1 D' hD => ?_⟩
  have S1 := S.ext E1
  refine ⟨fun i m σ' H' => ∃ F2 ρ2 vs don rst, m = xs.length - i /\ i <= xs.length /\ Ext F1 F2 H1 H' /\ Stay X.K F1 F2 H1 H' /\ StOk X.K F2 H' H1 σ' ρ2 /\ Plain ρ2 /\ H' D' = some (.lst vs) /\ ¬ F2 D' /\ Reps X.K F2 H' don vs /\ compN s t ge (xs.drop i) ρ2 = some rst /\ don ++ rst = out /\
    (∀ b o, b ≠ D' -> H1 b = some o -> H' b = some o), ?_, ?_⟩
  ·have E2 : Ext F1 F1 H1 (upd H1 D' (.lst [])) := Ext.fresh hD
   refine ⟨xs.length, F1, inRho inner ρ, [], [], out, by simp, Nat.zero_le _, E2, E2.stay, ?_, plain_in inner ρ, upd_same, fun f => S1.fz _ f hD, .nil, by simpa using e2, rfl, fun b o nb e => by rw [upd_ne nb]; exact e⟩
   exact (S1.inner inner).plain (plain_in inner ρ) E2.stay (E2.fz S1.fz)
  ·rintro i m σ' H' ⟨F2, ρ2, vs, don, rst, rfl, hi, E2, T2, S2, pl, dD, nf, rd, ec, eo, kp2⟩
   obtain ⟨it1, it2⟩ := I1 F2 H' T2 S2.fz i
   by_cases hlt : i < xs.length
   ·right
    have hget : xs[i]? = some xs[i] := by simp [hlt]
    obtain ⟨go, yld⟩ := it1 _ hget
    rw [List.drop_eq_getElem_cons hlt] at ec
    obtain ⟨ρ3, e3, ec⟩ := bnd ec
    obtain ⟨b, e4, ec⟩ := bnd ec
    refine ⟨go, fun x H3 y => ?_⟩
    obtain ⟨F3, E3, R3⟩ := yld x H3 y
    have pl3 := kp _ _ _ pl e3
    refine ⟨F3, H1, ρ2, xs[i], ρ3, S2.ext E3, R3, e3, fun σ5 S5 => ⟨F3, H1, ρ3, b, S5, e4, fun F6 H6 E6 => ?_⟩⟩
    have S6 := S5.ext E6
    have E36 := E3.trans E6
    have d6 : H6 D' = some (.lst vs) := E36.same _ _ dD
    have nf6 : ¬ F6 D' := fun f => by
     rcases E36.new _ f with f | ⟨f, _⟩
     ·exact nf f
     ·rw [dD] at f; cases f
    cases b with
    | false =>
     simp only [Bool.false_eq_true, if_false] at ec ⊢
     exact ⟨xs.length - (i + 1), by lia, F6, ρ3, vs, don, rst, rfl, hlt, E2.trans E36, T2.trans E36.stay, S6, pl3, d6, nf6, rd.stay E36.stay, ec, eo, fun b o nb e => E36.same _ _ (kp2 b o nb e)⟩
    | true =>
     simp only [if_true] at ec ⊢
     obtain ⟨yd, e5, ec⟩ := bnd ec
     obtain ⟨r', e6, ec⟩ := bnd ec
     cases ec
     refine ⟨F6, H1, ρ3, yd, S6, e5, fun F7 H7 yv E7 R7 => ?_⟩
     have E37 := E36.trans E7
     have d7 : H7 D' = some (.lst vs) := E37.same _ _ dD
     have nf7 : ¬ F7 D' := fun f => by
      rcases E37.new _ f with f | ⟨f, _⟩
      ·exact nf f
      ·rw [dD] at f; cases f
     have T8 : Stay X.K F7 F7 H7 (upd H7 D' (.lst (vs ++ [yv]))) := stay_upd d7 nf7
     have S7 := S6.ext E7
     have E8 : Ext F1 F7 H1 (upd H7 D' (.lst (vs ++ [yv]))) := (E2.trans E37).turn hD
     have ll : vs.length < 1000 := by
      have h1 := rd.length
      have h2 := congrArg List.length eo
      rw [List.length_append, List.length_cons] at h2
      lia
     refine ⟨vs, d7, small1000 (Nat.le_of_lt ll), xs.length - (i + 1), by lia, F7, ρ3, vs ++ [yv], don ++ [yd], r', rfl, hlt, E8, (T2.trans E37.stay).trans T8, S7.plain pl3 T8 (E8.fz S1.fz), pl3, upd_same, nf7, ?_, e6, by rw [List.append_assoc]; exact eo, fun b o nb e => ?_⟩
     ·exact ((rd.stay E37.stay).append (.cons R7 .nil)).stay T8
     ·rw [upd_ne nb]; exact E37.same _ _ (kp2 b o nb e)
   ·left
    have hge : xs.length <= i := Nat.le_of_not_lt hlt
    refine ⟨it2 hge, ?_⟩
    rw [List.drop_eq_nil_of_le hge] at ec
    cases ec
    rw [List.append_nil] at eo
    subst eo
    have hH : H D' = none := E1.same.free hD
    have EE : Ext F F2 H H' := E1.trans E2
    exact fin F2 H' D' vs EE (E1.stay.trans T2) hH dD nf rd (S.ext EE)
 ·rw [if_neg hl] at q; cases q
theorem de_comp (hc : X.calm = true) (CS : CompScope X N' scope inner) (kp : KeepsPlain s) (hi : DI X tg iter gi) (hg : ∀ cl C fp s' H, DG (inCx X N' scope cl C fp s' H) tg s) (ht : ∀ cl C fp s' H, DTs (inCx X N' scope cl C fp s' H) ifs t) (he : ∀ cl C fp s' H, DE (inCx X N' scope cl C fp s' H) elt ge)
  (hs : ∀ x, foldedSetIterable iter X.env x = pure x := by intro _; rfl) : DE X (.ListComp elt [⟨tg, iter, ifs, 0⟩] scope pos) (eLc (eComp gi s t ge inner)) :=
 pe_mono (pe_comp (g := tDG X.K s) (ti := tDT X.K t) (te := tD X.K ge) hc CS hi (fun cl C fp s' H => hg cl C fp s' H) (fun cl C fp s' H => ht cl C fp s' H) (fun cl C fp s' H => he cl C fp s' H) hs) fun σ H Q zz => by
  obtain ⟨F, H₀, ρ, d, S, q, k⟩ := zz
  obtain ⟨out, e1, q⟩ := bnd q
  cases q
  refine comp_data kp S e1 fun F' H' D' vs E' T' h1 h2 h3 h4 h5 => ?_
  refine k (fun a => F' a ∨ a = D') H' _ ⟨E'.same, fun a f => .inl (E'.up a f), fun a f => ?_⟩ (.lst (.inl ⟨.inr rfl, .inl h2⟩) (h4.stay ⟨fun _ f => .inl f, fun _ _ f => f, fun _ _ _ f => f, fun _ _ _ f => f⟩))
  rcases f with f | rfl
  ·exact E'.new a f
  ·exact .inr ⟨h1, by rw [h2]; simp⟩
end
end DL
namespace SD
open PySem PySem.Spec PySem.SeqAt PyProof.Rows L2 DL SG
theorem lex_irrefl : ∀ a : List Int, HT.lexLt a a = false
 | [] => rfl
 | x :: xs => by rw [HT.lexLt_cons, if_pos rfl]; exact lex_irrefl xs
theorem lex_trans : ∀ a b c : List Int, HT.lexLt a b = true -> HT.lexLt b c = true -> HT.lexLt a c = true
 | [], b, [], h1, h2 => by cases b with | nil => cases h1 | cons _ _ => cases h2
 | [], _, _ :: _, _, _ => rfl
 | _ :: _, [], _, h1, _ => by cases h1
 | _ :: _, _ :: _, [], _, h2 => by cases h2
 | x :: xs, y :: ys, z :: zs, h1, h2 => by
  rw [HT.lexLt_cons] at h1 h2 ⊢
  by_cases c1 : x = y
  ·subst c1
   rw [if_pos rfl] at h1
   by_cases c2 : x = z
   ·subst c2
    rw [if_pos rfl] at h2 ⊢
    exact lex_trans xs ys zs h1 h2
   ·rw [if_neg c2] at h2 ⊢; exact h2
  ·rw [if_neg c1] at h1
   have g1 : x < y := of_decide_eq_true h1
   by_cases c2 : y = z
   ·subst c2
    rw [if_neg c1]; exact decide_eq_true g1
   ·rw [if_neg c2] at h2
    have g2 : y < z := of_decide_eq_true h2
    rw [if_neg (by lia)]
    exact decide_eq_true (by lia)
theorem lex_total : ∀ a b : List Int, HT.lexLt a b = false -> HT.lexLt b a = false -> a = b
 | [], [], _, _ => rfl
 | [], _ :: _, h1, _ => by cases h1
 | _ :: _, [], _, h2 => by cases h2
 | x :: xs, y :: ys, h1, h2 => by
  rw [HT.lexLt_cons] at h1 h2
  by_cases c : x = y
  ·subst c
   rw [if_pos rfl] at h1 h2
   rw [lex_total xs ys h1 h2]
  ·rw [if_neg c] at h1
   rw [if_neg (Ne.symm c)] at h2
   have g1 : ¬ x < y := of_decide_eq_false h1
   have g2 : ¬ y < x := of_decide_eq_false h2
   lia
theorem lex_neg (a b c : List Int) (h : HT.lexLt a c = true) : HT.lexLt a b = true ∨ HT.lexLt b c = true := by
 cases e1 : HT.lexLt a b with
 | true => exact .inl rfl
 | false =>
  right
  cases e2 : HT.lexLt b a with
  | false => rw [<- lex_total a b e1 e2]; exact h
  | true => exact lex_trans b a c e2 h
theorem lex_app : ∀ (a b c d : List Int), a.length = b.length -> HT.lexLt (a ++ c) (b ++ d) = if a = b then HT.lexLt c d else HT.lexLt a b
 | [], [], c, d, _ => by simp
 | [], _ :: _, _, _, h => by simp at h
 | _ :: _, [], _, _, h => by simp at h
 | x :: xs, y :: ys, c, d, h => by
  rw [List.cons_append, List.cons_append, HT.lexLt_cons]
  have ih := lex_app xs ys c d (by simpa using h)
  by_cases e : x = y
  ·subst e
   rw [if_pos rfl, ih, HT.lexLt_cons, if_pos rfl]
   simp
  ·rw [if_neg e, if_neg (by simp [e]), HT.lexLt_cons, if_neg e]
noncomputable def keyT (tab : List (Value × List Int)) : PyProof.Rows.KeyKind where
 α := List Int
 blt := HT.lexLt
 irrefl := lex_irrefl
 trans := lex_trans
 negTrans := lex_neg
 total := lex_total
 keyOf := fun v => tab.lookup v
 dflt := []
noncomputable def likeE : D -> D -> Bool
 | .int _, .int _ => true
 | .tuple xs, .tuple ys => decide (xs.length = ys.length)
 | _, _ => false
noncomputable def likeEs : List D -> List D -> Bool
 | [], [] => true
 | x :: xs, y :: ys => likeE x y && likeEs xs ys
 | _, _ => false
noncomputable def flatE : D -> Option (List Int)
 | .int i => some [i]
 | .tuple ds => intsD ds
 | _ => none
noncomputable def flatEs : List D -> Option (List Int)
 | [] => some []
 | d :: ds => (flatE d).bind fun a => (flatEs ds).bind fun b => some (a ++ b)
theorem likeE_join {d x y : D} (h1 : likeE d x = true) (h2 : likeE d y = true) : likeE x y = true := by
 cases d with
 | int i =>
  cases x with
  | int _ => cases y with
   | int _ => rfl
   | _ => cases h2
  | _ => cases h1
 | tuple ds =>
  cases x with
  | tuple xs => cases y with
   | tuple ys =>
    have a : ds.length = xs.length := of_decide_eq_true h1
    have b : ds.length = ys.length := of_decide_eq_true h2
    exact decide_eq_true (a.symm.trans b)
   | _ => cases h2
  | _ => cases h1
 | _ => cases x <;> cases h1
theorem likeEs_join : ∀ {d x y : List D}, likeEs d x = true -> likeEs d y = true -> likeEs x y = true
 | [], [], [], _, _ => rfl
 | [], [], _ :: _, _, h => by cases h
 | [], _ :: _, _, h, _ => by cases h
 | _ :: _, [], _, h, _ => by cases h
 | _ :: _, _ :: _, [], _, h => by cases h
 | d :: ds, x :: xs, y :: ys, h1, h2 => by
  have a := Bool.and_eq_true_iff.mp h1
  have b := Bool.and_eq_true_iff.mp h2
  exact Bool.and_eq_true_iff.mpr ⟨likeE_join a.1 b.1, likeEs_join a.2 b.2⟩
theorem ints_eqv : ∀ {xs ys : List D} {a b : List Int}, intsD xs = some a -> intsD ys = some b -> PyData.eqvAll xs ys = decide (a = b)
 | [], [], _, _, h1, h2 => by cases h1; cases h2; rfl
 | [], .int _ :: _, _, _, h1, h2 => by
  cases h1
  obtain ⟨_, _, h2⟩ := bnd h2
  cases h2
  simp [PyData.eqvAll]
 | .int _ :: _, [], _, _, h1, h2 => by
  cases h2
  obtain ⟨_, _, h1⟩ := bnd h1
  cases h1
  simp [PyData.eqvAll]
 | .int i :: xs, .int j :: ys, _, _, h1, h2 => by
  obtain ⟨a, e1, h1⟩ := bnd h1
  obtain ⟨b, e2, h2⟩ := bnd h2
  cases h1; cases h2
  rw [PyData.eqvAll, ints_eqv e1 e2]
  simp [PyData.eqv]
  by_cases c : i = j <;> simp [c]
 | .none :: _, _, _, _, h1, _ => by cases h1
 | .bool _ :: _, _, _, _, h1, _ => by cases h1
 | .str _ :: _, _, _, _, h1, _ => by cases h1
 | .list _ :: _, _, _, _, h1, _ => by cases h1
 | .tuple _ :: _, _, _, _, h1, _ => by cases h1
 | .dict _ :: _, _, _, _, h1, _ => by cases h1
 | _, .none :: _, _, _, _, h2 => by cases h2
 | _, .bool _ :: _, _, _, _, h2 => by cases h2
 | _, .str _ :: _, _, _, _, h2 => by cases h2
 | _, .list _ :: _, _, _, _, h2 => by cases h2
 | _, .tuple _ :: _, _, _, _, h2 => by cases h2
 | _, .dict _ :: _, _, _, _, h2 => by cases h2
theorem ints_lay : ∀ {xs : List D} {a : List Int}, intsD xs = some a -> PyData.canLayAll0 xs = true /\ PyData.depthAll xs = 0 /\ xs.length = a.length /\ xs = a.map PyData.int
 | [], _, h => by cases h; exact ⟨rfl, rfl, rfl, rfl⟩
 | .int i :: xs, _, h => by
  obtain ⟨a, e, h⟩ := bnd h
  cases h
  obtain ⟨h1, h2, h3, h4⟩ := ints_lay e
  exact ⟨by simp [PyData.canLayAll0, PyData.canLay0, h1], by simp [PyData.depthAll, PyData.depth, h2], by simp [h3], by rw [h4]; rfl⟩
 | .none :: _, _, h => by cases h
 | .bool _ :: _, _, h => by cases h
 | .str _ :: _, _, h => by cases h
 | .list _ :: _, _, h => by cases h
 | .tuple _ :: _, _, h => by cases h
 | .dict _ :: _, _, h => by cases h
theorem ints_are {h : Heap} : ∀ {xs : List D} {a : List Int} {us : List Value} {as : List Addr}, intsD xs = some a -> ReadsAll h us xs as -> IntsAre us a
 | [], _, _, _, e, r => by cases e; cases r; exact .nil
 | .int i :: xs, _, _, _, e, r => by
  obtain ⟨a, e1, e⟩ := bnd e
  cases e
  cases r with
  | cons r1 r2 =>
   cases r1
   exact .cons i _ (ints_are e1 r2)
 | .none :: _, _, _, _, h, _ => by cases h
 | .bool _ :: _, _, _, _, h, _ => by cases h
 | .str _ :: _, _, _, _, h, _ => by cases h
 | .list _ :: _, _, _, _, h, _ => by cases h
 | .tuple _ :: _, _, _, _, h, _ => by cases h
 | .dict _ :: _, _, _, _, h, _ => by cases h
section
variable {prog : Program} {w : World} {A : Around} {E : Value -> Shared -> Prop} {s : Shared}
theorem flat_len {x y : D} {a b : List Int} (l : likeE x y = true) (fx : flatE x = some a) (fy : flatE y = some b) : a.length = b.length := by
 cases x with
 | int i => cases y with
  | int j => cases fx; cases fy; rfl
  | _ => cases l
 | tuple xs => cases y with
  | tuple ys =>
   have e : xs.length = ys.length := of_decide_eq_true l
   rw [<- (ints_lay (show intsD xs = some a from fx)).2.2.1, <- (ints_lay (show intsD ys = some b from fy)).2.2.1, e]
  | _ => cases l
 | _ => cases y <;> cases l
theorem el_eq {x y : D} {p q : Value} {a b : List Int} {as bs : List Addr} (hu : A.units + 64 < cLine) (rp : Reads s.heap p x as) (rq : Reads s.heap q y bs) (l : likeE x y = true) (fx : flatE x = some a) (fy : flatE y = some b) : EqAt A s p q (decide (a = b)) := by
 cases x with
 | int i => cases y with
  | int j =>
   cases fx; cases fy
   cases rp with
   | int _ t => cases rq with
    | int _ u =>
     have := EqAt.int_int (A := A) (s := s) i t j u
     have e : (i == j) = decide ([i] = [j]) := by
      by_cases c : i = j
      ·subst c; simp
      ·simp [c]
     rw [<- e]; exact this
  | _ => cases l
 | tuple xs => cases y with
  | tuple ys =>
   have e1 : intsD xs = some a := fx
   have e2 : intsD ys = some b := fy
   obtain ⟨c1, d1, _, _⟩ := ints_lay e1
   obtain ⟨c2, d2, _, _⟩ := ints_lay e2
   have := eqAt_reads (.tuple xs) (.tuple ys) A s p q as bs rp rq c1 c2 (by show A.units + min (PyData.depthAll xs + 1) (PyData.depthAll ys + 1) < cLine; rw [d1, d2]; lia)
   have e : PyData.eqv (.tuple xs) (.tuple ys) = decide (a = b) := by rw [PyData.eqv]; exact ints_eqv e1 e2
   rw [e] at this
   exact this
  | _ => cases l
 | _ => cases y <;> cases l
theorem truth_bool {b : Bool} {Q : Bool -> Shared -> Prop} (h : Q b s) : wpAny (model prog w) A (truthOfDropped (.bool b)) Q E s := by
 unfold truthOfDropped
 exact wpAny_truthy_bool h
theorem el_lt {x y : D} {p q : Value} {a b : List Int} {as bs : List Addr} {f : Bool} {Q : Bool -> Shared -> Prop} (hu : A.units + 64 < cLine) (rp : Reads s.heap p x as) (rq : Reads s.heap q y bs) (l : likeE x y = true) (fx : flatE x = some a) (fy : flatE y = some b)
  (hf : f = true -> ∃ i, x = .int i) (k : Q (HT.lexLt a b) s) (ne : a ≠ b) : wpAny (model prog w) A (oneLt' f p q) Q E s := by
 cases x with
 | int i => cases y with
  | int j =>
   cases fx; cases fy; cases rp; cases rq
   have e : HT.lexLt [i] [j] = decide (i < j) := by
    rw [HT.lexLt_cons, if_neg (by intro z; exact ne (by rw [z]))]
   rw [e] at k
   cases f with
   | true => exact oneLt_int k
   | false =>
    rw [oneLt'_eq]
    simp only [Bool.false_eq_true, if_false]
    refine wpAny_bind (HT.rcLt_int A s i _ j _ prog w E _ (truth_bool k))
  | _ => cases l
 | tuple xs =>
  cases f with
  | true => obtain ⟨i, hi⟩ := hf rfl; cases hi
  | false => cases y with
   | tuple ys =>
    have e1 : intsD xs = some a := fx
    have e2 : intsD ys = some b := fy
    cases rp with
    | tuple h1 h2 h3 h4 => cases rq with
     | tuple g1 g2 g3 g4 =>
      rw [oneLt'_eq]
      simp only [Bool.false_eq_true, if_false]
      exact wpAny_bind (HT.lt_tupInts ⟨_, h1, h2, _, h3⟩ ⟨_, g1, g2, _, g3⟩ (ints_are e1 h4) (ints_are e2 g4) (by lia) (truth_bool k))
   | _ => cases l
 | _ => cases y <;> cases l
theorem row_lex {b : Bool} {fin : Bool} {Q : Bool -> Shared -> Prop} (hu : A.units + 64 < cLine) : ∀ {xs ys : List D} {a c : List Int} {us vs : List Value} {as bs : List Addr} (i : Nat), likeEs xs ys = true -> flatEs xs = some a -> flatEs ys = some c -> ReadsAll s.heap us xs as -> ReadsAll s.heap vs ys bs ->
  (b = true -> i = 0 -> ∀ x r, xs = x :: r -> ∃ n, x = .int n) -> (a = c -> Q fin s) -> (a ≠ c -> Q (HT.lexLt a c) s) -> PySem.W.KatLex prog w A b fin Q (us.zip vs) i s
 | [], [], _, _, _, _, _, _, i, _, f1, f2, r1, r2, _, k1, k2 => by
  cases f1; cases f2; cases r1; cases r2
  exact PySem.W.kat_nil (k1 rfl)
 | [], _ :: _, _, _, _, _, _, _, _, l, _, _, _, _, _, _, _ => by cases l
 | _ :: _, [], _, _, _, _, _, _, _, l, _, _, _, _, _, _, _ => by cases l
 | x :: xs, y :: ys, _, _, _, _, _, _, i, l, f1, f2, r1, r2, hb, k1, k2 => by
  obtain ⟨a1, e1, f1⟩ := bnd f1
  obtain ⟨a2, e2, f1⟩ := bnd f1
  cases f1
  obtain ⟨c1, e3, f2⟩ := bnd f2
  obtain ⟨c2, e4, f2⟩ := bnd f2
  cases f2
  obtain ⟨l1, l2⟩ := Bool.and_eq_true_iff.mp l
  have hlen := flat_len l1 e1 e3
  cases r1 with
  | cons p1 p2 => cases r2 with
   | cons q1 q2 =>
    rw [List.zip_cons_cons]
    refine PySem.W.kat_cons (el_eq hu p1 q1 l1 e1 e3 prog w _ _ ?_)
    by_cases c : a1 = c1
    ·rw [decide_eq_true c]
     subst c
     refine PySem.W.kat_yes (row_lex hu (i + 1) l2 e2 e4 p2 q2 (fun _ h => by lia) (fun e => k1 (by rw [e])) fun e => ?_)
     have := k2 (fun z => e (List.append_cancel_left z))
     rw [lex_app _ _ _ _ rfl, if_pos rfl] at this
     exact this
    ·rw [decide_eq_false c]
     refine PySem.W.kat_no (el_lt hu p1 q1 l1 e1 e3 (fun hf => ?_) ?_ c)
     ·obtain ⟨g1, g2⟩ := Bool.and_eq_true_iff.mp hf
      exact hb g1 (by simpa using g2) x xs rfl
     ·have ne : a1 ++ a2 ≠ c1 ++ c2 := fun z => c (List.append_inj_left z hlen)
      have := k2 ne
      rw [lex_app _ _ _ _ hlen, if_neg c] at this
      exact this
theorem mapM_wp {α : Type} {f : Value -> Sem α} {g : Value -> α} : ∀ {vs : List Value} {Q : List α -> Shared -> Prop}, (∀ v ∈ vs, ∀ (R : α -> Shared -> Prop), R (g v) s -> wpAny (model prog w) A (f v) R E s) -> Q (vs.map g) s -> wpAny (model prog w) A (vs.mapM f) Q E s
 | [], _, _, k => by rw [List.mapM_nil]; exact wpAny_pure k
 | v :: vs, Q, h, k => by
  rw [List.mapM_cons]
  refine wpAny_bind (h v List.mem_cons_self _ (wpAny_bind (mapM_wp (fun u hu => h u (List.mem_cons_of_mem _ hu)) (wpAny_pure k))))
noncomputable def isInt : D -> Bool
 | .int _ => true
 | _ => false
noncomputable def firstV (h : Heap) : Value -> Option Value
 | .ref a => match h.get? a with
  | some o => match o.data with
   | .seq xs _ => xs[0]?
   | _ => none
  | none => none
 | _ => none
noncomputable def tyE : Value -> Value
 | .ref _ => .type "tuple"
 | _ => .type "int"
theorem first_eq (v : Value) : firstOfTuple' v = (typeOf v >>= fun t => if (t != .type "tuple") = true then pure none else Builtin.List.listItems v >>= fun xs => pure xs[0]?) := by
 unfold firstOfTuple'
 rfl
theorem kind_rows {vs : List Value} {bi : Bool} {d : D} (hd : isInt d = bi) (hR : ∀ v ∈ vs, ∃ x xs as, Reads s.heap v (.tuple (x :: xs)) as /\ likeE d x = true) (hne : vs ≠ []) :
  wpAny (model prog w) A (keyKind' vs.toArray) (fun q s' => q = tuples' bi /\ s' = s) E s := by
 rw [keyKind'_eq, List.mapM_toArray, map_eq_pure_bind]
 refine wpAny_bind (wpAny_bind (mapM_wp (g := fun v => firstV s.heap v) (fun v hv R hR' => ?_) (wpAny_pure ?_)))
 ·obtain ⟨x, xs, as, r, _⟩ := hR v hv
  cases r with
  | @tuple a o us n _ _ h1 h2 h3 h4 =>
   rw [first_eq]
   refine wpAny_bind (wpAny_typeOf (T := "tuple") ⟨o, h1, h2⟩ ?_)
   have e : (Value.type "tuple" != Value.type "tuple") = false := by simp
   rw [if_neg (by rw [e]; simp)]
   refine wpAny_bind (listItems_at h1 h3 (wpAny_pure ?_))
   have e2 : firstV s.heap (.ref a) = us[0]? := by
    show (match s.heap.get? a with | some o => (match o.data with | .seq xs _ => xs[0]? | _ => none) | none => none) = us[0]?
    rw [h1]
    show (match o.data with | .seq xs _ => xs[0]? | _ => none) = us[0]?
    rw [h3]
   rw [e2] at hR'
   exact hR'
 ·have fst : ∀ v ∈ vs, ∃ u x as, firstV s.heap v = some u /\ Reads s.heap u x as /\ likeE d x = true := fun v hv => by
   obtain ⟨x, xs, as, r, l⟩ := hR v hv
   cases r with
   | @tuple a o us n _ _ h1 h2 h3 h4 =>
    have e2 : firstV s.heap (.ref a) = us[0]? := by
     show (match s.heap.get? a with | some o => (match o.data with | .seq xs _ => xs[0]? | _ => none) | none => none) = us[0]?
     rw [h1]
     show (match o.data with | .seq xs _ => xs[0]? | _ => none) = us[0]?
     rw [h3]
    generalize hl : us.toList = ul at h4
    cases h4 with
    | @cons u vs' _ _ as' bs' r1 r2 =>
     refine ⟨u, x, as', ?_, r1, l⟩
     rw [e2, <- Array.getElem?_toList, hl]
     rfl
  have ty : ∀ u x as, Reads s.heap u x as -> likeE d x = true -> tyE u = (if bi = true then .type "int" else .type "tuple") /\ ∀ (R : Value -> Shared -> Prop), R (tyE u) s -> wpAny (model prog w) A (typeOf u) R E s := fun u x as r l => by
   cases d with
   | int i =>
    cases x with
    | int j => cases r; cases hd; exact ⟨rfl, fun R k => wpAny_typeOf (T := "int") (typeIs_int s _ _) k⟩
    | _ => cases l
   | tuple ds =>
    cases x with
    | tuple xs =>
     cases r with
     | tuple h1 h2 h3 h4 => cases hd; exact ⟨rfl, fun R k => wpAny_typeOf (T := "tuple") ⟨_, h1, h2⟩ k⟩
    | _ => cases l
   | _ => cases x <;> cases l
  have all : ((vs.map fun v => firstV s.heap v).toArray.all fun x => x.isSome) = true := by
   rw [List.all_toArray, List.all_map, List.all_eq_true]
   intro v hv
   obtain ⟨u, x, as, e, _⟩ := fst v hv
   simp [e]
  rw [if_pos all]
  refine wpAny_bind (wpAny_rule (wpAny_bind ?_))
  rw [oneTypeOnly'_eq]
  have ef : ((vs.map fun v => firstV s.heap v).toArray.filterMap id) = (vs.filterMap fun v => firstV s.heap v).toArray := by
   rw [List.filterMap_toArray, List.filterMap_map]
   rfl
  rw [ef, List.mapM_toArray, map_eq_pure_bind]
  have mem : ∀ u ∈ vs.filterMap (fun v => firstV s.heap v), ∃ x as, Reads s.heap u x as /\ likeE d x = true := fun u hu => by
   obtain ⟨v, hv, e⟩ := List.mem_filterMap.mp hu
   obtain ⟨u', x, as, e', r, l⟩ := fst v hv
   rw [e] at e'; cases e'
   exact ⟨x, as, r, l⟩
  refine wpAny_bind (wpAny_bind (mapM_wp (g := tyE) (fun u hu R k => ?_) (wpAny_pure ?_)))
  ·obtain ⟨x, as, r, l⟩ := mem u hu
   exact (ty u x as r l).2 R k
  ·obtain ⟨v0, vs', rfl⟩ : ∃ v0 vs', vs = v0 :: vs' := by
    cases vs with
    | nil => exact absurd rfl hne
    | cons a b => exact ⟨a, b, rfl⟩
   obtain ⟨u0, x0, as0, e0, r0, l0⟩ := fst v0 List.mem_cons_self
   have em : ∀ t ∈ ((v0 :: vs').filterMap (fun v => firstV s.heap v)).map tyE, t = (if bi = true then .type "int" else .type "tuple") := fun t ht => by
    obtain ⟨u, hu, rfl⟩ := List.mem_map.mp ht
    obtain ⟨x, as, r, l⟩ := mem u hu
    exact (ty u x as r l).1
   have e1 : (((v0 :: vs').filterMap (fun v => firstV s.heap v)).map tyE).toArray[0]? = some (if bi = true then .type "int" else .type "tuple") := by
    rw [List.filterMap_cons, e0]
    simp only [List.map_cons]
    rw [(ty u0 x0 as0 r0 l0).1]
    rfl
   rw [e1]
   have e2 : ((((v0 :: vs').filterMap (fun v => firstV s.heap v)).map tyE).toArray.all fun x => x == (if bi = true then .type "int" else .type "tuple")) = true := by
    rw [List.all_toArray, List.all_eq_true]
    intro t ht
    rw [em t ht]
    simp
   dsimp only
   rw [if_pos e2]
   refine wpAny_pure (wpAny_pure ⟨?_, rfl⟩)
   cases bi <;> rfl
end
end SD
namespace SD
open PySem PySem.Spec PySem.SeqAt PyProof.Rows L2 DL SG
abbrev KD := List Int × D
noncomputable def rowK (d0 : List D) : D -> Option (List Int)
 | .tuple (x :: xs) => if likeEs d0 (x :: xs) = true then flatEs (x :: xs) else none
 | _ => none
noncomputable def rowsK (d0 : List D) : List D -> Option (List KD)
 | [] => some []
 | d :: ds => (rowK d0 d).bind fun k => (rowsK d0 ds).bind fun r => some ((k, d) :: r)
noncomputable def insK (p : KD) : List KD -> List KD
 | [] => [p]
 | q :: r => if HT.lexLt q.1 p.1 = true then q :: insK p r else p :: q :: r
noncomputable def sortK : List KD -> List KD
 | [] => []
 | p :: r => insK p (sortK r)
noncomputable def dSorted : List D -> Option D
 | [.list []] => some (.list [])
 | [.list (.tuple d0 :: ds)] => if ds.length < 63 then (rowsK d0 (.tuple d0 :: ds)).bind fun l => some (.list ((sortK l).map (·.2))) else none
 | _ => none
noncomputable def Le (p q : KD) : Prop := HT.lexLt q.1 p.1 = false
theorem Le.trans {p q r : KD} (a : Le p q) (b : Le q r) : Le p r := by
 unfold Le at *
 cases e : HT.lexLt r.1 p.1 with
 | false => rfl
 | true =>
  rcases lex_neg _ q.1 _ e with h | h
  ·rw [b] at h; cases h
  ·rw [a] at h; cases h
theorem ins_perm (p : KD) : ∀ l : List KD, (insK p l).Perm (p :: l)
 | [] => .refl _
 | q :: r => by
  unfold insK
  split
  ·exact ((ins_perm p r).cons q).trans (.swap p q r)
  ·exact .refl _
theorem sort_perm : ∀ l : List KD, (sortK l).Perm l
 | [] => .refl _
 | p :: r => (ins_perm p (sortK r)).trans ((sort_perm r).cons p)
theorem ins_sorted (p : KD) : ∀ l : List KD, l.Pairwise Le -> (insK p l).Pairwise Le
 | [], _ => by simp [insK]
 | q :: r, h => by
  obtain ⟨h1, h2⟩ := List.pairwise_cons.mp h
  unfold insK
  split
  ·rename_i c
   refine List.pairwise_cons.mpr ⟨fun z hz => ?_, ins_sorted p r h2⟩
   rcases List.mem_cons.mp ((ins_perm p r).mem_iff.mp hz) with e | e
   ·subst e
    unfold Le
    cases e2 : HT.lexLt z.1 q.1 with
    | false => rfl
    | true => have := lex_trans _ _ _ c e2; rw [lex_irrefl] at this; cases this
   ·exact h1 z e
  ·rename_i c
   have pq : Le p q := by simpa [Le] using c
   refine List.pairwise_cons.mpr ⟨fun z hz => ?_, h⟩
   rcases List.mem_cons.mp hz with e | e
   ·rw [e]; exact pq
   ·exact pq.trans (h1 z e)
theorem sort_sorted : ∀ l : List KD, (sortK l).Pairwise Le
 | [] => .nil
 | p :: r => ins_sorted p _ (sort_sorted r)
theorem sort_unique : ∀ {a b : List KD}, a.Perm b -> a.Pairwise Le -> b.Pairwise Le -> (∀ p ∈ a, ∀ q ∈ a, p.1 = q.1 -> p = q) -> a = b
 | [], b, h, _, _, _ => h.nil_eq
 | x :: r, [], h, _, _, _ => absurd h.length_eq (by simp)
 | x :: r, y :: t, h, ha, hb, inj => by
  have hy : y ∈ x :: r := h.mem_iff.mpr List.mem_cons_self
  have hx : x ∈ y :: t := h.mem_iff.mp List.mem_cons_self
  have e : x = y := by
   refine inj x List.mem_cons_self y hy (lex_total _ _ ?_ ?_)
   ·rcases List.mem_cons.mp hx with c | c
    ·rw [c]; exact lex_irrefl _
    ·exact (List.pairwise_cons.mp hb).1 x c
   ·rcases List.mem_cons.mp hy with c | c
    ·rw [c]; exact lex_irrefl _
    ·exact (List.pairwise_cons.mp ha).1 y c
  subst e
  rw [sort_unique h.cons_inv (List.pairwise_cons.mp ha).2 (List.pairwise_cons.mp hb).2 fun p hp q hq => inj p (List.mem_cons_of_mem _ hp) q (List.mem_cons_of_mem _ hq)]
theorem perm_back {α β : Type} {f : α -> β} {a b : List β} (h : a.Perm b) : ∀ l : List α, l.map f = a -> ∃ l' : List α, l'.Perm l /\ l'.map f = b := by
 induction h with
 | nil => intro l e; exact ⟨l, .refl _, e⟩
 | cons x _ ih =>
  intro l e
  cases l with
  | nil => cases e
  | cons y l =>
   rw [List.map_cons] at e
   injection e with e1 e2
   obtain ⟨l', p, q⟩ := ih l e2
   exact ⟨y :: l', p.cons y, by rw [List.map_cons, e1, q]⟩
 | swap x y r =>
  intro l e
  match l, e with
  | a :: b :: l, e =>
   rw [List.map_cons, List.map_cons] at e
   injection e with e1 e2
   injection e2 with e2 e3
   exact ⟨b :: a :: l, .swap a b l, by rw [List.map_cons, List.map_cons, e1, e2, e3]⟩
 | trans _ _ ih1 ih2 =>
  intro l e
  obtain ⟨l1, p1, q1⟩ := ih1 l e
  obtain ⟨l2, p2, q2⟩ := ih2 l1 q1
  exact ⟨l2, p2.trans p1, q2⟩
theorem flat_inj : ∀ {xs ys : List D} {a : List Int}, likeEs xs ys = true -> flatEs xs = some a -> flatEs ys = some a -> xs = ys
 | [], [], _, _, _, _ => rfl
 | [], _ :: _, _, l, _, _ => by cases l
 | _ :: _, [], _, l, _, _ => by cases l
 | x :: xs, y :: ys, a, l, f1, f2 => by
  obtain ⟨a1, e1, f1⟩ := bnd f1
  obtain ⟨a2, e2, f1⟩ := bnd f1
  obtain ⟨c1, e3, f2⟩ := bnd f2
  obtain ⟨c2, e4, f2⟩ := bnd f2
  obtain ⟨l1, l2⟩ := Bool.and_eq_true_iff.mp l
  have hl := flat_len l1 e1 e3
  have ee : a1 ++ a2 = c1 ++ c2 := (Option.some.inj f1).trans (Option.some.inj f2).symm
  obtain ⟨g1, g2⟩ := List.append_inj ee hl
  subst g1 g2
  rw [flat_inj l2 e2 e4]
  congr 1
  cases x with
  | int i => cases y with
   | int j => cases e1; cases e3; rfl
   | _ => cases l1
  | tuple us => cases y with
   | tuple vs => rw [(ints_lay (show intsD us = some a1 from e1)).2.2.2, (ints_lay (show intsD vs = some a1 from e3)).2.2.2]
   | _ => cases l1
  | _ => cases y <;> cases l1
theorem flat_lay : ∀ {xs : List D} {a : List Int}, flatEs xs = some a -> PyData.canLayAll0 xs = true
 | [], _, _ => rfl
 | x :: xs, a, f => by
  obtain ⟨a1, e1, f⟩ := bnd f
  obtain ⟨a2, e2, f⟩ := bnd f
  have h2 := flat_lay e2
  have h1 : PyData.canLay0 x = true := by
   cases x with
   | int i => rfl
   | tuple us => exact (ints_lay (show intsD us = some a1 from e1)).1
   | _ => cases e1
  simp [PyData.canLayAll0, h1, h2]
theorem row_some {d0 : List D} {d : D} {k : List Int} (h : rowK d0 d = some k) : ∃ x xs, d = .tuple (x :: xs) /\ likeEs d0 (x :: xs) = true /\ flatEs (x :: xs) = some k := by
 cases d with
 | tuple ds =>
  cases ds with
  | nil => cases h
  | cons x xs =>
   have h' : (if likeEs d0 (x :: xs) = true then flatEs (x :: xs) else none) = some k := h
   by_cases c : likeEs d0 (x :: xs) = true
   ·rw [if_pos c] at h'; exact ⟨x, xs, rfl, c, h'⟩
   ·rw [if_neg c] at h'; cases h'
 | _ => cases h
theorem row_inj {d0 : List D} {d e : D} {k : List Int} (h1 : rowK d0 d = some k) (h2 : rowK d0 e = some k) : d = e := by
 obtain ⟨x, xs, rfl, l1, f1⟩ := row_some h1
 obtain ⟨y, ys, rfl, l2, f2⟩ := row_some h2
 rw [flat_inj (likeEs_join l1 l2) f1 f2]
theorem rows_spec {d0 : List D} : ∀ {ds : List D} {l : List KD}, rowsK d0 ds = some l -> l.map (·.2) = ds /\ ∀ p ∈ l, rowK d0 p.2 = some p.1
 | [], _, h => by cases h; exact ⟨rfl, fun p hp => nomatch hp⟩
 | d :: ds, _, h => by
  obtain ⟨k, e1, h⟩ := bnd h
  obtain ⟨r, e2, h⟩ := bnd h
  cases h
  obtain ⟨h1, h2⟩ := rows_spec e2
  refine ⟨by rw [List.map_cons, h1], fun p hp => ?_⟩
  rcases List.mem_cons.mp hp with e | e
  ·rw [e]; exact e1
  ·exact h2 p e
abbrev Tr := KD × V × Value
section
variable {X : Cx} {pins : List (Addr × Obj)} {σ : L2.St} {H : Hp} {s : Shared} {F : Addr -> Prop}
theorem trips {K : PySem.W.Frag} : ∀ {l : List KD} {vs : List V} {us : List Value}, Reps K F H (l.map (·.2)) vs -> L2.Vals vs us -> ∃ T : List Tr, T.map (·.1) = l /\ T.map (·.2.1) = vs /\ T.map (·.2.2) = us /\ ∀ t ∈ T, Rep K F H t.1.2 t.2.1 /\ L2.RelV t.2.1 t.2.2
 | [], _, _, r, v => by cases r; cases v; exact ⟨[], rfl, rfl, rfl, fun t ht => nomatch ht⟩
 | p :: l, _, _, r, v => by
  cases r with
  | cons r1 r2 => cases v with
   | cons v1 v2 =>
    obtain ⟨T, h1, h2, h3, h4⟩ := trips (l := l) r2 v2
    refine ⟨(p, _, _) :: T, by rw [List.map_cons, h1], by rw [List.map_cons, h2], by rw [List.map_cons, h3], fun t ht => ?_⟩
    rcases List.mem_cons.mp ht with e | e
    ·rw [e]; exact ⟨r1, v1⟩
    ·exact h4 t e
theorem trips_reps {K : PySem.W.Frag} : ∀ {T : List Tr}, (∀ t ∈ T, Rep K F H t.1.2 t.2.1 /\ L2.RelV t.2.1 t.2.2) -> Reps K F H (T.map (·.1.2)) (T.map (·.2.1)) /\ L2.Vals (T.map (·.2.1)) (T.map (·.2.2))
 | [], _ => ⟨.nil, .nil⟩
 | t :: T, h => by
  obtain ⟨h1, h2⟩ := h t List.mem_cons_self
  obtain ⟨g1, g2⟩ := trips_reps fun u hu => h u (List.mem_cons_of_mem _ hu)
  exact ⟨.cons h1 g1, .cons h2 g2⟩
theorem tab_look : ∀ {T : List Tr} {v : Value} {k : List Int}, (T.map fun t => (t.2.2, t.1.1)).lookup v = some k -> ∃ t ∈ T, t.2.2 = v /\ t.1.1 = k
 | [], _, _, h => by cases h
 | t :: T, v, k, h => by
  rw [List.map_cons, List.lookup_cons] at h
  cases e : v == t.2.2 with
  | true => rw [e] at h; cases h; exact ⟨t, List.mem_cons_self, (eq_of_beq e).symm, rfl⟩
  | false =>
   rw [e] at h
   obtain ⟨u, hu, h1, h2⟩ := tab_look h
   exact ⟨u, List.mem_cons_of_mem _ hu, h1, h2⟩
theorem tab_has : ∀ {T : List Tr} {t : Tr}, t ∈ T -> ∃ k, (T.map fun t => (t.2.2, t.1.1)).lookup t.2.2 = some k := by
 intro T
 induction T with
 | nil => intro t h; cases h
 | cons u T ih =>
  intro t h
  rw [List.map_cons, List.lookup_cons]
  cases e : t.2.2 == u.2.2 with
  | true => exact ⟨_, rfl⟩
  | false =>
   rcases List.mem_cons.mp h with z | z
   ·rw [z, beq_self_eq_true] at e; cases e
   ·exact ih z
theorem sorted_tail {d0 : List D} {its : List Value} {ds : List D} {vs : List V} {l : List KD} {Q : VK} (hu : X.A.units + 66 < cLine) (I : L2.Inv X pins σ H s) (rv : L2.Vals vs its) (r : Reps X.K F H ds vs) (hk : rowsK d0 ds = some l) (h64 : ds.length < 64)
  (k : ∀ p vs', H p = none -> Reps X.K F H ((sortK l).map (·.2)) vs' -> vs'.length <= 1000 -> Q (.ref p) (upd H p (.lst vs'))) : wpAny (model X.prog X.w) X.A.in1 (newList its >>= fun l => holding [l] (call (.builtin "list.sort") [l] []) >>= fun _ => ret l) (fun fin s' => ∃ v, fin = .done (.ret v) /\ EP X pins σ Q v s') X.xe s := by
 obtain ⟨em, hrow⟩ := rows_spec hk
 obtain ⟨T, t1, t2, t3, t4⟩ := trips (K := X.K) (F := F) (H := H) (l := l) (by rw [em]; exact r) rv
 have rowT : ∀ t ∈ T, rowK d0 t.1.2 = some t.1.1 := fun t ht => hrow t.1 (by rw [<- t1]; exact List.mem_map_of_mem ht)
 have l64 : its.length < 64 := by rw [<- rv.length, <- r.length]; exact h64
 have all : KeysOf (keyT (T.map fun t => (t.2.2, t.1.1))) (pairsOf its) := fun p hp => by
  rw [pairsOf_toList] at hp
  have : p.1 ∈ its := (List.of_mem_zip hp).1
  rw [<- t3] at this
  obtain ⟨t, ht, e⟩ := List.mem_map.mp this
  rw [<- e]
  exact tab_has ht
 have rd : ∀ t ∈ T, ∀ h' : Heap, (∀ b o, s.heap.get? b = some o -> h'.get? b = some o) -> ∃ as, Reads h' t.2.2 t.1.2 as := fun t ht h' hk' => by
  obtain ⟨y, ys, y1, _, y2⟩ := row_some (rowT t ht)
  obtain ⟨as, z⟩ := (t4 t ht).1.reads I (by rw [y1]; exact flat_lay y2) (t4 t ht).2
  exact ⟨as, Reads.keeps hk' z⟩
 have same : ∀ t ∈ T, ∀ u ∈ T, t.2.2 = u.2.2 -> t.1.1 = u.1.1 := fun t ht u hu' e => by
  obtain ⟨as, z1⟩ := rd t ht s.heap fun _ _ q => q
  obtain ⟨bs, z2⟩ := rd u hu' s.heap fun _ _ q => q
  obtain ⟨x, xs, e1, _, f1⟩ := row_some (rowT t ht)
  rw [e] at z1
  have e2 : t.1.2 = u.1.2 := Reads.unique t.1.2 u.1.2 u.2.2 as bs (by rw [e1]; exact flat_lay f1) z1 z2
  have h1 := rowT t ht
  have h2 := rowT u hu'
  rw [e2, h2] at h1
  exact (Option.some.inj h1).symm
 refine wpAny_bind (wpAny_newList ?_ (hsz := ?_))
 rotate_left
 ·exact line1000 (by lia)
 show wpAny _ _ _ _ _ { s with heap := s.heap.push (seqObj "list" its.toArray 0) }
 have hL : (s.heap.push (seqObj "list" its.toArray 0)).get? s.heap.objs.size = some (seqObj "list" its.toArray 0) := Heap.get?_push_size _ rfl
 have kp : ∀ h' : Heap, (∀ b o, b ≠ s.heap.objs.size -> (s.heap.push (seqObj "list" its.toArray 0)).get? b = some o -> h'.get? b = some o) -> ∀ b o, s.heap.get? b = some o -> h'.get? b = some o := fun h' hk' b o e =>
  hk' b o (Nat.ne_of_lt (Heap.lt_size e)) (Heap.get?_push_of_some _ e)
 refine wpAny_bind (wpAny_holding (wpAny_call_entry slot_list_sort ⟨_, hL, rfl⟩ entry_list_sort (sort_at (κ := keyT (T.map fun t => (t.2.2, t.1.1))) (kd := tuples' (isInt (d0.headD .none))) hL all l64 (fun h' hk' h2 => ?_) (fun h' hk' => ?_) fun z' p1 p2 => ⟨_, rfl, wpAny_pure ⟨_, rfl, ?_⟩⟩) (args_list_sort _)))
 ·-- the kind of the keys
  refine kind_rows (s := { s with heap := h' }) (d := d0.headD .none) rfl (fun v hv => ?_) (fun e => by rw [e] at h2; simp at h2)
  rw [<- t3] at hv
  obtain ⟨t, ht, e⟩ := List.mem_map.mp hv
  obtain ⟨x, xs, e1, l1, f1⟩ := row_some (rowT t ht)
  obtain ⟨as, z⟩ := rd t ht h' (kp h' hk')
  rw [e1] at z
  refine ⟨x, xs, as, by rw [<- e]; exact z, ?_⟩
  cases d0 with
  | nil => cases l1
  | cons y ys => exact (Bool.and_eq_true_iff.mp l1).1
 ·-- what a comparison answers
  intro x y ka kb E' Q' h1 h2 hQ'
  obtain ⟨t, ht, e1, g1⟩ := tab_look h1
  obtain ⟨u, hu', e2, g2⟩ := tab_look h2
  obtain ⟨x1, xs1, e3, l1, f1⟩ := row_some (rowT t ht)
  obtain ⟨y1, ys1, e4, l2, f2⟩ := row_some (rowT u hu')
  obtain ⟨as, z1⟩ := rd t ht h' (kp h' hk')
  obtain ⟨bs, z2⟩ := rd u hu' h' (kp h' hk')
  rw [e3, e1] at z1
  rw [e4, e2] at z2
  rw [g1] at f1
  rw [g2] at f2
  cases z1 with
  | @tuple ax ox us n _ _ q1 q2 q3 q4 => cases z2 with
   | @tuple ay oy ws m _ _ w1 w2 w3 w4 =>
    have ll : us.size = ws.size := by
     have a1 := ReadsAll.length _ _ _ q4
     have a2 := ReadsAll.length _ _ _ w4
     have a3 : ∀ (p q : List D), likeEs p q = true -> p.length = q.length := by
      intro p
      induction p with
      | nil => intro q hq'; cases q with
       | nil => rfl
       | cons _ _ => cases hq'
      | cons p0 p ih => intro q hq'; cases q with
       | nil => cases hq'
       | cons q0 q => simp [ih q (Bool.and_eq_true_iff.mp hq').2]
     have a4 := a3 _ _ (likeEs_join l1 l2)
     rw [Array.length_toList] at a1 a2
     lia
    have ef : decide (us.size < ws.size) = false := by rw [ll]; simp
    refine PySem.W.kat_lt (s := { s with heap := h' }) q1 q3 w1 w3 ?_
    rw [ef]
    refine row_lex (s := { s with heap := h' }) (show X.A.in1.in1.units + 64 < cLine by show X.A.units + 1 + 1 + 64 < cLine; lia) 0 (likeEs_join l1 l2) f1 f2 q4 w4 (fun hb _ z r' ez => ?_) (fun e => ?_) fun _ => hQ'
    ·cases ez
     cases d0 with
     | nil => cases l1
     | cons y0 ys0 =>
      have l3 := (Bool.and_eq_true_iff.mp l1).1
      cases y0 with
      | int n => cases x1 with
       | int m => exact ⟨m, rfl⟩
       | _ => cases l3
      | _ => cases hb
    ·have e5 : HT.lexLt ka kb = false := by rw [e]; exact lex_irrefl _
     have : (keyT (T.map fun t => (t.2.2, t.1.1))).blt ka kb = false := e5
     rw [this] at hQ'
     exact hQ'
 ·-- the list behind
  have pm : (((arrOf z').map (·.2)).toList).Perm its := by
   have h1 := Array.perm_iff_toList_perm.mp p1
   have h2 := h1.map (·.2)
   rw [pairsOf_toList] at h2
   rw [Array.toList_map]
   have h3 : (its.zip its).map (·.2) = its := by
    rw [List.map_snd_zip]
    exact Nat.le_refl _
   rw [h3] at h2
   exact h2
  obtain ⟨T', q1, q2⟩ := perm_back pm.symm T t3
  have memT : ∀ t ∈ T', t ∈ T := fun t ht => q1.mem_iff.mp ht
  obtain ⟨g1, g2⟩ := trips_reps (K := X.K) (F := F) (H := H) (T := T') fun t ht => t4 t (memT t ht)
  have lT : T'.length = its.length := by rw [q1.length_eq, <- t3, List.length_map]
  have ord : (T'.map (·.1)).Pairwise Le := by
   rw [List.pairwise_map, List.pairwise_iff_getElem]
   intro i j hi hj hij
   have sz' : (arrOf z').size = T'.length := by
    rw [p1.size_eq, pairsOf_size, lT]
   have key : ∀ m (hm : m < T'.length), KK (keyT (T.map fun t => (t.2.2, t.1.1))) (arrOf z') m = T'[m].1.1 := fun m hm => by
    have hm' : m < (arrOf z').size := by rw [sz']; exact hm
    have e1 : (arrOf z')[m]? = some (arrOf z')[m] := getElem?_pos _ m hm'
    have e2 : (arrOf z')[m] ∈ (pairsOf its).toList := (Array.perm_iff_toList_perm.mp p1).mem_iff.mp (by simp)
    rw [pairsOf_toList] at e2
    have e3 : (arrOf z')[m].1 = (arrOf z')[m].2 := by
     obtain ⟨n, hn, en⟩ := List.getElem_of_mem e2
     rw [List.getElem_zip] at en
     rw [<- en]
    have e4 : (arrOf z')[m].2 = T'[m].2.2 := by
     have := congrArg (fun (l : List Value) => l[m]?) q2
     simp only [List.getElem?_map, Array.toList_map, Array.getElem?_toList, e1] at this
     rw [List.getElem?_eq_getElem hm] at this
     exact (Option.some.inj this).symm
    unfold KK
    rw [e1]
    show ((keyT (T.map fun t => (t.2.2, t.1.1))).keyOf (arrOf z')[m].1).getD [] = _
    rw [e3, e4]
    obtain ⟨kx, hkx⟩ := tab_has (memT T'[m] (List.getElem_mem hm))
    obtain ⟨t, ht, e5, e6⟩ := tab_look hkx
    show ((T.map fun t => (t.2.2, t.1.1)).lookup T'[m].2.2).getD [] = _
    rw [hkx]
    show kx = _
    rw [<- e6]
    exact same t ht _ (memT _ (List.getElem_mem hm)) e5
   have := p2 i j (Nat.le_of_lt hij) (by rw [pairsOf_size, <- lT]; exact hj)
   rw [key i hi, key j hj] at this
   exact this
  have uni : T'.map (·.1) = sortK l := by
   refine sort_unique (((q1.map (·.1)).trans (.of_eq t1)).trans (sort_perm l).symm) ord (sort_sorted l) fun p hp q hq' e => ?_
   obtain ⟨t, ht, rfl⟩ := List.mem_map.mp hp
   obtain ⟨u, hu', rfl⟩ := List.mem_map.mp hq'
   have h1 := rowT t (memT t ht)
   have h2 := rowT u (memT u hu')
   rw [e] at h1
   exact Prod.ext e (row_inj h1 h2)
  have eD : (sortK l).map (·.2) = T'.map (·.1.2) := by rw [<- uni, List.map_map]; rfl
  have fresh : H s.heap.objs.size = none := I.hok.fresh (Nat.le_refl _)
  obtain ⟨ep, hat⟩ := sortedHeap_at (out := (arrOf z').map (·.2)) hL
  have old : ∀ b o, s.heap.get? b = some o -> (sortedHeap (s.heap.push (seqObj "list" its.toArray 0)) s.heap.objs.size its ((arrOf z').map (·.2))).get? b = some o := fun b o e => by
   have lt := Heap.lt_size e
   rw [sortedHeap_old (Nat.ne_of_lt lt) (by rw [size_push']; exact Nat.lt_succ_of_lt lt)]
   exact Heap.get?_push_of_some _ e
  have lv : (T'.map (·.2.1)).length <= 1000 := by rw [List.length_map, lT]; lia
  refine ⟨.ref s.heap.objs.size, _, I.laid (t' := s.toks) (o := .lst (T'.map (·.2.1))) old (Nat.le_refl _) ?_, rfl, k _ _ fresh (by rw [eD]; exact g1) lv⟩
  refine ⟨line1000 lv, T'.map (·.2.2), ep, g2, ?_⟩
  rw [hat, q2]
theorem sorted_rows {d0 : List D} {a : Addr} {ds : List D} {vs : List V} {l : List KD} {Q : VK} (hu : X.A.units + 66 < cLine) (I : L2.Inv X pins σ H s) (hq : SqL X.K H a vs) (r : Reps X.K F H ds vs) (hk : rowsK d0 ds = some l) (h64 : ds.length < 64)
  (k : ∀ p vs', H p = none -> Reps X.K F H ((sortK l).map (·.2)) vs' -> vs'.length <= 1000 -> Q (.ref p) (upd H p (.lst vs'))) : wpAny (model X.prog X.w) X.A (call (.builtin "sorted") [.ref a]) (EP X pins σ Q) X.xe s := by
 obtain ⟨its, rv, pl, hz⟩ := I.list hq
 refine Calls.call_function_entry kind_sorted plain_sorted entry_sorted (args_sorted1 _) ?_
 unfold Builtin.«sorted»
 refine wpAny_bind (m := checkCount "sorted" 1 1 _) (wpAny_pure (wpAny_bind (collect_list pl.isList ?_ (hsz := ?_))))
 ·refine sorted_tail hu (I.kept (h' := (s.heap.push (seqObj "list" #[] 0)).update s.heap.objs.size (Obj.mapSeq (· ++ its.toArray))) (t' := s.toks) fun b o e => ?_) rv r hk h64 k
  rw [Heap.get?_update_ne _ _ _ _ (Nat.ne_of_lt (Heap.lt_size e))]
  exact Heap.get?_push_of_some _ e
 ·rw [<- rv.length]; exact hz
end
end SD
namespace DL
open PySem PySem.Spec PyProof.Rows L2 SD
theorem cd_sorted {X : Cx} (hu : X.A.units + 66 < cLine) : CallR X (.builtin "sorted") (rDA X.K dSorted) := fun pins s σ H xs us Q I rx zz => by
 obtain ⟨F, ds, q, z, R, hq, k⟩ := zz
 unfold dSorted at hq
 split at hq
 ·cases hq
  cases R with
  | cons R1 R2 =>
   cases R2
   cases R1 with
   | @lst a vs _ h1 r1 =>
    obtain ⟨u, rfl, ru⟩ := vals1 rx
    cases ru
    exact sorted_rows (d0 := []) (l := []) hu I h1.sq r1 rfl (by simp) fun p vs' hp r' _ => k _ _ _ (Ext.frozen hp) (Rep.newLst hp r')
 ·rename_i d0 ds'
  by_cases c : ds'.length < 63
  ·rw [if_pos c] at hq
   obtain ⟨l, e1, hq⟩ := bnd hq
   cases hq
   cases R with
   | cons R1 R2 =>
    cases R2
    cases R1 with
    | @lst a vs _ h1 r1 =>
     obtain ⟨u, rfl, ru⟩ := vals1 rx
     cases ru
     exact sorted_rows (d0 := d0) hu I h1.sq r1 e1 (by simp; lia) fun p vs' hp r' _ => k _ _ _ (Ext.frozen hp) (Rep.newLst hp r')
  ·rw [if_neg c] at hq; cases hq
 ·cases hq
end DL
namespace ZL
open PySem PySem.Spec PyProof.Rows L2 DL
noncomputable def Itz (K : PySem.W.Frag) (a b : Addr) : It :=
 ⟨fun i H => ∃ xs ys x y, SqL K H a xs /\ SqL K H b ys /\ xs[i]? = some x /\ ys[i]? = some y,
  fun i H v H' => ∃ p, H p = none /\ v = .ref p /\ ∃ x y, H' = upd H p (.tup [x, y]) /\ (∀ xs, SqL K H a xs -> xs[i]? = some x) /\ ∀ ys, SqL K H b ys -> ys[i]? = some y,
  fun i H => ∃ xs ys, SqL K H a xs /\ SqL K H b ys /\ (xs.length <= i ∨ ys.length <= i)⟩
theorem zturn {X : Cx} {pins : List (Addr × Obj)} {σ : L2.St} {H H' : Hp} {s : Shared} {ch : List Addr} {h' : Heap} {tk : Nat} (I : L2.Inv X pins σ H s) (hf : ∀ b ∈ ch, FpOk X pins H b) (k : ∀ b o, b ∉ ch -> s.heap.get? b = some o -> h'.get? b = some o)
  (hH : ∀ b o, s.heap.get? b = some o -> H' b = H b) (hS : ∀ b o, H b = some o -> H' b = some o) (hok : HOk X.prog X.w H' h') : L2.Inv X pins σ H' { s with heap := h', toks := tk } := by
 refine I.step (g' := s.gens) (d' := s.drawn) (ch := ch) (fun b hb => ?_) (fun b o _ _ hc e _ => k b o hc e) (fun b o _ _ hc e _ => ⟨o.slots, k b o hc e⟩) (fun b o _ e n => by rw [hH b o e]; exact n)
  (fun b o hc e => ⟨o, k b o hc e⟩) (fun b xs e => hS _ _ e) (fun b o u e => hS _ _ e) (fun b ps e => ⟨#[], by rw [hS _ _ e]; simp⟩) (fun m hm => ?_) hok I.bare
 ·obtain ⟨_, f1, _, f3, f4, f5⟩ := hf b hb
  exact ⟨f3, f1, f4, f5⟩
 ·obtain ⟨o, es, ep, ho, r⟩ := hm
  exact ⟨o, es, ep, k _ o (fun z => (hf _ z).2.1 rfl) ho, r⟩
theorem turn_zip {P : Program} {w : World} {K : PySem.W.Frag} {elts : List Expr} {x1} {tpos : Pos} (a b z TI TO i1 i2 : Addr) (D : ZipApart z TI TO i1 i2 a b) :
  Turn P w K (.Tuple elts x1 tpos) (Itz K a b) [z, TI, TO, i1, i2] z (fun i h => IsZip h z TI TO .none /\ IsPair h TI (.ref i1) (.ref i2) /\ (∃ u v, IsPair h TO u v) /\ h.IsListIter i1 a i /\ h.IsListIter i2 b i) where
 mem := by simp
 obj := fun i h st c hc => by
  obtain ⟨h1, h2, ⟨u, v, h3⟩, ⟨o4, e4, _, d4⟩, ⟨o5, e5, _, d5⟩⟩ := st
  rcases List.mem_cons.mp hc with rfl | hc
  ·exact ⟨_, h1, fun v z => by have z' : Data.fields _ = Data.cell v := z; cases z'⟩
  rcases List.mem_cons.mp hc with rfl | hc
  ·exact ⟨_, h2, fun v z => by have z' : Data.seq _ _ = Data.cell v := z; cases z'⟩
  rcases List.mem_cons.mp hc with rfl | hc
  ·exact ⟨_, h3, fun v z => by have z' : Data.seq _ _ = Data.cell v := z; cases z'⟩
  rcases List.mem_cons.mp hc with rfl | hc
  ·exact ⟨o4, e4, fun v z => by rw [d4] at z; cases z⟩
  rcases List.mem_cons.mp hc with rfl | hc
  ·exact ⟨o5, e5, fun v z => by rw [d5] at z; cases z⟩
  cases hc
 keep := fun i h h' st k => by
  obtain ⟨h1, h2, ⟨u, v, h3⟩, h4, h5⟩ := st
  exact ⟨k z (by simp) _ h1, k TI (by simp) _ h2, ⟨u, v, k TO (by simp) _ h3⟩, h4.at fun o e => k i1 (by simp) o e, h5.at fun o e => k i2 (by simp) o e⟩
 item := by
  intro X hP hw hK hc i pins s σ H E I hf st hg
  subst hP hw hK
  obtain ⟨xs, ys, x, y, ha, hb, hx, hy⟩ := hg
  obtain ⟨h1, h2, ⟨u, v, h3⟩, h4, h5⟩ := st
  obtain ⟨its, rv, pl, _⟩ := I.list ha
  obtain ⟨jts, rw', pl2, _⟩ := I.list hb
  obtain ⟨xu, ex, rx⟩ := rv.get hx
  obtain ⟨yu, ey, ry⟩ := rw'.get hy
  refine wpAny_pyNext_zip_item D h1 h2 h3 h4 h5 pl.isList pl2.isList (x := xu) (y := yu) (by simpa using ex) (by simpa using ey) fun h' a1 a2 a3 a4 a5 a6 hk => ⟨_, rfl, ?_⟩
  refine wpAny_letOwnedTupleGo_zip (s := { s with heap := h' }) a1 fun h'' z1 sb => ?_
  have up : ∀ c o, c ≠ z -> h'.get? c = some o -> h''.get? c = some o := fun c o nc e => sb.extBut c o nc e
  have hn : H s.heap.objs.size = none := I.hok.fresh (Nat.le_refl _)
  have old : ∀ c o, s.heap.get? c = some o -> c ≠ s.heap.objs.size := fun c o e => Nat.ne_of_lt (Heap.lt_size e)
  have zT : s.heap.objs.size ≠ z := (old z _ h1).symm
  have kk : ∀ c o, c ∉ [z, TI, TO, i1, i2] -> s.heap.get? c = some o -> h''.get? c = some o := fun c o nc e =>
   up c o (fun q => nc (by simp [q])) (hk c o (fun q => nc (by simp [q])) (fun q => nc (by simp [q])) (fun q => nc (by simp [q])) (fun q => nc (by simp [q])) e)
  have nfp : ∀ c o, H c = some o -> c ∉ [z, TI, TO, i1, i2] := fun c o e hc' => by
   have := (hf c hc').1
   rw [this] at e; cases e
  have t2 : IsPair h'' TI (.ref i1) (.ref i2) := up _ _ D.TIz (hk _ _ D.TIz D.TITO D.TIi1 D.TIi2 h2)
  have t3 : IsPair h'' TO xu yu := up _ _ D.TOz a2
  have t4 : h''.IsListIter i1 a (i + 1) := a3.at fun o e => up _ o D.i1z e
  have t5 : h''.IsListIter i2 b (i + 1) := a4.at fun o e => up _ o D.i2z e
  have hok : HOk X.prog X.w (upd H s.heap.objs.size (.tup [x, y])) h'' := fun c o e => by
   by_cases hcT : c = s.heap.objs.size
   ·subst hcT
    rw [upd_same] at e; cases e
    exact ⟨line1000 (by simp), [xu, yu], .cons rx (.cons ry .nil), ⟨_, up _ _ zT a5, rfl, 0, rfl⟩⟩
   ·rw [upd_ne hcT] at e
    refine (I.hok c o e).stay (fun d v hd q => kk d v ?_ q) (fun d q => by rw [upd_ne (ne_of_none q hn)]; exact q) fun d xs q => by rw [upd_ne (ne_of_none q hn)]; exact q
    rcases hd with rfl | hd
    ·exact nfp _ _ e
    ·exact nfp _ _ hd
  refine ⟨.ref s.heap.objs.size, _, zturn (s := s) (h' := h'') (tk := s.toks) I hf kk (fun c o e => upd_ne (old c o e)) (fun c o e => by rw [upd_ne (ne_of_none e hn)]; exact e) hok, rfl, ⟨_, hn, rfl, x, y, rfl, fun xs' h' => by rw [I.list_inj h' ha]; exact hx, fun ys' h' => by rw [I.list_inj h' hb]; exact hy⟩, ⟨z1, t2, ⟨_, _, t3⟩, t4, t5⟩, fun c hc' => ?_⟩
  ·have e := (hf c hc').1
   have nT : c ≠ s.heap.objs.size := by
    rcases List.mem_cons.mp hc' with rfl | hc'
    ·exact old _ _ h1
    rcases List.mem_cons.mp hc' with rfl | hc'
    ·exact old _ _ h2
    rcases List.mem_cons.mp hc' with rfl | hc'
    ·exact old _ _ h3
    rcases List.mem_cons.mp hc' with rfl | hc'
    ·obtain ⟨_, e', _⟩ := h4; exact old _ _ e'
    rcases List.mem_cons.mp hc' with rfl | hc'
    ·obtain ⟨_, e', _⟩ := h5; exact old _ _ e'
    cases hc'
   rw [upd_ne nT]; exact e
 done := by
  intro X hP hw hK hc i pins s σ H E I hf st hg
  subst hP hw hK
  obtain ⟨xs, ys, ha, hb, hend⟩ := hg
  obtain ⟨h1, h2, ⟨u, v, h3⟩, h4, h5⟩ := st
  obtain ⟨its, rv, pl, _⟩ := I.list ha
  obtain ⟨jts, rw', pl2, _⟩ := I.list hb
  have l1 := rv.length
  have l2 := rw'.length
  refine wpAny_pyNext_zip_end (I.ok.hd hc) D h1 h2 h3 h4 h5 pl.isList pl2.isList (by
   rcases hend with hend | hend
   ·left; simp; lia
   ·right; simp; lia) fun h' hk => ⟨rfl, ?_⟩
  have kk : ∀ c o, c ∉ [z, TI, TO, i1, i2] -> s.heap.get? c = some o -> h'.get? c = some o := fun c o nc e =>
   hk c o (fun q => nc (by simp [q])) (fun q => nc (by simp [q])) (fun q => nc (by simp [q])) (fun q => nc (by simp [q])) e
  have nfp : ∀ c o, H c = some o -> c ∉ [z, TI, TO, i1, i2] := fun c o e hc' => by
   have := (hf c hc').1
   rw [this] at e; cases e
  refine zturn (s := s) (h' := h') (tk := s.toks) I hf kk (fun _ _ _ => rfl) (fun _ _ e => e) fun c o e => ?_
  refine (I.hok c o e).stay (fun d v hd q => kk d v ?_ q) (fun d q => q) fun d xs q => q
  rcases hd with rfl | hd
  ·exact nfp _ _ e
  ·exact nfp _ _ hd
 self := fun _ _ _ _ _ st h => wpAny_pyIter_zip st.1 h
theorem nne {x y : Nat} (h : x ≠ y) : @Ne Addr x y := h
theorem zapart {n a b : Nat} (la : a < n) (lb : b < n) : ZipApart (n + 4) (n + 2) (n + 3) n (n + 1) a b :=
 ⟨nne (by lia), nne (by lia), nne (by lia), nne (by lia), nne (by lia), nne (by lia), nne (by lia), nne (by lia), nne (by lia), nne (by lia), nne (by lia), nne (by lia), nne (by lia), nne (by lia), nne (by lia), nne (by lia), nne (by lia), nne (by lia)⟩
noncomputable def iZip (K : PySem.W.Frag) (ta : TA) : TI := fun σ H R => ta σ H fun vs H1 => ∃ a b, vs = [.ref a, .ref b] /\ (∃ xs, SqL K H1 a xs) /\ (∃ ys, SqL K H1 b ys) /\ R (Itz K a b) H1
theorem pi_zip {X : Cx} {elts : List Expr} {x1} {tpos : Pos} {a b : Expr} {ta : TA} {p pos : Pos} (hg : Gl X "zip") (hm : X.mg "zip" = none) (ha : PA X [a, b] ta) (hs : starEach [a, b] X.env = [(false, eval a X.env), (false, eval b X.env)] := by rfl) (hs2 : starEach [b] X.env = [(false, eval b X.env)] := by rfl) :
  PI X (.Tuple elts x1 tpos) (.Call (.Name "zip" p) [a, b] [] pos) (iZip X.K ta) := by
 intro pins s σ H R I h
 refine Call_ (ld_blt I hg hm boot_zip (PyProof.Rows.callWith_type1 (thn (ha pos pins s σ H _ I h) fun us s1 ⟨vs, H1, I1, r1, q1⟩ => ?_) (by rw [hs, hs2]) (by rw [hs2]; rfl)))
 obtain ⟨a', b', e, ⟨xs, hx⟩, ⟨ys, hy⟩, q⟩ := q1
 subst e
 cases r1 with
 | cons r rr =>
  cases rr with
  | cons r' rr =>
   cases rr
   cases r
   cases r'
   obtain ⟨its, rv, pl, _⟩ := I1.list hx
   obtain ⟨jts, rw', pl2, _⟩ := I1.list hy
   refine call_zip_2 pl.isList pl2.isList fun h' a1 a2 a3 a4 a5 a6 hk => ?_
   have I2 : L2.Inv X pins σ H1 { s1 with heap := h' } := I1.kept (t' := s1.toks) hk
   refine wpAny_pyIter_zip (s := { s1 with heap := h' }) a1 ?_
   have la : a' < s1.heap.objs.size := by obtain ⟨_, e, _⟩ := pl.isList; exact Heap.lt_size e
   have lb : b' < s1.heap.objs.size := by obtain ⟨_, e, _⟩ := pl2.isList; exact Heap.lt_size e
   refine ⟨_, [s1.heap.objs.size + 4, s1.heap.objs.size + 2, s1.heap.objs.size + 3, s1.heap.objs.size, s1.heap.objs.size + 1], _, _, H1, rfl, I2, turn_zip a' b' (s1.heap.objs.size + 4) (s1.heap.objs.size + 2) (s1.heap.objs.size + 3) s1.heap.objs.size (s1.heap.objs.size + 1) (zapart la lb), ⟨a1, a2, ⟨_, _, a3⟩, a4, a5⟩, fun c hc => ?_, q⟩
   have lc : s1.heap.objs.size <= c := by
    rcases List.mem_cons.mp hc with rfl | hc
    ·exact Nat.le_add_right _ _
    rcases List.mem_cons.mp hc with rfl | hc
    ·exact Nat.le_add_right _ _
    rcases List.mem_cons.mp hc with rfl | hc
    ·exact Nat.le_add_right _ _
    rcases List.mem_cons.mp hc with rfl | hc
    ·exact Nat.le_refl _
    rcases List.mem_cons.mp hc with rfl | hc
    ·exact Nat.le_add_right _ _
    cases hc
   exact I1.fpOk lc (I1.hok.fresh lc)
end ZL
namespace DL
open PySem PySem.Spec PyProof.Rows L2 ZL
noncomputable def zipD : List D -> Option (List D)
 | [.list xs, .list ys] => some (List.zipWith (fun x y => .tuple [x, y]) xs ys)
 | _ => none
theorem it_zip {K : PySem.W.Frag} {F : Addr -> Prop} {H : Hp} {a b : Addr} {vs us : List V} {ds es : List D} (h1 : FzL K F H a vs) (r1 : Reps K F H ds vs) (h2 : FzL K F H b us) (r2 : Reps K F H es us) : ItD K F H (List.zipWith (fun x y => .tuple [x, y]) ds es) (Itz K a b) := fun F2 H2 T z i => by
 have g1 := h1.stay T
 have g2 := h2.stay T
 have s1 := r1.stay T
 have s2 := r2.stay T
 refine ⟨fun d hd => ?_, fun hl => ⟨vs, us, g1.sq, g2.sq, ?_⟩⟩
 ·rw [List.getElem?_zipWith] at hd
  cases e1 : ds[i]? with
  | none => rw [e1] at hd; cases hd
  | some x =>
   cases e2 : es[i]? with
   | none => rw [e1, e2] at hd; cases hd
   | some y =>
    rw [e1, e2] at hd
    cases hd
    obtain ⟨v, e3, R1⟩ := s1.get e1
    obtain ⟨u, e4, R2⟩ := s2.get e2
    refine ⟨⟨vs, us, v, u, g1.sq, g2.sq, e3, e4⟩, fun w H3 yy => ?_⟩
    obtain ⟨p, hp, rfl, x', y', rfl, q1, q2⟩ := yy
    have q3 := q1 vs g1.sq
    have q4 := q2 us g2.sq
    rw [e3] at q3; cases q3
    rw [e4] at q4; cases q4
    exact ⟨F2, Ext.fresh hp, Rep.newTup hp (.cons R1 (.cons R2 .nil))⟩
 ·rw [List.length_zipWith] at hl
  rw [<- s1.length, <- s2.length]
  lia
theorem di_zip {X : Cx} {elts : List Expr} {x1} {tpos : Pos} {a b : Expr} {gr : Rho -> Option (List D)} {p pos : Pos} (hg : Gl X "zip") (hm : X.mg "zip" = none) (ha : DA X [a, b] gr) (hs : starEach [a, b] X.env = [(false, eval a X.env), (false, eval b X.env)] := by rfl) (hs2 : starEach [b] X.env = [(false, eval b X.env)] := by rfl) :
  DI X (.Tuple elts x1 tpos) (.Call (.Name "zip" p) [a, b] [] pos) (fun ρ => (gr ρ).bind zipD) :=
 pi_mono (pi_zip hg hm ha hs hs2) fun σ H R zz => by
  obtain ⟨F, H₀, ρ, ds, S, q, k⟩ := zz
  obtain ⟨xs, e1, q⟩ := bnd q
  unfold zipD at q
  split at q
  ·cases q
   refine ⟨F, H₀, ρ, _, S, e1, fun F1 H1 vs E1 R1 => ?_⟩
   cases R1 with
   | cons r rs =>
    cases r with
    | @lst a' vs' _ h1 r1 =>
     cases rs with
     | cons r rs =>
      cases r with
      | @lst b' us' _ h2 r2 =>
       cases rs
       exact ⟨a', b', rfl, ⟨_, h1.sq⟩, ⟨_, h2.sq⟩, k F1 H1 _ E1 (it_zip h1 r1 h2 r2)⟩
  ·cases q
end DL
namespace DL
open PySem PySem.Spec PySem.SeqAt PyProof.Rows L2 CL SD ZL
noncomputable def cutD (xs : List D) (lo hi : Option Int) : List D := (xs.drop (HT.sIx xs.length 0 lo)).take (HT.sIx xs.length xs.length hi - HT.sIx xs.length 0 lo)
noncomputable def tDO (K : PySem.W.Frag) (g : Rho -> Option (Option Int)) : TO := fun σ H Q => ∃ (F : Addr -> Prop) (H₀ : Hp) (ρ : Rho) (o : Option Int), StOk K F H H₀ σ ρ /\ g ρ = some o /\ ∀ F' H', Ext F F' H H' -> Q o H'
noncomputable def DO (X : Cx) (e : Option Expr) (g : Rho -> Option (Option Int)) : Prop := PO X e (tDO X.K g)
noncomputable def oNo : Rho -> Option (Option Int) := fun _ => some none
noncomputable def oE (g : Rho -> Option D) : Rho -> Option (Option Int) := fun ρ => (g ρ).bind fun d => (asI d).bind fun i => some (some i)
section
variable {X : Cx} {a b e : Expr} {ga : Rho -> Option D} {pos p p2 : Pos} {lo hi : Option Expr} {gl gh : Rho -> Option (Option Int)}
theorem po_mono {o : Option Expr} {t t' : TO} (h : PO X o t) (m : ∀ σ H Q, t' σ H Q -> t σ H Q) : PO X o t' := fun pins s σ H Q I q => h pins s σ H Q I (m σ H Q q)
theorem do_none : DO X none oNo := po_mono po_none fun σ H Q zz => by
 obtain ⟨F, H₀, ρ, o, S, q, k⟩ := zz
 cases q
 exact k F H (Ext.refl F H)
theorem do_some (h : DE X e ga) : DO X (some e) (oE ga) := po_mono (po_some h) fun σ H Q zz => by
 obtain ⟨F, H₀, ρ, o, S, q, k⟩ := zz
 obtain ⟨d, e1, q⟩ := bnd q
 obtain ⟨i, e2, q⟩ := bnd q
 cases q
 exact ⟨F, H₀, ρ, d, S, e1, fun F1 H1 v E1 R1 => ⟨i, rep_int R1 e2, k F1 H1 E1⟩⟩
theorem Reps.cut {K : PySem.W.Frag} {F : Addr -> Prop} {H : Hp} {ds : List D} {vs : List V} (r : Reps K F H ds vs) (lo hi : Option Int) : Reps K F H (cutD ds lo hi) (cutV vs lo hi) := by
 unfold cutD cutV
 rw [r.length]
 exact (r.drop _).take _
noncomputable def tyD : D -> String
 | .none => "NoneType"
 | .bool _ => "bool"
 | .int _ => "int"
 | .str _ => "str"
 | .list _ => "list"
 | .tuple _ => "tuple"
 | .dict _ => "dict"
noncomputable def isD (T : String) (d : D) : Bool := tyD d == T || (T == "int" && tyD d == "bool")
noncomputable def isDct : D -> Bool
 | .dict _ => true
 | _ => false
noncomputable def eIs (T : String) (ga : Rho -> Option D) : Rho -> Option D := fun ρ => (ga ρ).bind fun d => if isDct d = true then none else some (.bool (isD T d))
theorem kit_ok (K : PySem.W.Frag) (T : String) (hT : T = "list" ∨ T = "tuple" ∨ T = "int" ∨ T = "bool" ∨ T = "str" ∨ T = "dict") (d : D) : PySem.W.kitOne K (.type (tyD d)) (.type T) = some (isD T d) := by
 rcases hT with rfl | rfl | rfl | rfl | rfl | rfl <;> cases d <;> (first | rfl | (unfold PySem.W.kitOne; with_unfolding_all rfl) | decide +kernel)
theorem call_isT {T : String} (hT : T = "list" ∨ T = "tuple" ∨ T = "int" ∨ T = "bool" ∨ T = "str" ∨ T = "dict") : CallR X (.builtin "isinstance") (fun xs H Q => ∃ (F : Addr -> Prop) (d : D) (x : V), Rep X.K F H d x /\ isDct d = false /\ xs = [x, .ty T] /\ Q (.bl (isD T d)) H) := by
 intro pins s σ H xs us Q I rv h
 obtain ⟨F, d, x, R, nd, rfl, q⟩ := h
 obtain ⟨u, u2, rfl, ru, r2⟩ := vals2 rv
 cases (show u2 = Value.type T from r2)
 have ok := kit_ok X.K T hT d
 have fin : ∀ tk, EP X pins σ Q (.bool (isD T d)) { s with toks := tk } := fun tk => ⟨.bl _, H, I.tok tk, rfl, q⟩
 cases R with
 | non => cases (show u = Value.none from ru); exact PySem.W.kia_one PySem.W.kitx_none I.kIn True.intro ok (fun z => nomatch z) fin
 | dct _ _ _ _ _ => cases nd
 | exn _ _ _ => cases nd
 | bl b => cases (show u = Value.bool b from ru); exact PySem.W.kia_one PySem.W.kitx_bool I.kIn True.intro ok (fun z => nomatch z) fin
 | int i => obtain ⟨t, e⟩ := (show ∃ t, u = Value.int i t from ru); cases e; exact PySem.W.kia_one PySem.W.kitx_int I.kIn True.intro ok (fun z => nomatch z) fin
 | str y => obtain ⟨t, e⟩ := (show ∃ t, u = Value.str y t from ru); cases e; exact PySem.W.kia_one PySem.W.kitx_str I.kIn True.intro ok (fun z => nomatch z) fin
 | @tup a vs ds h1 r1 =>
  cases (show u = Value.ref a from ru)
  obtain ⟨its, _, ⟨o, g1, g2, _⟩, _⟩ := I.tuple h1
  exact PySem.W.kia_one PySem.W.kitx_tuple I.kIn ⟨o, g1, g2⟩ ok (fun z => nomatch z) fin
 | @lst a vs ds h1 r1 =>
  cases (show u = Value.ref a from ru)
  obtain ⟨its, _, ⟨o, n, g1, g2, _⟩, _⟩ := I.list h1.sq
  exact PySem.W.kia_one PySem.W.kitx_list I.kIn ⟨o, g1, g2⟩ ok (fun z => nomatch z) fin
theorem boot_isinst : bootBuiltins "isinstance" = some (.builtin "isinstance") := by decide +kernel
theorem de_isinst {T : String} {Tn : Str} {p' : Pos} (hT : T = "list" ∨ T = "tuple" ∨ T = "int" ∨ T = "bool" ∨ T = "str" ∨ T = "dict") (hg : Gl X "isinstance") (hm : X.mg "isinstance" = none) (hgT : Gl X Tn) (hmT : X.mg Tn = none) (hvT : bootBuiltins Tn = some (.type T)) (hn : Tn ≠ "__name__") (ha : DE X e ga)
  (hs : starEach [e, .Name Tn p'] X.env = (false, eval e X.env) :: starEach [.Name Tn p'] X.env := by rfl) (hs2 : starEach [.Name Tn p'] X.env = (false, eval (.Name Tn p') X.env) :: starEach [] X.env := by rfl) (hdb : (Tn == ("__debug__" : Str)) = false := by decide)
  (hpl : (backTo pos (starEach [.Name Tn p'] X.env)).any (·.1) = false := by rfl) : DE X (.Call (.Name "isinstance" p) [e, .Name Tn p'] [] pos) (eIs T ga) :=
 pe_mono (pe_callB (call_isT hT) hg hm boot_isinst (pa_cons ha (pa_cons (pe_bltn (v := .ty T) hgT hmT hvT rfl hn hdb) pa_nil hs2) hs) (he := hs) (hpl := hpl)) fun σ H Q zz => by
  obtain ⟨F, H₀, ρ, d, S, q, k⟩ := zz
  obtain ⟨x, e1, q⟩ := bnd q
  by_cases c : isDct x = true
  ·rw [if_pos c] at q; cases q
  ·rw [if_neg c] at q
   cases q
   exact ⟨F, H₀, ρ, x, S, e1, fun F1 H1 v E1 R1 => ⟨F1, x, v, R1, by simpa using c, rfl, k F1 H1 _ E1 (.bl _)⟩⟩
end
noncomputable def compOk (osc : Scope) (oN N' : List Str) (scope : Scope) (inner : List (Option Nat)) : Bool :=
 scope.kind == .function && scope.names.all (fun x => x.2 != .cell) && scope.names.all (fun x => x.2 != .local || scope.names.lookup x.1 == some .local) &&
 scope.names.all (fun x => x.2 != .free || (scope.names.lookup x.1 == some .free && (osc.names.lookup x.1 == some .cell || osc.names.lookup x.1 == some .free))) && inner.length == N'.length &&
 (List.range inner.length).all fun i => match inner[i]? with
  | some (some j) => match N'[i]? with
   | some x => oN[j]? == some x && scope.names.lookup x == some .free
   | none => false
  | _ => true
theorem compScope_mk {X : Cx} {N' : List Str} {scope : Scope} {inner : List (Option Nat)} (osc : Scope) (oN : List Str) (h1 : X.env.scope = osc) (h2 : X.N = oN) (h : compOk osc oN N' scope inner = true) : CompScope X N' scope inner := by
 unfold compOk at h
 simp only [Bool.and_eq_true] at h
 obtain ⟨⟨⟨⟨⟨a1, a2⟩, a3⟩, a4⟩, a5⟩, a6⟩ := h
 refine ⟨eq_of_beq a1, fun x hx e => ?_, fun x hx e => ?_, fun x hx e => ?_, eq_of_beq a5, fun i j e => ?_⟩
 ·have := List.all_eq_true.mp a2 x hx
  rw [e] at this; cases this
 ·have := List.all_eq_true.mp a3 x hx
  rw [e] at this
  rcases Bool.or_eq_true_iff.mp this with z | z
  ·cases z
  ·exact eq_of_beq z
 ·have := List.all_eq_true.mp a4 x hx
  rw [e] at this
  rcases Bool.or_eq_true_iff.mp this with z | z
  ·cases z
  ·obtain ⟨z1, z2⟩ := Bool.and_eq_true_iff.mp z
   refine ⟨eq_of_beq z1, ?_⟩
   rw [h1]
   rcases Bool.or_eq_true_iff.mp z2 with z | z
   ·exact .inl (eq_of_beq z)
   ·exact .inr (eq_of_beq z)
 ·have hi : i < inner.length := (List.getElem?_eq_some_iff.mp e).1
  have := List.all_eq_true.mp a6 i (List.mem_range.mpr hi)
  rw [e] at this
  dsimp only at this
  split at this
  ·rename_i x e2
   obtain ⟨z1, z2⟩ := Bool.and_eq_true_iff.mp this
   exact ⟨x, e2, by rw [h2]; exact eq_of_beq z1, eq_of_beq z2⟩
  ·cases this
theorem u64 {k : Nat} {A : Around} (r : Room k A) : A.units + 64 < cLine := by have := r.un; lia
theorem u65 {k : Nat} {A : Around} (r : Room k A) : A.units + 65 < cLine := by have := r.un; lia
theorem u66 {k : Nat} {A : Around} (r : Room k A) : A.units + 66 < cLine := by have := r.un; lia
noncomputable def spLaw (K : PySem.W.Frag) (G : List D -> Option D) : Sp := fun vs H Q E => ∃ (a : Addr) (ns : List Int), vs = [.ref a] /\ SqL K H a (ns.map V.int) /\ ns.length <= 63 /\ ∀ H', Q (.bl true) H'
theorem ints_reps {K : PySem.W.Frag} {F : Addr -> Prop} {H : Hp} : ∀ ns : List Int, Reps K F H (ns.map PyData.int) (ns.map V.int)
 | [] => .nil
 | n :: ns => .cons (.int n) (ints_reps ns)
theorem law_D {P : Program} {w : World} {K : PySem.W.Frag} {mg : Str -> Option Value} {base : Heap} {CX : CXT} {k : Nat} {f : Addr} {fd : FuncData} {ps : List Str} {G : List D -> Option D} (F : FnOk P w K mg base CX k f fd ps (spD K 1 G))
  (h : ∀ ns : List Int, ns.length <= 63 -> G [.list (ns.map PyData.int)] = some (.bool true)) : FnOk P w K mg base CX k f fd ps (spLaw K G) :=
 F.imp fun vs H Q E zz => by
  obtain ⟨a, ns, e, hq, hl, q⟩ := zz
  subst e
  refine ⟨fun b => H b ≠ none, [.list (ns.map PyData.int)], .bool true, rfl, fun _ z => z, .cons ?_ .nil, h ns hl, fun F' H' v E' R' => ?_⟩
  ·rcases hq with hq | hq
   ·refine .lst (.inl ⟨?_, hq⟩) (ints_reps ns)
    rcases hq with hq | ⟨o, hq⟩ <;> (rw [hq]; simp)
   ·exact .lst (.inr (.inr hq)) (ints_reps ns)
  ·cases R'
   exact q H'
theorem fn_D2 {P : Program} {w : World} {K : PySem.W.Frag} {mg : Str -> Option Value} {base : Heap} {x qual : Str} {st : Stmt} {f : Addr} {fd : FuncData} {N ps : List Str} {k n m : Nat} {g : Rho -> Option Out} {G : List D -> Option D} (hG : G = fnD m g) (hn : ps.length = n) (hm : N.length = m) (F : Fun K x qual st f fd) (S : FnScope N ps (defScope st))
  (hb : ∀ (cdv : Value) (A : Around) (outer : List Env) (s : Shared) (H : Hp) (E : XK), Room k (A.deeper (envOfC qual (defScope st) s.heap.objs.size f cdv)) ->
   DSs (cxOf CX0 P w K mg base N qual (defScope st) f cdv A outer s H E).nox (defBody st) g) : FnOk P w K mg base CX0 (k + 1) f fd ps (spD K n G) := by
 subst hn hm hG
 exact fn_D F S hb
end DL
namespace ST
open PySem PySem.SetTable
noncomputable def fI (M i : Nat) : Nat := (i * 5 + 1) % (M + 1)
noncomputable def itN (M : Nat) : Nat -> Nat -> Nat
 | 0, i => i
 | n + 1, i => itN M n (fI M i)
theorem itN_add (M : Nat) : ∀ a b i, itN M (a + b) i = itN M b (itN M a i)
 | 0, b, i => by rw [Nat.zero_add]; rfl
 | a + 1, b, i => by rw [Nat.succ_add]; exact itN_add M a b (fI M i)
noncomputable def logs : Nat -> List Nat
 | 7 => [0, 1, 6, 7, 4, 5, 2, 3]
 | 15 => [0, 1, 6, 15, 12, 13, 2, 11, 8, 9, 14, 7, 4, 5, 10, 3]
 | 31 => [0, 1, 6, 15, 28, 13, 2, 27, 24, 25, 30, 7, 20, 5, 26, 19, 16, 17, 22, 31, 12, 29, 18, 11, 8, 9, 14, 23, 4, 21, 10, 3]
 | 63 => [0, 1, 6, 47, 28, 45, 2, 59, 56, 25, 62, 7, 20, 5, 58, 19, 48, 49, 54, 31, 12, 29, 50, 43, 40, 9, 46, 55, 4, 53, 42, 3, 32, 33, 38, 15, 60, 13, 34, 27, 24, 57, 30, 39, 52, 37, 26, 51, 16, 17, 22, 63, 44, 61, 18, 11, 8, 41, 14, 23, 36, 21, 10, 35]
 | 255 => [0, 1, 70, 239, 156, 109, 2, 123, 120, 25, 254, 71, 148, 5, 58, 83, 240, 49, 182, 159, 140, 157, 114, 43, 104, 73, 110, 247, 132, 53, 170, 3, 224, 97, 38, 79, 124, 205, 226, 219, 88, 121, 222, 167, 116, 101, 26, 179, 208, 145, 150, 255, 108, 253, 82, 139, 72, 169, 78, 87, 100, 149, 138, 99, 192, 193, 6, 175, 92, 45, 194, 59, 56, 217, 190, 7, 84, 197, 250, 19, 176, 241, 118, 95, 76, 93, 50, 235, 40, 9, 46, 183, 68, 245, 106, 195, 160, 33, 230, 15, 60, 141, 162, 155, 24, 57, 158, 103, 52, 37, 218, 115, 144, 81, 86, 191, 44, 189, 18, 75, 8, 105, 14, 23, 36, 85, 74, 35, 128, 129, 198, 111, 28, 237, 130, 251, 248, 153, 126, 199, 20, 133, 186, 211, 112, 177, 54, 31, 12, 29, 242, 171, 232, 201, 238, 119, 4, 181, 42, 131, 96, 225, 166, 207, 252, 77, 98, 91, 216, 249, 94, 39, 244, 229, 154, 51, 80, 17, 22, 127, 236, 125, 210, 11, 200, 41, 206, 215, 228, 21, 10, 227, 64, 65, 134, 47, 220, 173, 66, 187, 184, 89, 62, 135, 212, 69, 122, 147, 48, 113, 246, 223, 204, 221, 178, 107, 168, 137, 174, 55, 196, 117, 234, 67, 32, 161, 102, 143, 188, 13, 34, 27, 152, 185, 30, 231, 180, 165, 90, 243, 16, 209, 214, 63, 172, 61, 146, 203, 136, 233, 142, 151, 164, 213, 202, 163]
 | _ => [0, 1, 70, 111, 28, 109, 2, 123, 120, 25, 126, 71, 20, 5, 58, 83, 112, 49, 54, 31, 12, 29, 114, 43, 104, 73, 110, 119, 4, 53, 42, 3, 96, 97, 38, 79, 124, 77, 98, 91, 88, 121, 94, 39, 116, 101, 26, 51, 80, 17, 22, 127, 108, 125, 82, 11, 72, 41, 78, 87, 100, 21, 10, 99, 64, 65, 6, 47, 92, 45, 66, 59, 56, 89, 62, 7, 84, 69, 122, 19, 48, 113, 118, 95, 76, 93, 50, 107, 40, 9, 46, 55, 68, 117, 106, 67, 32, 33, 102, 15, 60, 13, 34, 27, 24, 57, 30, 103, 52, 37, 90, 115, 16, 81, 86, 63, 44, 61, 18, 75, 8, 105, 14, 23, 36, 85, 74, 35]
noncomputable def cycOk (M : Nat) : Bool := (itN M (M + 1) 0 == 0) && (List.range (M + 1)).all fun j => decide ((logs M).getD j 0 <= M) && itN M ((logs M).getD j 0) 0 == j
theorem cyc7 : cycOk 7 = true := by decide +kernel
theorem cyc31 : cycOk 31 = true := by decide +kernel
theorem cyc127 : cycOk 127 = true := by decide +kernel
theorem cyc15 : cycOk 15 = true := by decide +kernel
theorem cyc63 : cycOk 63 = true := by decide +kernel
theorem cyc255 : cycOk 255 = true := by decide +kernel
noncomputable def Good (M : Nat) : Prop := M = 7 ∨ M = 31 ∨ M = 127 ∨ M = 15 ∨ M = 63 ∨ M = 255
theorem Good.cyc {M : Nat} (g : Good M) : cycOk M = true := by
 rcases g with rfl | rfl | rfl | rfl | rfl | rfl
 ·exact cyc7
 ·exact cyc31
 ·exact cyc127
 ·exact cyc15
 ·exact cyc63
 ·exact cyc255
theorem cyc0 {M : Nat} (g : Good M) : itN M (M + 1) 0 = 0 /\ ∀ j, j <= M -> ∃ k, k <= M /\ itN M k 0 = j := by
 have h := g.cyc
 unfold cycOk at h
 rw [Bool.and_eq_true, beq_iff_eq, List.all_eq_true] at h
 refine ⟨h.1, fun j hj => ?_⟩
 have := h.2 j (List.mem_range.mpr (by lia))
 rw [Bool.and_eq_true, beq_iff_eq, decide_eq_true_eq] at this
 exact ⟨_, this.1, this.2⟩
theorem cyc {M i j : Nat} (g : Good M) (hi : i <= M) (hj : j <= M) : ∃ k, k <= M /\ itN M k i = j := by
 obtain ⟨z, c⟩ := cyc0 g
 obtain ⟨m, hm, rfl⟩ := c i hi
 obtain ⟨n, hn, rfl⟩ := c j hj
 by_cases q : m <= n
 ·refine ⟨n - m, by lia, ?_⟩
  rw [<- itN_add]
  congr 1
  lia
 ·refine ⟨n + (M + 1) - m, by lia, ?_⟩
  rw [<- itN_add, show m + (n + (M + 1) - m) = (M + 1) + n by lia, itN_add, z]
noncomputable def adv (M : Nat) (p : Probe) : Probe :=
 if p.more > 0 then { p with j := p.j + 1, more := p.more - 1 } else
 { p with j := (leap M p.i p.perturb).1, more := runEnd M (leap M p.i p.perturb).1 - (leap M p.i p.perturb).1, i := (leap M p.i p.perturb).1, perturb := (leap M p.i p.perturb).2 }
noncomputable def run (M : Nat) (l : Nat × Nat) : Probe := { j := l.1, more := runEnd M l.1 - l.1, i := l.1, perturb := l.2, dummy := none }
noncomputable def L (M : Nat) (h : Int) : Nat -> Nat × Nat
 | 0 => (bits h % (M + 1), bits h)
 | k + 1 => leap M (L M h k).1 (L M h k).2
noncomputable def P (M : Nat) (h : Int) : Nat -> Probe
 | 0 => run M (L M h 0)
 | n + 1 => adv M (P M h n)
theorem L_le (M : Nat) (h : Int) : ∀ k, (L M h k).1 <= M
 | 0 => Nat.le_of_lt_succ (Nat.mod_lt _ (Nat.succ_pos _))
 | k + 1 => Nat.le_of_lt_succ (Nat.mod_lt _ (Nat.succ_pos _))
theorem runEnd_le {M i : Nat} (h : i <= M) : i <= runEnd M i /\ runEnd M i <= M /\ runEnd M i - i <= 9 := by
 unfold runEnd
 split <;> lia
theorem P_ok (M : Nat) (h : Int) : ∀ n, (P M h n).j + (P M h n).more <= M /\ (P M h n).dummy = none
 | 0 => by
  have := runEnd_le (L_le M h 0)
  show (L M h 0).1 + (runEnd M (L M h 0).1 - (L M h 0).1) <= M /\ none = none
  exact ⟨by lia, rfl⟩
 | n + 1 => by
  obtain ⟨h1, h2⟩ := P_ok M h n
  show (adv M (P M h n)).j + (adv M (P M h n)).more <= M /\ (adv M (P M h n)).dummy = none
  unfold adv
  split
  ·exact ⟨by show (P M h n).j + 1 + ((P M h n).more - 1) <= M; lia, h2⟩
  ·refine ⟨?_, h2⟩
   have : (leap M (P M h n).i (P M h n).perturb).1 <= M := Nat.le_of_lt_succ (Nat.mod_lt _ (Nat.succ_pos _))
   have := runEnd_le this
   show (leap M (P M h n).i (P M h n).perturb).1 + (runEnd M (leap M (P M h n).i (P M h n).perturb).1 - (leap M (P M h n).i (P M h n).perturb).1) <= M
   lia
theorem P_le (M : Nat) (h : Int) (n : Nat) : (P M h n).j <= M := by have := (P_ok M h n).1; lia
theorem P_run {M : Nat} {h : Int} {n k : Nat} (e : P M h n = run M (L M h k)) : ∀ d, d <= runEnd M (L M h k).1 - (L M h k).1 ->
  P M h (n + d) = { j := (L M h k).1 + d, more := runEnd M (L M h k).1 - (L M h k).1 - d, i := (L M h k).1, perturb := (L M h k).2, dummy := none }
 | 0, _ => e
 | d + 1, hd => by
  show adv M (P M h (n + d)) = _
  rw [P_run e d (by lia)]
  unfold adv
  rw [if_pos (show runEnd M (L M h k).1 - (L M h k).1 - d > 0 by lia)]
  rfl
theorem P_next {M : Nat} {h : Int} {n k : Nat} (e : P M h n = run M (L M h k)) : P M h (n + (runEnd M (L M h k).1 - (L M h k).1) + 1) = run M (L M h (k + 1)) := by
 show adv M (P M h (n + (runEnd M (L M h k).1 - (L M h k).1))) = _
 rw [P_run e _ (Nat.le_refl _)]
 unfold adv
 rw [if_neg (show ¬ runEnd M (L M h k).1 - (L M h k).1 - (runEnd M (L M h k).1 - (L M h k).1) > 0 by lia)]
 rfl
theorem P_at (M : Nat) (h : Int) : ∀ k, ∃ n, n <= 10 * k /\ P M h n = run M (L M h k)
 | 0 => ⟨0, Nat.le_refl _, rfl⟩
 | k + 1 => by
  obtain ⟨n, hn, e⟩ := P_at M h k
  have := runEnd_le (L_le M h k)
  exact ⟨_, by lia, P_next e⟩
theorem L_pert (M : Nat) (h : Int) : ∀ k, (L M h k).2 = bits h / 32 ^ k
 | 0 => by show bits h = _; rw [Nat.pow_zero, Nat.div_one]
 | k + 1 => by
  show (L M h k).2 / 32 = _
  rw [L_pert M h k, Nat.div_div_eq_div_mul, <- Nat.pow_succ]
theorem bits_lt (h : Int) : bits h < 36893488147419103232 := by
 unfold bits
 have : h % (2 ^ 64 : Int) < 2 ^ 64 := Int.emod_lt_of_pos _ (by decide)
 have h2 : (2 ^ 64 : Int) = 18446744073709551616 := by decide
 rw [h2] at this ⊢
 lia
theorem L_13 (M : Nat) (h : Int) : ∀ k, (L M h (13 + k)).2 = 0 /\ (L M h (13 + k)).1 = itN M k (L M h 13).1
 | 0 => by
  refine ⟨?_, rfl⟩
  rw [L_pert]
  exact Nat.div_eq_of_lt (bits_lt h)
 | k + 1 => by
  obtain ⟨h1, h2⟩ := L_13 M h k
  show (L M h (13 + k)).2 / 32 = 0 /\ ((L M h (13 + k)).1 * 5 + 1 + (L M h (13 + k)).2 / 32) % (M + 1) = itN M (k + 1) (L M h 13).1
  rw [h1, h2, itN_add]
  exact ⟨rfl, rfl⟩
theorem coverL {M : Nat} (g : Good M) (h : Int) {j : Nat} (hj : j <= M) : ∃ k, k < turns M /\ (L M h k).1 = j := by
 obtain ⟨k, hk, e⟩ := cyc g (L_le M h 13) hj
 exact ⟨13 + k, by unfold turns; lia, by rw [(L_13 M h k).2, e]⟩
theorem cover {M : Nat} (g : Good M) (h : Int) {j : Nat} (hj : j <= M) : ∃ n, n < 10 * turns M /\ (P M h n).j = j := by
 obtain ⟨k, hk, e⟩ := coverL g h hj
 obtain ⟨n, hn, q⟩ := P_at M h k
 exact ⟨n, by lia, by rw [q, <- e]; rfl⟩
end ST
namespace ST
open PySem PySem.SetTable
abbrev Up (l : List Nat) : Prop := l.Pairwise (· < ·)
theorem Up.at {l : List Nat} (s : Up l) {i k x y : Nat} (hx : l[i]? = some x) (hy : l[k]? = some y) (h : i < k) : x < y := by
 obtain ⟨h1, rfl⟩ := List.getElem?_eq_some_iff.mp hx
 obtain ⟨h2, rfl⟩ := List.getElem?_eq_some_iff.mp hy
 exact List.pairwise_iff_getElem.mp s i k h1 h2 h
theorem Up.le {l : List Nat} (s : Up l) {i k x y : Nat} (hx : l[i]? = some x) (hy : l[k]? = some y) (h : i <= k) : x <= y := by
 by_cases e : i = k
 ·subst e; rw [hx] at hy; cases hy; exact Nat.le_refl _
 ·exact Nat.le_of_lt (s.at hx hy (by lia))
theorem Up.nodup {l : List Nat} (s : Up l) : l.Nodup := s.imp fun h => Nat.ne_of_lt h
theorem go_below (xs : Array Nat) (s : Up xs.toList) (j : Nat) : ∀ fuel lo hi, lo <= hi -> hi <= xs.size -> hi - lo <= fuel ->
  (∀ i x, xs.toList[i]? = some x -> i < lo -> x < j) -> (∀ i x, xs.toList[i]? = some x -> hi <= i -> j <= x) ->
  below.go xs j fuel lo hi <= xs.size /\ (∀ i x, xs.toList[i]? = some x -> i < below.go xs j fuel lo hi -> x < j) /\ (∀ i x, xs.toList[i]? = some x -> below.go xs j fuel lo hi <= i -> j <= x)
 | 0, lo, hi, h1, h2, h3, a, b => by
  have e : lo = hi := by lia
  subst e
  exact ⟨h2, a, b⟩
 | fuel + 1, lo, hi, h1, h2, h3, a, b => by
  unfold below.go
  by_cases c : lo < hi
  ·rw [if_pos c]
   dsimp only
   have hm : (lo + hi) / 2 < xs.size := by lia
   have hv : xs.toList[(lo + hi) / 2]? = some (xs.getD ((lo + hi) / 2) j) := by
    rw [Array.getElem?_toList, Array.getElem?_eq_getElem hm]
    simp [Array.getD, hm]
   by_cases d : xs.getD ((lo + hi) / 2) j < j
   ·rw [if_pos d]
    exact go_below xs s j fuel _ _ (by lia) h2 (by lia) (fun i x hx hi' => Nat.lt_of_le_of_lt (s.le hx hv (by lia)) d) b
   ·rw [if_neg d]
    exact go_below xs s j fuel _ _ (by lia) (by lia) (by lia) a (fun i x hx hi' => Nat.le_trans (by lia) (s.le hv hx hi'))
  ·rw [if_neg c]
   have e : lo = hi := by lia
   subst e
   exact ⟨h2, a, b⟩
theorem below_spec (xs : Array Nat) (s : Up xs.toList) (j : Nat) : below xs j <= xs.size /\ (∀ i x, xs.toList[i]? = some x -> i < below xs j -> x < j) /\ (∀ i x, xs.toList[i]? = some x -> below xs j <= i -> j <= x) :=
 go_below xs s j _ _ _ (Nat.zero_le _) (Nat.le_refl _) (by lia) (fun i x _ h => absurd h (Nat.not_lt_zero _)) fun i x hx h => by
  obtain ⟨q, _⟩ := List.getElem?_eq_some_iff.mp hx
  rw [Array.length_toList] at q
  lia
structure TOk (t : SetTable) (hs : List Int) : Prop where
 good : Good t.mask
 dum : t.dummies = #[]
 len : t.place.toList.length = hs.length
 up : Up t.place.toList
 le : ∀ x ∈ t.place.toList, x <= t.mask
 room : t.place.toList.length * 5 < t.mask * 3
 reach : ∀ q ∈ t.place.toList.zip hs, ∃ n, (P t.mask q.2 n).j = q.1 /\ ∀ m, m < n -> (P t.mask q.2 m).j ∈ t.place.toList
theorem slot_spec {t : SetTable} (hd : t.dummies = #[]) (s : Up t.place.toList) (j : Nat) : (∃ i, t.slot j = .live i /\ t.place.toList[i]? = some j) ∨ (t.slot j = .empty /\ j ∉ t.place.toList) := by
 obtain ⟨h1, h2, h3⟩ := below_spec t.place s j
 unfold slot
 dsimp only
 by_cases c : (t.place[below t.place j]? == some j) = true
 ·rw [if_pos c]
  exact .inl ⟨_, rfl, by rw [Array.getElem?_toList]; exact eq_of_beq c⟩
 ·rw [if_neg c, hd]
  refine .inr ⟨rfl, fun hj => c ?_⟩
  obtain ⟨i, hi⟩ := List.getElem?_of_mem hj
  have e : i = below t.place j := by
   by_cases a : i < below t.place j
   ·have := h2 i j hi a; lia
   ·by_cases b : i = below t.place j
    ·exact b
    ·have hb : below t.place j < t.place.toList.length := by
      obtain ⟨q, _⟩ := List.getElem?_eq_some_iff.mp hi
      lia
     have hv := List.getElem?_eq_getElem hb
     have := s.at hv hi (by lia)
     have := h3 _ _ hv (Nat.le_refl _)
     lia
  rw [<- e, <- Array.getElem?_toList, hi]
  simp
theorem slot_live {t : SetTable} (hd : t.dummies = #[]) (s : Up t.place.toList) {j i : Nat} (h : t.slot j = .live i) : t.place.toList[i]? = some j := by
 rcases slot_spec hd s j with ⟨i', h1, h2⟩ | ⟨h1, _⟩
 ·rw [h] at h1; cases h1; exact h2
 ·rw [h] at h1; cases h1
theorem least {p : Nat -> Prop} [DecidablePred p] : ∀ n, p n -> ∃ m, m <= n /\ p m /\ ∀ k, k < m -> ¬ p k := by
 intro n
 induction n using Nat.strongRecOn with
 | ind n ih =>
  intro h
  by_cases c : ∃ k, k < n /\ p k
  ·obtain ⟨k, hk, pk⟩ := c
   obtain ⟨m, h1, h2, h3⟩ := ih k hk pk
   exact ⟨m, by lia, h2, h3⟩
  ·exact ⟨n, Nat.le_refl _, h, fun k hk pk => c ⟨k, hk, pk⟩⟩
theorem spare {M : Nat} {l : List Nat} (h : l.length <= M) : ∃ j, j <= M /\ j ∉ l := by
 refine Classical.byContradiction fun c => ?_
 have : List.range (M + 1) ⊆ l := fun j hj => Classical.byContradiction fun hn => c ⟨j, by have := List.mem_range.mp hj; lia, hn⟩
 have := List.Nodup.length_le_of_subset List.nodup_range this
 rw [List.length_range] at this
 lia
theorem free_at {M : Nat} {l : List Nat} (g : Good M) (h : l.length <= M) (x : Int) : ∃ n, n < 10 * turns M /\ (P M x n).j ∉ l /\ ∀ m, m < n -> (P M x m).j ∈ l := by
 obtain ⟨j, hj, hn⟩ := spare h
 obtain ⟨n, h1, h2⟩ := cover g x hj
 obtain ⟨m, q1, q2, q3⟩ := least (p := fun n => (P M x n).j ∉ l) n (by rw [h2]; exact hn)
 exact ⟨m, by lia, q2, fun k hk => Classical.byContradiction (q3 k hk)⟩
section
variable {t : SetTable} {hs : List Int} {hashAt : Nat -> Int} {h : Int} {n : Nat}
theorem go_probe (T : TOk t hs) (h1 : (P t.mask h n).j ∉ t.place.toList) (h2 : ∀ m, m < n -> (P t.mask h m).j ∈ t.place.toList) : ∀ fuel c, c <= n -> n - c < fuel ->
  (probe.go t hashAt h fuel (P t.mask h c) = some (.empty (P t.mask h n).j none) /\ ∀ m, c <= m -> m < n -> ∀ i, t.slot (P t.mask h m).j = .live i -> hashAt i ≠ h)
  ∨ ∃ m i, c <= m /\ m < n /\ t.slot (P t.mask h m).j = .live i /\ hashAt i = h /\ (∀ m', c <= m' -> m' < m -> ∀ i, t.slot (P t.mask h m').j = .live i -> hashAt i ≠ h) /\ probe.go t hashAt h fuel (P t.mask h c) = some (.candidate (P t.mask h m).j i (P t.mask h (m + 1)))
 | 0, c, _, hf => absurd hf (Nat.not_lt_zero _)
 | fuel + 1, c, hc, hf => by
  unfold probe.go
  by_cases e : c = n
  ·subst e
   rcases slot_spec T.dum T.up (P t.mask h c).j with ⟨i, q1, q2⟩ | ⟨q1, _⟩
   ·exact absurd (List.mem_of_getElem? q2) h1
   ·rw [q1]
    refine .inl ⟨?_, fun m a b => by lia⟩
    show some (Met.empty (P t.mask h c).j (P t.mask h c).dummy) = _
    rw [(P_ok t.mask h c).2]
  ·rcases slot_spec T.dum T.up (P t.mask h c).j with ⟨i, q1, q2⟩ | ⟨_, q2⟩
   ·rw [q1]
    dsimp only
    by_cases k : (hashAt i == h) = true
    ·rw [if_pos k]
     exact .inr ⟨c, i, Nat.le_refl _, by lia, q1, eq_of_beq k, fun m' a b => by lia, rfl⟩
    ·rw [if_neg k]
     have hk : hashAt i ≠ h := fun e => k (by rw [e]; simp)
     rcases go_probe T h1 h2 fuel (c + 1) (by lia) (by lia) with ⟨a, b⟩ | ⟨m, i', a1, a2, a3, a4, a5, a6⟩
     ·refine .inl ⟨a, fun m hm1 hm2 i2 hi2 => ?_⟩
      by_cases e2 : m = c
      ·subst e2; rw [q1] at hi2; cases hi2; exact hk
      ·exact b m (by lia) hm2 i2 hi2
     ·refine .inr ⟨m, i', by lia, a2, a3, a4, fun m' hm1 hm2 i2 hi2 => ?_, a6⟩
      by_cases e2 : m' = c
      ·subst e2; rw [q1] at hi2; cases hi2; exact hk
      ·exact a5 m' (by lia) hm2 i2 hi2
   ·exact absurd (h2 c (by lia)) q2
theorem met (T : TOk t hs) (h1 : (P t.mask h n).j ∉ t.place.toList) {i j : Nat} (hj : t.place.toList[i]? = some j) (hh : hs[i]? = some h) : ∃ m, m < n /\ (P t.mask h m).j = j := by
 have hq : (j, h) ∈ t.place.toList.zip hs := List.mem_of_getElem? (i := i) (by rw [List.getElem?_zip_eq_some]; exact ⟨hj, hh⟩)
 obtain ⟨m, e, a⟩ := T.reach _ hq
 refine ⟨m, Classical.byContradiction fun c => h1 ?_, e⟩
 by_cases d : n = m
 ·subst d; rw [e]; exact List.mem_of_getElem? hj
 ·exact a n (by lia)
end
theorem insertAt_list {α : Type} (xs : Array α) (p : Nat) (x : α) : (insertAt xs p x).toList = xs.toList.take p ++ x :: xs.toList.drop p := by
 rw [SetTable.toList_insertAt]
theorem put_ok {t : SetTable} {hs : List Int} {h : Int} {n : Nat} (T : TOk t hs) (h1 : (P t.mask h n).j ∉ t.place.toList) (h2 : ∀ m, m < n -> (P t.mask h m).j ∈ t.place.toList)
  (hr : (t.place.toList.length + 1) * 5 < t.mask * 3) (pl : Bool) :
  TOk { (t.put (P t.mask h n).j).1 with plain := pl } (hs.take (t.put (P t.mask h n).j).2 ++ h :: hs.drop (t.put (P t.mask h n).j).2) := by
 obtain ⟨b1, b2, b3⟩ := below_spec t.place T.up (P t.mask h n).j
 have hmem : ∀ x, x ∈ (insertAt t.place (below t.place (P t.mask h n).j) (P t.mask h n).j).toList ↔ x = (P t.mask h n).j ∨ x ∈ t.place.toList := by
  intro x
  rw [insertAt_list, List.mem_append, List.mem_cons]
  conv => rhs; rw [<- List.take_append_drop (below t.place (P t.mask h n).j) t.place.toList, List.mem_append]
  constructor
  ·rintro (a | a | a)
   ·exact .inr (.inl a)
   ·exact .inl a
   ·exact .inr (.inr a)
  ·rintro (a | a | a)
   ·exact .inr (.inl a)
   ·exact .inl a
   ·exact .inr (.inr a)
 refine ⟨T.good, ?_, ?_, ?_, ?_, ?_, ?_⟩
 ·show (if has t.dummies _ = true then _ else t.dummies) = #[]
  rw [T.dum]
  rfl
 ·show (insertAt t.place (below t.place (P t.mask h n).j) (P t.mask h n).j).toList.length = (hs.take (below t.place (P t.mask h n).j) ++ h :: hs.drop (below t.place (P t.mask h n).j)).length
  rw [insertAt_list]
  simp only [List.length_append, List.length_take, List.length_cons, List.length_drop]
  rw [T.len]
 ·show Up (insertAt t.place (below t.place (P t.mask h n).j) (P t.mask h n).j).toList
  rw [insertAt_list]
  unfold Up
  rw [List.pairwise_append]
  have hlt : ∀ x ∈ t.place.toList.take (below t.place (P t.mask h n).j), x < (P t.mask h n).j := fun x hx => by
   obtain ⟨i, hi⟩ := List.getElem?_of_mem hx
   rw [List.getElem?_take] at hi
   split at hi
   ·rename_i q; exact b2 i x hi q
   ·cases hi
  have hgt : ∀ x ∈ t.place.toList.drop (below t.place (P t.mask h n).j), (P t.mask h n).j < x := fun x hx => by
   obtain ⟨i, hi⟩ := List.getElem?_of_mem hx
   rw [List.getElem?_drop] at hi
   have := b3 _ x hi (by lia)
   have hne : x ≠ (P t.mask h n).j := fun e => h1 (e ▸ List.mem_of_getElem? hi)
   lia
  refine ⟨T.up.sublist (List.take_sublist _ _), List.pairwise_cons.mpr ⟨hgt, T.up.sublist (List.drop_sublist _ _)⟩, fun a ha b hb => ?_⟩
  rcases List.mem_cons.mp hb with rfl | hb
  ·exact hlt a ha
  ·exact Nat.lt_trans (hlt a ha) (hgt b hb)
 ·intro x hx
  rcases (hmem x).mp hx with rfl | hx
  ·exact P_le _ _ _
  ·exact T.le x hx
 ·show (insertAt t.place (below t.place (P t.mask h n).j) (P t.mask h n).j).toList.length * 5 < t.mask * 3
  rw [insertAt_list]
  simp only [List.length_append, List.length_take, List.length_cons, List.length_drop]
  lia
 ·intro q hq
  have hz : (insertAt t.place (below t.place (P t.mask h n).j) (P t.mask h n).j).toList.zip (hs.take (below t.place (P t.mask h n).j) ++ h :: hs.drop (below t.place (P t.mask h n).j)) = (t.place.toList.take (below t.place (P t.mask h n).j)).zip (hs.take (below t.place (P t.mask h n).j)) ++ ((P t.mask h n).j, h) :: (t.place.toList.drop (below t.place (P t.mask h n).j)).zip (hs.drop (below t.place (P t.mask h n).j)) := by
   rw [insertAt_list, List.zip_append (by rw [List.length_take, List.length_take, T.len]), List.zip_cons_cons]
  have hq' : q = ((P t.mask h n).j, h) ∨ q ∈ t.place.toList.zip hs := by
   have hq2 : q ∈ (insertAt t.place (below t.place (P t.mask h n).j) (P t.mask h n).j).toList.zip (hs.take (below t.place (P t.mask h n).j) ++ h :: hs.drop (below t.place (P t.mask h n).j)) := hq
   rw [hz, List.mem_append, List.mem_cons] at hq2
   conv => rhs; rw [<- List.take_append_drop (below t.place (P t.mask h n).j) t.place.toList, <- List.take_append_drop (below t.place (P t.mask h n).j) hs, List.zip_append (by rw [List.length_take, List.length_take, T.len]), List.mem_append]
   rcases hq2 with a | a | a
   ·exact .inr (.inl a)
   ·exact .inl a
   ·exact .inr (.inr a)
  rcases hq' with rfl | hq'
  ·exact ⟨n, rfl, fun m hm => (hmem _).mpr (.inr (h2 m hm))⟩
  ·obtain ⟨m, e, a⟩ := T.reach q hq'
   exact ⟨m, e, fun k hk => (hmem _).mpr (.inr (a k hk))⟩
end ST
namespace ST
open PySem PySem.SetTable
structure Own (M : Nat) (hs : List Int) (ow : Array (Option Nat)) : Prop where
 size : ow.size = M + 1
 lt : ∀ j i : Nat, ow[j]? = some (some i) -> i < hs.length
 all : ∀ i, i < hs.length -> ∃ j : Nat, ow[j]? = some (some i)
 inj : ∀ j j' i : Nat, ow[j]? = some (some i) -> ow[j']? = some (some i) -> j = j'
 reach : ∀ (j i : Nat) (h : Int), ow[j]? = some (some i) -> hs[i]? = some h -> ∃ n, (P M h n).j = j /\ ∀ m, m < n -> ∃ i', ow[(P M h m).j]? = some (some i')
theorem Own.free {M : Nat} {hs : List Int} {ow : Array (Option Nat)} (W : Own M hs ow) (h : hs.length <= M) : ∃ j : Nat, j <= M /\ ow[j]? = some none := by
 refine Classical.byContradiction fun c => ?_
 have hv : ∀ j, j <= M -> ∃ i, ow[j]? = some (some i) := fun j hj => by
  have hl : j < ow.size := by rw [W.size]; lia
  cases e : ow[j] with
  | none => exact absurd ⟨j, hj, by rw [Array.getElem?_eq_getElem hl, e]⟩ c
  | some i => exact ⟨i, by rw [Array.getElem?_eq_getElem hl, e]⟩
 have e : ∀ j, j <= M -> ow[j]? = some (some ((ow.getD j none).getD 0)) := fun j hj => by
  obtain ⟨i, hi⟩ := hv j hj
  have hl : j < ow.size := by rw [W.size]; lia
  rw [hi]
  rw [Array.getElem?_eq_getElem hl] at hi
  have : ow.getD j none = some i := by simp [Array.getD, hl]; exact Option.some.inj hi
  rw [this]
  rfl
 have hs1 : (List.range (M + 1)).map (fun j => (ow.getD j none).getD 0) ⊆ List.range hs.length := fun i hi => by
  obtain ⟨j, hj, rfl⟩ := List.mem_map.mp hi
  exact List.mem_range.mpr (W.lt j _ (e j (by have := List.mem_range.mp hj; lia)))
 have hn : ((List.range (M + 1)).map (fun j => (ow.getD j none).getD 0)).Nodup := by
  unfold List.Nodup
  rw [List.pairwise_map]
  refine List.Pairwise.imp_of_mem ?_ List.nodup_range
  intro a b ha hb hne he
  refine hne (W.inj a b _ (e a (by have := List.mem_range.mp ha; lia)) ?_)
  rw [he]
  exact e b (by have := List.mem_range.mp hb; lia)
 have := List.Nodup.length_le_of_subset hn hs1
 rw [List.length_map, List.length_range, List.length_range] at this
 lia
theorem free_ok {M : Nat} {ow : Array (Option Nat)} {h : Int} (hsz : ow.size = M + 1) : ∀ fuel k n, P M h n = run M (L M h k) -> (∀ m, m < n -> ∃ i, ow[(P M h m).j]? = some (some i)) ->
  (∃ kk, k <= kk /\ kk < k + fuel /\ ow[(L M h kk).1]? = some none) ->
  ∃ n', layClean.free M ow fuel (L M h k).1 (L M h k).2 = some (P M h n').j /\ ow[(P M h n').j]? = some none /\ ∀ m, m < n' -> ∃ i, ow[(P M h m).j]? = some (some i)
 | 0, k, n, e, a, ⟨kk, h1, h2, _⟩ => by lia
 | fuel + 1, k, n, e, a, ⟨kk, h1, h2, h3⟩ => by
  have hr := runEnd_le (L_le M h k)
  have hget : ∀ d, d <= runEnd M (L M h k).1 - (L M h k).1 -> ow[(L M h k).1 + d]? = some (ow.getD ((L M h k).1 + d) (some 0)) := fun d hd => by
   have hl : (L M h k).1 + d < ow.size := by lia
   rw [Array.getElem?_eq_getElem hl]
   simp [Array.getD, hl]
  have hP : ∀ d, d <= runEnd M (L M h k).1 - (L M h k).1 -> (P M h (n + d)).j = (L M h k).1 + d := fun d hd => by rw [P_run e d hd]
  unfold layClean.free
  cases q : (List.range (runEnd M (L M h k).1 + 1 - (L M h k).1)).find? fun d => (ow.getD ((L M h k).1 + d) (some 0)).isNone with
  | some d =>
   rw [List.find?_range_eq_some] at q
   obtain ⟨q1, q2, q3⟩ := q
   have hd : d <= runEnd M (L M h k).1 - (L M h k).1 := by have := List.mem_range.mp q2; lia
   refine ⟨n + d, ?_, ?_, fun m hm => ?_⟩
   ·rw [hP d hd]
   ·rw [hP d hd, hget d hd, Option.isNone_iff_eq_none.mp q1]
   ·by_cases c : m < n
    ·exact a m c
    ·have := q3 (m - n) (by lia)
     have hd' : m - n <= runEnd M (L M h k).1 - (L M h k).1 := by lia
     have h5 := hP (m - n) hd'
     rw [show n + (m - n) = m by lia] at h5
     rw [h5, hget (m - n) hd']
     cases hv : ow.getD ((L M h k).1 + (m - n)) (some 0) with
     | none => rw [hv] at this; simp at this
     | some i => exact ⟨i, rfl⟩
  | none =>
   rw [List.find?_eq_none] at q
   have hocc : ∀ d, d <= runEnd M (L M h k).1 - (L M h k).1 -> ∃ i, ow[(L M h k).1 + d]? = some (some i) := fun d hd => by
    have := q d (List.mem_range.mpr (by lia))
    rw [hget d hd]
    cases hv : ow.getD ((L M h k).1 + d) (some 0) with
    | none => rw [hv] at this; simp at this
    | some i => exact ⟨i, rfl⟩
   have hk : kk ≠ k := fun e2 => by
    subst e2
    obtain ⟨i, hi⟩ := hocc 0 (Nat.zero_le _)
    rw [Nat.add_zero, h3] at hi
    cases hi
   refine free_ok hsz fuel (k + 1) _ (P_next e) (fun m hm => ?_) ⟨kk, by lia, by lia, h3⟩
   by_cases c : m < n
   ·exact a m c
   ·have hd' : m - n <= runEnd M (L M h k).1 - (L M h k).1 := by lia
    have h5 := hP (m - n) hd'
    rw [show n + (m - n) = m by lia] at h5
    rw [h5]
    exact hocc (m - n) hd'
theorem Own.put {M : Nat} {hs : List Int} {ow : Array (Option Nat)} {h : Int} {n : Nat} (W : Own M hs ow) (h1 : ow[(P M h n).j]? = some none) (h2 : ∀ m, m < n -> ∃ i, ow[(P M h m).j]? = some (some i)) :
  Own M (hs ++ [h]) (ow.setIfInBounds (P M h n).j (some hs.length)) := by
 have hl : (P M h n).j < ow.size := by rw [W.size]; have := P_le M h n; lia
 have hg : ∀ j, (ow.setIfInBounds (P M h n).j (some hs.length))[j]? = if (P M h n).j = j then some (some hs.length) else ow[j]? := fun j => by
  rw [Array.getElem?_setIfInBounds]
  split
  ·first | rfl | rw [if_pos hl]
  ·rfl
 have hup : ∀ j : Nat, (∃ i, ow[j]? = some (some i)) -> ∃ i, (ow.setIfInBounds (P M h n).j (some hs.length))[j]? = some (some i) := fun j zz => by
  obtain ⟨i, hi⟩ := zz
  rw [hg]
  split
  ·exact ⟨_, rfl⟩
  ·exact ⟨i, hi⟩
 refine ⟨by simpa using W.size, fun j i hj => ?_, fun i hi => ?_, fun j j' i hj hj' => ?_, fun j i x hj hx => ?_⟩
 ·rw [List.length_append, List.length_singleton]
  rw [hg] at hj
  split at hj
  ·cases hj; lia
  ·have := W.lt j i hj; lia
 ·rw [List.length_append, List.length_singleton] at hi
  by_cases c : i < hs.length
  ·obtain ⟨j, hj⟩ := W.all i c
   refine ⟨j, ?_⟩
   rw [hg, if_neg (fun e => by rw [e, hj] at h1; cases h1)]
   exact hj
  ·refine ⟨(P M h n).j, ?_⟩
   rw [hg, if_pos rfl, show i = hs.length by lia]
 ·rw [hg] at hj hj'
  split at hj
  ·rename_i e
   cases hj
   split at hj'
   ·rename_i e'; rw [<- e, <- e']
   ·have := W.lt j' _ hj'; lia
  ·split at hj'
   ·cases hj'
    have := W.lt j _ hj; lia
   ·exact W.inj j j' i hj hj'
 ·rw [hg] at hj
  split at hj
  ·rename_i e
   cases hj
   rw [List.getElem?_append_right (Nat.le_refl _), Nat.sub_self] at hx
   cases hx
   exact ⟨n, e, fun m hm => hup _ (h2 m hm)⟩
  ·rw [List.getElem?_append_left (W.lt j i hj)] at hx
   obtain ⟨m, e, a⟩ := W.reach j i x hj hx
   exact ⟨m, e, fun k hk => hup _ (a k hk)⟩
noncomputable def lay (M : Nat) (acc : Option (Array (Option Nat) × Nat)) (h : Int) : Option (Array (Option Nat) × Nat) := do
 let (owner, k) <- acc
 let j <- layClean.free M owner (turns M) (bits h % (M + 1)) (bits h)
 pure (owner.setIfInBounds j (some k), k + 1)
theorem fold_ok {M : Nat} (g : Good M) : ∀ (rest done : List Int) (ow : Array (Option Nat)), Own M done ow -> (done ++ rest).length <= M -> ∃ ow', rest.foldl (lay M) (some (ow, done.length)) = some (ow', (done ++ rest).length) /\ Own M (done ++ rest) ow'
 | [], done, ow, W, _ => ⟨ow, by rw [List.append_nil]; rfl, by rw [List.append_nil]; exact W⟩
 | h :: rest, done, ow, W, hl => by
  rw [List.length_append, List.length_cons] at hl
  obtain ⟨j, hj, hf⟩ := W.free (by lia)
  obtain ⟨kk, hk, e⟩ := coverL g h hj
  obtain ⟨n, q1, q2, q3⟩ := free_ok (h := h) W.size (turns M) 0 0 rfl (fun m hm => absurd hm (Nat.not_lt_zero _)) ⟨kk, Nat.zero_le _, by lia, by rw [e]; exact hf⟩
  have W2 := W.put q2 q3
  obtain ⟨ow', r1, r2⟩ := fold_ok g rest (done ++ [h]) _ W2 (by simp; lia)
  refine ⟨ow', ?_, by rw [<- List.append_cons] at r2; exact r2⟩
  rw [List.foldl_cons]
  have : lay M (some (ow, done.length)) h = some (ow.setIfInBounds (P M h n).j (some done.length), (done ++ [h]).length) := by
   show (layClean.free M ow (turns M) (L M h 0).1 (L M h 0).2).bind _ = _
   rw [q1, List.length_append]
   rfl
  rw [this, r1, <- List.append_cons]
theorem own0 (M : Nat) : Own M [] (Array.replicate (M + 1) none) := by
 have : ∀ (j : Nat) (i : Nat), (Array.replicate (M + 1) (none : Option Nat))[j]? = some (some i) -> False := fun j i h => by
  rw [Array.getElem?_replicate] at h
  split at h <;> simp at h
 exact ⟨by simp, fun j i h => (this j i h).elim, fun i hi => absurd hi (Nat.not_lt_zero _), fun j j' i h => (this j i h).elim, fun j i _ h => (this j i h).elim⟩
theorem layClean_ok {M : Nat} (g : Good M) (hs : Array Int) (hl : hs.size <= M) : ∃ ow, layClean M hs = some ow /\ Own M hs.toList ow := by
 obtain ⟨ow, h1, h2⟩ := fold_ok g hs.toList [] _ (own0 M) (by simpa using hl)
 refine ⟨ow, ?_, h2⟩
 unfold layClean
 rw [<- Array.foldl_toList]
 show (hs.toList.foldl (lay M) (some (Array.replicate (M + 1) none, 0))).map (·.1) = _
 rw [show (0 : Nat) = ([] : List Int).length from rfl, h1]
 rfl
noncomputable def liveOf (M : Nat) (ow : Array (Option Nat)) : List (Nat × Nat) := (List.range (M + 1)).filterMap fun j => (ow.getD j none).map (j, ·)
theorem mem_live {M : Nat} {hs : List Int} {ow : Array (Option Nat)} (W : Own M hs ow) (q : Nat × Nat) : q ∈ liveOf M ow ↔ q.1 <= M /\ ow[q.1]? = some (some q.2) := by
 unfold liveOf
 rw [List.mem_filterMap]
 constructor
 ·rintro ⟨j, hj, e⟩
  have hl : j < ow.size := by rw [W.size]; exact List.mem_range.mp hj
  cases hv : ow.getD j none with
  | none => rw [hv] at e; cases e
  | some i =>
   rw [hv] at e
   cases e
   refine ⟨by have := List.mem_range.mp hj; show j <= M; lia, ?_⟩
   show ow[j]? = some (some i)
   rw [Array.getElem?_eq_getElem hl]
   simp [Array.getD, hl] at hv
   rw [hv]
 ·rintro ⟨h1, h2⟩
  have hl : q.1 < ow.size := by rw [W.size]; lia
  refine ⟨q.1, List.mem_range.mpr (by lia), ?_⟩
  rw [Array.getElem?_eq_getElem hl] at h2
  have : ow.getD q.1 none = some q.2 := by simp [Array.getD, hl]; exact Option.some.inj h2
  rw [this]
  rfl
theorem live_up (M : Nat) (ow : Array (Option Nat)) : (liveOf M ow).Pairwise fun p q => p.1 < q.1 := by
 unfold liveOf
 rw [List.pairwise_filterMap]
 refine List.Pairwise.imp ?_ List.pairwise_lt_range
 intro a b hab x hx y hy
 cases ha : ow.getD a none with
 | none => rw [ha] at hx; cases hx
 | some i =>
  cases hb : ow.getD b none with
  | none => rw [hb] at hy; cases hy
  | some k =>
   rw [ha] at hx; rw [hb] at hy
   cases hx; cases hy
   exact hab
theorem laid_ok {hs : Array Int} {M : Nat} (fi mo : Nat) (le pl : Bool) (g : Good M) (hl : hs.size * 5 < M * 3) :
  ∃ t' order, laid M fi mo le pl hs = some (t', order) /\ List.Perm order.toList (List.range hs.size) /\ TOk t' (order.toList.map fun i => hs.toList.getD i 0) /\ t'.led = le /\ t'.plain = pl := by
 obtain ⟨ow, h1, W⟩ := layClean_ok g hs (by lia)
 have hperm : List.Perm ((liveOf M ow).map (·.2)) (List.range hs.size) := by
  rw [List.perm_ext_iff_of_nodup ?_ List.nodup_range]
  ·intro i
   rw [List.mem_map, List.mem_range]
   constructor
   ·rintro ⟨q, hq, rfl⟩
    have := W.lt _ _ ((mem_live W q).mp hq).2
    simpa using this
   ·intro hi
    obtain ⟨j, hj⟩ := W.all i (by simpa using hi)
    have hjl : j < ow.size := (Array.getElem?_eq_some_iff.mp hj).1
    exact ⟨(j, i), (mem_live W (j, i)).mpr ⟨by rw [W.size] at hjl; show j <= M; lia, hj⟩, rfl⟩
  ·unfold List.Nodup
   rw [List.pairwise_map]
   refine List.Pairwise.imp_of_mem ?_ (live_up M ow)
   intro p q hp hq hlt he
   have a := ((mem_live W p).mp hp).2
   have b := ((mem_live W q).mp hq).2
   rw [he] at a
   have := W.inj _ _ _ a b
   lia
 have hlen : (liveOf M ow).length = hs.size := by
  have := hperm.length_eq
  rwa [List.length_map, List.length_range] at this
 refine ⟨{ mask := M, place := ((liveOf M ow).map (·.1)).toArray, dummies := #[], finger := fi, led := le, moves := mo, plain := pl }, ((liveOf M ow).map (·.2)).toArray, ?_, hperm, ?_, rfl, rfl⟩
 ·unfold laid
  rw [h1]
  rfl
 ·refine ⟨g, rfl, ?_, ?_, ?_, ?_, ?_⟩
  ·show ((liveOf M ow).map (·.1)).length = (((liveOf M ow).map (·.2)).map fun i => hs.toList.getD i 0).length
   simp
  ·show Up ((liveOf M ow).map (·.1))
   unfold Up
   rw [List.pairwise_map]
   exact live_up M ow
  ·intro x hx
   have hx' : x ∈ (liveOf M ow).map (·.1) := hx
   obtain ⟨q, hq, rfl⟩ := List.mem_map.mp hx'
   exact ((mem_live W q).mp hq).1
  ·show ((liveOf M ow).map (·.1)).length * 5 < M * 3
   rw [List.length_map, hlen]
   exact hl
  ·intro q hq
   have hq' : q ∈ ((liveOf M ow).map (·.1)).zip (((liveOf M ow).map (·.2)).map fun i => hs.toList.getD i 0) := hq
   rw [List.map_map, List.zip_map'] at hq'
   obtain ⟨p, hp, rfl⟩ := List.mem_map.mp hq'
   obtain ⟨a, b⟩ := (mem_live W p).mp hp
   have hlt := W.lt _ _ b
   have hx : hs.toList[p.2]? = some (hs.toList.getD p.2 0) := by
    rw [List.getD_eq_getElem?_getD, List.getElem?_eq_getElem hlt]
    rfl
   obtain ⟨n, e, c⟩ := W.reach _ _ _ b hx
   refine ⟨n, e, fun m hm => ?_⟩
   obtain ⟨i, hi⟩ := c m hm
   show (P M (hs.toList.getD p.2 0) m).j ∈ (liveOf M ow).map (·.1)
   exact List.mem_map.mpr ⟨((P M (hs.toList.getD p.2 0) m).j, i), (mem_live W _).mpr ⟨P_le _ _ _, hi⟩, rfl⟩
theorem relaid_ok {t : SetTable} {hs : Array Int} {wanted M : Nat} (hM : sizeAbove wanted - 1 = M) (g : Good M) (hl : hs.size * 5 < M * 3) :
  ∃ t' order, t.relaid hs wanted = some (t', order) /\ List.Perm order.toList (List.range hs.size) /\ TOk t' (order.toList.map fun i => hs.toList.getD i 0) /\ t'.led = t.led /\ t'.plain = t.plain := by
 unfold relaid
 rw [hM]
 exact laid_ok _ _ _ _ g hl
end ST
namespace ST
open PySem PySem.SetTable
section
variable {prog : Program} {w : World} {A : Around} {E : Value -> Shared -> Prop} {s : Shared}
abbrev TK (prog : Program) (w : World) (h : Heap) (k : List Int) (a : Addr) : Prop := IsTupleKey (intKind prog w) h k a
abbrev TH (prog : Program) (w : World) (k : List Int) : Int := tupleKeyHash (intKind prog w) k
theorem items_int {ks : List Int} {vs : List Value} (h : ItemsAre (intKind prog w) ks vs) : ∀ v ∈ vs, ∃ i t, v = .int i t := by
 induction h with
 | nil => intro v hv; simp at hv
 | @cons k v' ks vs h1 _ ih =>
  intro v hv
  rcases List.mem_cons.mp hv with rfl | hv
  ·obtain ⟨t, e⟩ := Value.isInt_shape h1
   exact ⟨k, t, e⟩
  ·exact ih v hv
theorem no_class {k : List Int} {a : Addr} {Q : Bool -> Shared -> Prop} (hk : TK prog w s.heap k a) (h : Q false s) : wpAny (model prog w) A (ofAClassStatement 8 (.ref a)) Q E s := by
 have hT := hk.typeIs
 obtain ⟨o, items, n, ho, _, hd, hi⟩ := hk
 have hv := items_int hi
 unfold ofAClassStatement
 refine wpAny_bind (wpAny_typeOf hT ?_)
 show wpAny _ _ (do let underTuple <- (if ("tuple" == "tuple") = true then pure true else isSubtype (.type "tuple") (.type "tuple")); _) Q E s
 refine wpAny_bind ?_
 rw [if_pos (by decide)]
 refine wpAny_pure ?_
 simp only [Bool.not_true, Bool.false_eq_true, if_false]
 refine wpAny_bind (wpAny_seqItems ho hd ?_)
 dsimp only
 refine wpAny_bind ?_
 rw [<- Array.forIn_toList]
 refine wpAny_forIn_list _ (fun rest r s' => r.1 = none /\ s' = s /\ ∀ v ∈ rest, ∃ i t, v = Value.int i t) _ ?_ ?_ _ _ ⟨rfl, rfl, hv⟩
 ·rintro v rest r s' ⟨hr, rfl, hall⟩
  obtain ⟨i, t, rfl⟩ := hall v List.mem_cons_self
  refine wpAny_bind ?_
  unfold ofAClassStatement
  refine wpAny_pure ?_
  simp only [Bool.false_eq_true, if_false]
  exact wpAny_pure ⟨rfl, rfl, fun u hu' => hall u (List.mem_cons_of_mem _ hu')⟩
 ·rintro ⟨r1, r2⟩ s' ⟨hr, rfl, _⟩
  simp only at hr
  subst hr
  exact wpAny_pure h
theorem by_value {k : List Int} {a : Addr} {Q : Bool -> Shared -> Prop} (hk : TK prog w s.heap k a) (h : Q true s) : wpAny (model prog w) A (hashByValue 8 (.ref a)) Q E s := by
 have hT := hk.typeIs
 obtain ⟨o, items, n, ho, _, hd, hi⟩ := hk
 have hv := items_int hi
 unfold hashByValue
 refine wpAny_bind (wpAny_specialOf hT F.slot_tuple_hash.lookup ?_)
 dsimp only
 refine wpAny_bind (wpAny_seqItems ho hd ?_)
 refine wpAny_bind ?_
 show wpAny _ _ (forIn items _ _) _ _ s
 rw [<- Array.forIn_toList]
 refine wpAny_forIn_list _ (fun rest r s' => r.1 = none /\ s' = s /\ ∀ v ∈ rest, ∃ i t, v = Value.int i t) _ ?_ ?_ _ _ ⟨rfl, rfl, hv⟩
 ·rintro v rest r s' ⟨hr, rfl, hall⟩
  obtain ⟨i, t, rfl⟩ := hall v List.mem_cons_self
  refine wpAny_bind ?_
  unfold hashByValue
  refine wpAny_pure ?_
  simp only [Bool.not_true, Bool.false_eq_true, if_false]
  exact wpAny_pure ⟨rfl, rfl, fun u hu' => hall u (List.mem_cons_of_mem _ hu')⟩
 ·rintro ⟨r1, r2⟩ s' ⟨hr, rfl, _⟩
  simp only at hr
  subst hr
  exact wpAny_pure h
theorem not_seen {k : List Int} {a : Addr} {stored : List Value} {Q : Bool -> Shared -> Prop} (hk : TK prog w s.heap k a) (hs : ∀ y ∈ stored, ∃ k' b, y = .ref b /\ TK prog w s.heap k' b) (h : Q false s) :
  wpAny (model prog w) A (searchCouldBeSeen (.ref a) stored) Q E s := by
 unfold searchCouldBeSeen
 refine wpAny_bind ?_
 refine wpAny_forIn_list _ (fun rest r s' => r.1 = none /\ s' = s /\ ∀ y ∈ rest, ∃ k' b, y = .ref b /\ TK prog w s.heap k' b) _ ?_ ?_ _ _ ⟨rfl, rfl, hs⟩
 ·rintro v rest r s' ⟨hr, rfl, hall⟩
  have hrest : ∀ y ∈ rest, ∃ k' b, y = .ref b /\ TK prog w s'.heap k' b := fun u hu' => hall u (List.mem_cons_of_mem _ hu')
  obtain ⟨k', b, rfl, hb⟩ := hall v List.mem_cons_self
  dsimp only
  by_cases c : (a == b) = true
  ·rw [c]
   simp only [Bool.true_or, if_true]
   exact wpAny_pure ⟨rfl, rfl, hrest⟩
  ·rw [if_neg (by simp [carriedByValue, c])]
   refine wpAny_bind (wpAny_eqIsQuiet_tuple hk ?_)
   simp only [Bool.not_true, Bool.false_eq_true, if_false]
   refine wpAny_bind (wpAny_eqIsQuiet_tuple hb ?_)
   simp only [Bool.not_true, Bool.false_eq_true, if_false]
   refine wpAny_bind (no_class hk ?_)
   simp only [Bool.false_eq_true, if_false]
   refine wpAny_bind (no_class hb ?_)
   simp only [Bool.false_eq_true, if_false]
   exact wpAny_pure ⟨rfl, rfl, hrest⟩
 ·rintro ⟨r1, r2⟩ s' ⟨hr, rfl, _⟩
  simp only at hr
  subst hr
  exact wpAny_pure h
end
end ST
namespace ST
open PySem PySem.SetTable
section
variable {prog : Program} {w : World} {A : Around} {E : Value -> Shared -> Prop} {s : Shared}
inductive Ents (prog : Program) (w : World) (h : Heap) : List (Int × Value) -> List (List Int) -> Prop
 | nil : Ents prog w h [] []
 | cons {k : List Int} {b : Addr} {es : List (Int × Value)} {ks : List (List Int)} : TK prog w h k b -> Ents prog w h es ks -> Ents prog w h ((TH prog w k, .ref b) :: es) (k :: ks)
theorem Ents.at {h : Heap} {es : List (Int × Value)} {ks : List (List Int)} (X : Ents prog w h es ks) : ∀ {i : Nat} {e : Int × Value}, es[i]? = some e -> ∃ k b, ks[i]? = some k /\ e = (TH prog w k, .ref b) /\ TK prog w h k b := by
 induction X with
 | nil => intro i e h; simp at h
 | @cons k b es ks h1 _ ih =>
  intro i e h
  cases i with
  | zero => cases h; exact ⟨k, b, rfl, rfl, h1⟩
  | succ i => exact ih (i := i) (by simpa using h)
theorem Ents.length {h : Heap} {es : List (Int × Value)} {ks : List (List Int)} (X : Ents prog w h es ks) : es.length = ks.length := by
 induction X with
 | nil => rfl
 | cons _ _ ih => simp [ih]
theorem Ents.append {h : Heap} {es es' : List (Int × Value)} {ks ks' : List (List Int)} (X : Ents prog w h es ks) (Y : Ents prog w h es' ks') : Ents prog w h (es ++ es') (ks ++ ks') := by
 induction X with
 | nil => exact Y
 | cons h1 _ ih => exact .cons h1 ih
theorem Ents.take {h : Heap} {es : List (Int × Value)} {ks : List (List Int)} (X : Ents prog w h es ks) : ∀ n, Ents prog w h (es.take n) (ks.take n) := by
 induction X with
 | nil => intro n; simpa using Ents.nil
 | cons h1 _ ih =>
  intro n
  cases n with
  | zero => exact .nil
  | succ n => exact .cons h1 (ih n)
theorem Ents.drop {h : Heap} {es : List (Int × Value)} {ks : List (List Int)} (X : Ents prog w h es ks) : ∀ n, Ents prog w h (es.drop n) (ks.drop n) := by
 induction X with
 | nil => intro n; simpa using Ents.nil
 | @cons k b es ks h1 hr ih =>
  intro n
  cases n with
  | zero => exact .cons h1 hr
  | succ n => exact ih n
theorem Ents.mono {h h' : Heap} {es : List (Int × Value)} {ks : List (List Int)} (X : Ents prog w h es ks) (m : ∀ k b, TK prog w h k b -> TK prog w h' k b) : Ents prog w h' es ks := by
 induction X with
 | nil => exact .nil
 | cons h1 _ ih => exact .cons (m _ _ h1) ih
theorem Ents.pick {h : Heap} {es : List (Int × Value)} {ks : List (List Int)} (X : Ents prog w h es ks) : ∀ (l : List Nat), (∀ i ∈ l, i < es.length) -> Ents prog w h (l.filterMap (es[·]?)) (l.filterMap (ks[·]?)) := by
 intro l
 induction l with
 | nil => intro _; exact .nil
 | cons i l ih =>
  intro hl
  have hi := hl i List.mem_cons_self
  obtain ⟨k, b, h1, h2, h3⟩ := X.at (List.getElem?_eq_getElem hi)
  rw [List.filterMap_cons_some (b := (TH prog w k, Value.ref b)) (by rw [List.getElem?_eq_getElem hi, h2]), List.filterMap_cons_some (b := k) h1]
  exact .cons h3 (ih fun j hj => hl j (List.mem_cons_of_mem _ hj))
theorem TOk.fits {t : SetTable} {hs : List Int} (T : TOk t hs) {n : Nat} (e : hs.length = n) : t.fits n = true := by
 have h1 := T.len
 have h2 := T.room
 rw [Array.length_toList] at h1 h2
 unfold SetTable.fits SetTable.fill
 rw [T.dum, h1, e]
 rw [h1] at h2
 simp only [Bool.and_eq_true, beq_iff_eq, decide_eq_true_eq]
 refine ⟨?_, ?_⟩
 ·trivial
 ·show n + 0 <= t.mask
  lia
theorem TOk.odd {t : SetTable} {hs : List Int} (T : TOk t hs) : t.gaveWay = false := by
 unfold SetTable.gaveWay
 rcases T.good with h | h | h | h | h | h <;> rw [h] <;> rfl
theorem search_from {a x : Addr} {o : Obj} {es : Array (Int × Value)} {ep : Nat} {t : SetTable} {ks : List (List Int)} {k : List Int} {n : Nat} {Q : SetFound -> Shared -> Prop}
  (hu : A.units < cLine) (ho : s.heap.get? a = some o) (hd : o.data = .set es ep t) (T : TOk t (es.toList.map (·.1))) (X : Ents prog w s.heap es.toList ks) (hk : TK prog w s.heap k x)
  (h1 : (P t.mask (TH prog w k) n).j ∉ t.place.toList) (h2 : ∀ m, m < n -> (P t.mask (TH prog w k) m).j ∈ t.place.toList)
  (q1 : k ∈ ks -> Q (.there none) s) (q2 : k ∉ ks -> Q (.free (P t.mask (TH prog w k) n).j false) s) :
  ∀ fuel c, c <= n -> n < 10 * turns t.mask -> n - c < fuel -> (∀ m, m < c -> ∀ i, t.slot (P t.mask (TH prog w k) m).j = .live i -> ks[i]? ≠ some k) -> ∀ stand : Option Probe, stand.getD (t.probeStart (TH prog w k)) = P t.mask (TH prog w k) c ->
  wpAny (model prog w) A (setSearchFrom a (.ref x) (TH prog w k) true fuel stand) Q E s
 | 0, c, _, _, hf, _, _, _ => absurd hf (Nat.not_lt_zero _)
 | fuel + 1, c, hc, hN, hf, inv, stand, hst => by
  have hfit : t.fits es.size = true := T.fits (by simp)
  unfold setSearchFrom
  refine wpAny_bind (wpAny_setState_of ho hd hfit ?_)
  dsimp only
  rw [hst, if_neg (by rw [T.odd]; exact Bool.false_ne_true)]
  refine wpAny_bind (wpAny_pure ?_)
  generalize hg : t.probe _ (TH prog w k) (P t.mask (TH prog w k) c) = met
  obtain ⟨f, hfe, hg⟩ : ∃ f : Nat -> Int, (∀ i, f i = (es[i]?.map (·.1)).getD 0) /\ t.probe f (TH prog w k) (P t.mask (TH prog w k) c) = met := ⟨_, fun _ => rfl, hg⟩
  have key : ∀ m i, t.slot (P t.mask (TH prog w k) m).j = .live i -> f i ≠ TH prog w k -> ks[i]? ≠ some k := fun m i hi hne hki => by
   have hp := slot_live T.dum T.up hi
   have hl : i < es.toList.length := by
    have := (List.getElem?_eq_some_iff.mp hp).1
    rw [T.len] at this
    simpa using this
   obtain ⟨k', b, e1, e2, e3⟩ := X.at (List.getElem?_eq_getElem hl)
   rw [hki] at e1
   cases e1
   apply hne
   rw [hfe, <- Array.getElem?_toList, List.getElem?_eq_getElem hl, e2]
   rfl
  have hgo := go_probe (hashAt := f) T h1 h2 (10 * turns t.mask) c hc (by lia)
  rcases hgo with ⟨g1, g2⟩ | ⟨m, i, g1, g2, g3, g4, g5, g6⟩
  ·have : met = some (.empty (P t.mask (TH prog w k) n).j none) := hg.symm.trans g1
   subst this
   dsimp only
   refine wpAny_pure (q2 fun hmem => ?_)
   obtain ⟨i, hi⟩ := List.getElem?_of_mem hmem
   have hl : i < es.toList.length := by rw [X.length]; exact (List.getElem?_eq_some_iff.mp hi).1
   obtain ⟨k', b, e1, e2, e3⟩ := X.at (List.getElem?_eq_getElem hl)
   rw [hi] at e1
   cases e1
   have hpl : i < t.place.toList.length := by rw [T.len]; simpa using hl
   obtain ⟨m, hm, hj⟩ := met T h1 (List.getElem?_eq_getElem hpl) (h := TH prog w k) (by rw [List.getElem?_map, List.getElem?_eq_getElem hl, e2]; rfl)
   obtain ⟨i', hs1, hs2⟩ | ⟨_, hs2⟩ := slot_spec T.dum T.up (P t.mask (TH prog w k) m).j
   ·have hii : i' = i := by
     rw [hj] at hs2
     have a1 := List.getElem?_eq_getElem hpl
     by_cases l1 : i' < i
     ·have := T.up.at hs2 a1 l1; lia
     ·by_cases l2 : i < i'
      ·have := T.up.at a1 hs2 l2; lia
      ·lia
    subst hii
    by_cases cm : m < c
    ·exact inv m cm i' hs1 hi
    ·exact key m i' hs1 (g2 m (by lia) hm i' hs1) hi
   ·rw [hj] at hs2
    exact hs2 (List.getElem_mem _)
  ·have : met = some (.candidate (P t.mask (TH prog w k) m).j i (P t.mask (TH prog w k) (m + 1))) := hg.symm.trans g6
   subst this
   have hp := slot_live T.dum T.up g3
   have hl : i < es.toList.length := by
    have := (List.getElem?_eq_some_iff.mp hp).1
    rw [T.len] at this
    simpa using this
   obtain ⟨k', b, e1, e2, e3⟩ := X.at (List.getElem?_eq_getElem hl)
   have hei : es[i]? = some (TH prog w k', .ref b) := by rw [<- Array.getElem?_toList, List.getElem?_eq_getElem hl, e2]
   dsimp only
   have hseen : ∀ y ∈ (es.filter (fun x => x.1 == TH prog w k)).toList.map (fun x => x.2), ∃ k' b, y = .ref b /\ TK prog w s.heap k' b := fun y hy => by
    obtain ⟨e, he, rfl⟩ := List.mem_map.mp hy
    have he' : e ∈ es.toList := by
     rw [Array.toList_filter] at he
     exact (List.mem_filter.mp he).1
    obtain ⟨i2, hi2⟩ := List.getElem?_of_mem he'
    obtain ⟨k2, b2, _, z2, z3⟩ := X.at hi2
    exact ⟨k2, b2, by rw [z2], z3⟩
   split
   all_goals try (refine wpAny_bind (not_seen hk hseen ?_); rw [if_neg Bool.false_ne_true])
   all_goals
    rw [hei]
    dsimp only
    refine wpAny_bind (wpAny_holding (wpAny_eqBool_tuple hu e3 hk ?_))
    refine wpAny_bind (wpAny_setState_of ho hd hfit ?_)
    dsimp only
    by_cases hkk : k' = k
    ·rw [if_pos (by simp [hkk])]
     exact wpAny_pure (q1 (hkk ▸ List.mem_of_getElem? e1))
    ·rw [if_neg (by simp [hkk]), show t.sameMemory t.moves t.mask = some true by unfold sameMemory; simp]
     dsimp only
     rw [if_pos rfl, g3]
     dsimp only
     rw [hei]
     dsimp only
     refine wpAny_bind (wpAny_isSame_ref_self ?_)
     simp only [if_true]
     refine wpAny_bind (wpAny_pure ?_)
     dsimp only
     rw [if_neg (by simp [hkk])]
     refine search_from hu ho hd T X hk h1 h2 q1 q2 fuel (m + 1) (by lia) hN (by lia) (fun m' hm' i' hi' => ?_) _ rfl
     by_cases l1 : m' < c
     ·exact inv m' l1 i' hi'
     ·by_cases l2 : m' = m
      ·subst l2
       rw [g3] at hi'
       cases hi'
       rw [e1]
       exact fun e => hkk (Option.some.inj e)
      ·exact key m' i' hi' (g5 m' (by lia) (by lia) i' hi')
end
end ST
namespace ST
open PySem PySem.SetTable
section
variable {prog : Program} {w : World} {A : Around} {E : Value -> Shared -> Prop} {s : Shared}
theorem TK.keep {h h' : Heap} {a b : Addr} {o : Obj} {es : Array (Int × Value)} {ep : Nat} {t : SetTable} {k : List Int} (ho : h.get? a = some o) (hd : o.data = .set es ep t) (hs : Heap.SameBut a h h') (x : TK prog w h k b) : TK prog w h' k b := by
 obtain ⟨o', items, n, ho', hc, hd', hi⟩ := x
 have hne : b ≠ a := by
  rintro rfl
  obtain rfl : o' = o := Option.some.inj (ho'.symm.trans ho)
  rw [hd] at hd'; exact nomatch hd'
 exact ⟨o', items, n, (hs.2 b hne).trans ho', hc, hd', hi⟩
noncomputable def ledW (w : World) : Bool := !w.params.followText "set-order"
noncomputable def SetT (prog : Program) (w : World) (V : Value -> Prop) (h : Heap) (a : Addr) (ks : List (List Int)) : Prop :=
 ∃ o es ep t, h.get? a = some o /\ o.ExactSet /\ o.data = .set es ep t /\ TOk t (es.toList.map (·.1)) /\ (t.plain = true /\ t.led = ledW w) /\ Ents prog w h es.toList ks /\ ks.Nodup /\ ∀ e ∈ es.toList, V e.2
theorem hs_pick (es : List (Int × Value)) : ∀ l : List Nat, (∀ i ∈ l, i < es.length) -> (l.filterMap (es[·]?)).map (·.1) = l.map fun i => (es.map (·.1)).getD i 0
 | [], _ => rfl
 | i :: l, h => by
  have hi := h i List.mem_cons_self
  rw [List.filterMap_cons_some (b := es[i]) (List.getElem?_eq_getElem hi), List.map_cons, List.map_cons, hs_pick es l fun j hj => h j (List.mem_cons_of_mem _ hj)]
  congr 1
  rw [List.getD_eq_getElem?_getD, List.getElem?_map, List.getElem?_eq_getElem hi]
  rfl
theorem grow_ok {t : SetTable} {hs : List Int} (T : TOk t hs) (hf : (t.place.toList.length + 1) * 5 >= t.mask * 3) (h76 : t.place.toList.length + 1 <= 76) :
  ∃ M, sizeAbove (grown (t.place.toList.length + 1)) - 1 = M /\ Good M /\ (t.place.toList.length + 1) * 5 < M * 3 /\ ¬ sizeAbove (grown (t.place.toList.length + 1)) > sizeLine := by
 have hr := T.room
 rcases T.good with g | g | g | g | g | g
 ·rw [g] at hr hf
  have e : t.place.toList.length + 1 = 5 := by lia
  rw [e]
  exact ⟨31, by decide, .inr (.inl rfl), by decide, by rw [sizeLine_eq]; decide⟩
 ·rw [g] at hr hf
  have e : t.place.toList.length + 1 = 19 := by lia
  rw [e]
  exact ⟨127, by decide, .inr (.inr (.inl rfl)), by decide, by rw [sizeLine_eq]; decide⟩
 ·rw [g] at hr hf
  lia
 ·rw [g] at hr hf
  have e : t.place.toList.length + 1 = 9 := by lia
  rw [e]
  exact ⟨63, by decide, .inr (.inr (.inr (.inr (.inl rfl)))), by decide, by rw [sizeLine_eq]; decide⟩
 ·rw [g] at hr hf
  have e : t.place.toList.length + 1 = 38 := by lia
  rw [e]
  exact ⟨255, by decide, .inr (.inr (.inr (.inr (.inr rfl)))), by decide, by rw [sizeLine_eq]; decide⟩
 ·rw [g] at hr hf
  lia
theorem relay_ok {V : Value -> Prop} {a : Addr} {o : Obj} {es : Array (Int × Value)} {ep : Nat} {t : SetTable} {ks : List (List Int)} {wanted M : Nat} {Q : Unit -> Shared -> Prop}
  (ho : s.heap.get? a = some o) (hex : o.ExactSet) (hd : o.data = .set es ep t) (hfit : t.fits es.size = true) (hp : t.plain = true /\ t.led = ledW w) (X : Ents prog w s.heap es.toList ks) (hnd : ks.Nodup) (hV : ∀ e ∈ es.toList, V e.2)
  (hM : sizeAbove wanted - 1 = M) (g : Good M) (hl : es.size * 5 < M * 3) (hz : ¬ sizeAbove wanted > sizeLine) (hsz : es.size <= sizeLine)
  (h : ∀ h' ks', Heap.SameBut a s.heap h' -> SetT prog w V h' a ks' -> List.Perm ks' ks -> Q () { s with heap := h' }) :
  wpAny (model prog w) A (setRelay a wanted) Q E s := by
 obtain ⟨t', order, r1, r2, r3, r4, r5⟩ := relaid_ok (t := t) (hs := es.map (·.1)) hM g (by simpa using hl)
 have hlt : ∀ i ∈ order.toList, i < es.toList.length := fun i hi => by
  have := List.mem_range.mp (r2.mem_iff.mp hi)
  simpa using this
 have hes : (order.filterMap (es[·]?)).toList = order.toList.filterMap (es.toList[·]?) := by
  rw [Array.toList_filterMap]
  congr 1
  funext i
  rw [Array.getElem?_toList]
 have hperm : List.Perm (order.filterMap (es[·]?)).toList es.toList := by
  rw [Array.toList_filterMap]
  refine (r2.filterMap _).trans ?_
  rw [Array.size_map, filterMap_getElem?_range]
 have hsize : (order.filterMap (es[·]?)).size = es.size := by rw [<- Array.length_toList, hperm.length_eq, Array.length_toList]
 unfold setRelay
 refine wpAny_bind (wpAny_setState_of ho hd hfit ?_)
 dsimp only
 rw [if_neg hz]
 rw [r1]
 refine wpAny_bind ?_
 show wpAny _ _ (if ((order.filterMap (es[·]?)).size != es.size) = true then _ else pure (order.filterMap (es[·]?), t')) _ _ s
 rw [if_neg (by simp [hsize])]
 refine wpAny_pure ?_
 dsimp only
 refine wpAny_storeSet_of ho hd ?_ (by rw [hsize]; exact hsz)
 have hg : (s.heap.update a (Obj.putSet (order.filterMap (es[·]?)) t')).get? a = some { o with data := .set (order.filterMap (es[·]?)) (ep + 1) t' } := by
  have := Heap.get?_update_self (Obj.putSet (order.filterMap (es[·]?)) t') ho (by rw [putSet_of _ t' hd]; rfl)
  rw [putSet_of _ t' hd] at this; exact this
 have hsb := Heap.SameBut.update s.heap a (Obj.putSet (order.filterMap (es[·]?)) t')
 refine h _ (order.toList.filterMap (ks[·]?)) hsb ⟨_, _, _, t', hg, hex, rfl, ?_, ⟨by rw [r5]; exact hp.1, by rw [r4]; exact hp.2⟩, ?_, ?_, fun e he => hV e (hperm.mem_iff.mp he)⟩ ?_
 ·rw [hes, hs_pick _ _ hlt]
  simpa using r3
 ·rw [hes]
  exact (X.pick _ hlt).mono fun k b => TK.keep ho hd hsb
 ·have : List.Perm (order.toList.filterMap (ks[·]?)) ks := by
   refine (r2.filterMap _).trans ?_
   rw [Array.size_map, <- Array.length_toList, X.length, List.filterMap_getElem?_range_length]
  exact this.nodup_iff.mpr hnd
 ·refine (r2.filterMap _).trans ?_
  rw [Array.size_map, <- Array.length_toList, X.length, List.filterMap_getElem?_range_length]
theorem add_tup {V : Value -> Prop} {a x : Addr} {ks : List (List Int)} {k : List Int} {Q : Bool -> Shared -> Prop} (hu : A.units < cLine) (S : SetT prog w V s.heap a ks) (hk : TK prog w s.heap k x) (hx : V (.ref x)) (h76 : ks.length + 1 <= 76)
  (q1 : k ∈ ks -> Q false s) (q2 : k ∉ ks -> ∀ h' ks', Heap.SameBut a s.heap h' -> SetT prog w V h' a ks' -> List.Perm ks' (k :: ks) -> Q true { s with heap := h' }) :
  wpAny (model prog w) A (setAddHashed a (.ref x) (TH prog w k)) Q E s := by
 obtain ⟨o, es, ep, t, ho, hex, hd, T, hp, X, hnd, hV⟩ := S
 have hfit : t.fits es.size = true := T.fits (by simp)
 have hlen : t.place.toList.length = ks.length := by rw [T.len, List.length_map, X.length]
 have hes : es.size = ks.length := by rw [<- X.length, Array.length_toList]
 have hroom := T.room
 obtain ⟨n, n1, n2, n3⟩ := free_at (l := t.place.toList) T.good (by lia) (TH prog w k)
 have hM : t.mask <= 255 := by rcases T.good with g | g | g | g | g | g <;> lia
 unfold setAddHashed setAddHashedIn
 refine wpAny_holding (wpAny_bind (wpAny_setState_of ho hd hfit ?_))
 dsimp only
 rw [if_neg (by simp [byScan, Value.scannable])]
 refine wpAny_bind ?_
 unfold setSearch
 refine search_from hu ho hd T X hk n2 n3 ?_ ?_ 100000 0 (Nat.zero_le _) n1 (by unfold turns at n1; lia) (fun m hm => absurd hm (Nat.not_lt_zero _)) none rfl
 ·intro hmem
  exact wpAny_pure (q1 hmem)
 ·intro hmem
  dsimp only
  refine wpAny_bind (wpAny_setState_of ho hd hfit ?_)
  dsimp only
  rw [if_pos (show (t.put (P t.mask (TH prog w k) n).j).1.plain = true from hp.1)]
  refine wpAny_bind (by_value hk ?_)
  rw [if_pos rfl]
  have hesz : (insertAt es (t.put (P t.mask (TH prog w k) n).j).2 (TH prog w k, Value.ref x)).size = es.size + 1 := by
   rw [<- Array.length_toList, (SetTable.insertAt_perm _ _ _).length_eq]
   simp
  refine wpAny_bind (wpAny_storeSet_of ho hd ?_ (by rw [hesz, sizeLine_eq]; lia))
  have hg : (s.heap.update a (Obj.putSet (insertAt es (t.put (P t.mask (TH prog w k) n).j).2 (TH prog w k, Value.ref x)) (t.put (P t.mask (TH prog w k) n).j).1)).get? a = some { o with data := .set (insertAt es (t.put (P t.mask (TH prog w k) n).j).2 (TH prog w k, Value.ref x)) (ep + 1) (t.put (P t.mask (TH prog w k) n).j).1 } := by
   have := Heap.get?_update_self (Obj.putSet (insertAt es (t.put (P t.mask (TH prog w k) n).j).2 (TH prog w k, Value.ref x)) (t.put (P t.mask (TH prog w k) n).j).1) ho (by rw [putSet_of _ _ hd]; rfl)
   rw [putSet_of _ _ hd] at this; exact this
  have hsb := Heap.SameBut.update s.heap a (Obj.putSet (insertAt es (t.put (P t.mask (TH prog w k) n).j).2 (TH prog w k, Value.ref x)) (t.put (P t.mask (TH prog w k) n).j).1)
  have X2 : Ents prog w (s.heap.update a (Obj.putSet (insertAt es (t.put (P t.mask (TH prog w k) n).j).2 (TH prog w k, Value.ref x)) (t.put (P t.mask (TH prog w k) n).j).1)) (insertAt es (t.put (P t.mask (TH prog w k) n).j).2 (TH prog w k, Value.ref x)).toList (ks.take (t.put (P t.mask (TH prog w k) n).j).2 ++ k :: ks.drop (t.put (P t.mask (TH prog w k) n).j).2) := by
   rw [insertAt_list]
   exact ((X.take _).append (.cons hk (X.drop _))).mono fun k b => TK.keep ho hd hsb
  have hkp : List.Perm (ks.take (t.put (P t.mask (TH prog w k) n).j).2 ++ k :: ks.drop (t.put (P t.mask (TH prog w k) n).j).2) (k :: ks) := by
   refine List.perm_middle.trans ?_
   rw [List.take_append_drop]
  have hnd2 : (ks.take (t.put (P t.mask (TH prog w k) n).j).2 ++ k :: ks.drop (t.put (P t.mask (TH prog w k) n).j).2).Nodup := hkp.nodup_iff.mpr (List.nodup_cons.mpr ⟨hmem, hnd⟩)
  have hV2 : ∀ e ∈ (insertAt es (t.put (P t.mask (TH prog w k) n).j).2 (TH prog w k, Value.ref x)).toList, V e.2 := fun e he => by
   have := (SetTable.insertAt_perm es (t.put (P t.mask (TH prog w k) n).j).2 (TH prog w k, Value.ref x)).mem_iff.mp he
   rw [Array.toList_push, List.mem_append, List.mem_singleton] at this
   rcases this with h | rfl
   ·exact hV e h
   ·exact hx
  have hfill : (t.put (P t.mask (TH prog w k) n).j).1.fill = t.place.toList.length + 1 := by
   show (insertAt t.place (below t.place (P t.mask (TH prog w k) n).j) (P t.mask (TH prog w k) n).j).size + (if has t.dummies _ = true then _ else t.dummies).size = _
   rw [T.dum, <- Array.length_toList, (SetTable.insertAt_perm _ _ _).length_eq]
   simp [has]
  have hfit2 : (t.put (P t.mask (TH prog w k) n).j).1.fits (insertAt es (t.put (P t.mask (TH prog w k) n).j).2 (TH prog w k, Value.ref x)).size = true := by
   unfold SetTable.fits
   rw [hfill, hesz]
   have : (t.put (P t.mask (TH prog w k) n).j).1.place.size = es.size + 1 := by
    show (insertAt t.place (below t.place (P t.mask (TH prog w k) n).j) (P t.mask (TH prog w k) n).j).size = _
    rw [<- Array.length_toList, (SetTable.insertAt_perm _ _ _).length_eq]
    simp
    rw [<- Array.length_toList, hlen, hes]
   rw [this]
   simp only [beq_self_eq_true, Bool.true_and, decide_eq_true_eq]
   show t.place.toList.length + 1 <= t.mask
   lia
  by_cases hfull : (t.put (P t.mask (TH prog w k) n).j).1.tooFull = true
  ·rw [hfull]
   simp only [Bool.not_false, Bool.and_self, if_true]
   have hf5 : (t.place.toList.length + 1) * 5 >= t.mask * 3 := by
    unfold SetTable.tooFull at hfull
    rw [hfill] at hfull
    exact of_decide_eq_true hfull
   obtain ⟨M, m1, m2, m3, m4⟩ := grow_ok T hf5 (by lia)
   refine wpAny_bind (relay_ok (V := V) hg hex rfl hfit2 hp X2 hnd2 hV2 (M := M) ?_ m2 ?_ ?_ ?_ ?_)
   ·rw [hes, <- hlen]; exact m1
   ·rw [hesz, hes, <- hlen]; exact m3
   ·rw [hes, <- hlen]; exact m4
   ·rw [hesz, sizeLine_eq]; lia
   ·intro h' ks' hsb' S' pk
    exact wpAny_pure (q2 hmem h' ks' (hsb.trans hsb') S' (pk.trans hkp))
  ·rw [Bool.not_eq_true] at hfull
   rw [hfull]
   simp only [Bool.and_false, Bool.false_eq_true, if_false]
   have hf5 : (t.place.toList.length + 1) * 5 < t.mask * 3 := by
    unfold SetTable.tooFull at hfull
    rw [hfill] at hfull
    have := of_decide_eq_false hfull
    have e : (t.put (P t.mask (TH prog w k) n).j).1.mask = t.mask := rfl
    rw [e] at this
    lia
   have T2 := put_ok T n2 n3 hf5 t.plain
   refine wpAny_bind (wpAny_pure (wpAny_pure (q2 hmem _ _ hsb ⟨_, _, _, _, hg, hex, rfl, ?_, hp, X2, hnd2, hV2⟩ hkp)))
   rw [insertAt_list, List.map_append, List.map_cons, List.map_take, List.map_drop]
   exact T2
end
end ST
namespace ST
open PySem PySem.SetTable PyProof.Rows
section
variable {prog : Program} {w : World} {A : Around} {R : Result -> Shared -> Prop} {I : Addr} {fp wr : List Addr} {G : Array GenState -> Array GenState -> Prop} {n : Nat} {Pv : Nat -> Value -> Prop} {St : Nat -> Shared -> Prop} {V : Value -> Prop}
theorem TK.at {h h' : Heap} {k : List Int} {b : Addr} (x : TK prog w h k b) (e : ∀ o, h.get? b = some o -> h'.get? b = some o) : TK prog w h' k b := by
 obtain ⟨o, items, n, ho, r⟩ := x
 exact ⟨o, items, n, e o ho, r⟩
theorem SetT.moved {h h' : Heap} {a : Addr} {ks : List (List Int)} (S : SetT prog w V h a ks) (e : ∀ b o, h.get? b = some o -> (b = a ∨ ∃ k, TK prog w h k b) -> h'.get? b = some o) : SetT prog w V h' a ks := by
 obtain ⟨o, es, ep, t, ho, hex, hd, T, hp, X, hnd, hV⟩ := S
 exact ⟨o, es, ep, t, e a o ho (.inl rfl), hex, hd, T, hp, X.mono fun k b x => x.at fun o' ho' => e b o' ho' (.inr ⟨k, x⟩), hnd, hV⟩
noncomputable def Keys (ks : List (List Int)) (val : Nat -> List Int) (i : Nat) : Prop := ∀ k, k ∈ ks ↔ ∃ j, j < i /\ val j = k
theorem keys_le {ks : List (List Int)} {val : Nat -> List Int} {i : Nat} (h : Keys ks val i) (hn : ks.Nodup) : ks.length <= i := by
 have : ks ⊆ (List.range i).map val := fun k hk => by
  obtain ⟨j, hj, e⟩ := (h k).mp hk
  exact List.mem_map.mpr ⟨j, List.mem_range.mpr hj, e⟩
 have := List.Nodup.length_le_of_subset hn this
 simpa using this
theorem SetT.nodup {h : Heap} {a : Addr} {ks : List (List Int)} (S : SetT prog w V h a ks) : ks.Nodup := by
 obtain ⟨o, es, ep, t, ho, hex, hd, T, hp, X, hnd, hV⟩ := S
 exact hnd
theorem update_loop (W : WalksS prog w A.in1 I fp wr G n Pv St) (S : Addr) (hSf : S ∉ fp) (hu : A.in1.units < cLine) (val : Nat -> List Int) (s0 : Heap)
  (hold : ∀ b o, s0.get? b = some o -> b ≠ S /\ b ∉ wr) (hval : ∀ i v, i < n -> Pv i v -> V v /\ ∃ b, v = .ref b /\ TK prog w s0 (val i) b) (hb : n <= 75) :
  ∀ (k i : Nat) (s : Shared) (ks : List (List Int)), n - i = k -> i <= n -> St i s -> (∀ b o, s0.get? b = some o -> s.heap.get? b = some o) ->
   SetT prog w (fun v => V v /\ ∃ k b, v = .ref b /\ TK prog w s0 k b) s.heap S ks -> Keys ks val i ->
   (∀ s' ks', Moved (S :: wr) G s s' -> (∀ b o, s0.get? b = some o -> s'.heap.get? b = some o) -> SetT prog w (fun v => V v /\ ∃ k b, v = .ref b /\ TK prog w s0 k b) s'.heap S ks' -> Keys ks' val n -> R (.ok (.ret .none)) s') ->
   codeAny (model prog w) A (.builtin "set.update.loop" ⟨[.ref S, .ref I], []⟩) R s := by
 have hSw : S ∉ wr := fun h => hSf (W.sub _ h)
 have hsub : ∀ b ∈ wr, b ∈ S :: wr := fun b hb => List.mem_cons_of_mem _ hb
 have hmv : ∀ (s s' : Shared) ks, Moved wr G s s' -> (∀ b o, s0.get? b = some o -> s.heap.get? b = some o) -> SetT prog w (fun v => V v /\ ∃ k b, v = .ref b /\ TK prog w s0 k b) s.heap S ks -> SetT prog w (fun v => V v /\ ∃ k b, v = .ref b /\ TK prog w s0 k b) s'.heap S ks := fun s s' ks hm h0 hS => by
  obtain ⟨o, es, ep, t, ho, hex, hd, T, hp, X, hnd, hV⟩ := hS
  refine ⟨o, es, ep, t, hm.heap S _ hSw ho, hex, hd, T, hp, ?_, hnd, hV⟩
  clear hd hex ho T hp
  have : ∀ e ∈ es.toList, ∃ k b, e.2 = .ref b /\ TK prog w s0 k b := fun e he => (hV e he).2
  revert this
  clear hV hnd
  generalize es.toList = l at X
  intro this
  induction X with
  | nil => exact .nil
  | @cons k b es ks h1 hr ih =>
   refine .cons ?_ (ih fun e he => this e (List.mem_cons_of_mem _ he))
   obtain ⟨k', b', e1, e2⟩ := this _ List.mem_cons_self
   have e1' : b = b' := by injection e1
   subst e1'
   obtain ⟨o', items, n', ho', r⟩ := e2
   refine h1.at fun o2 ho2 => ?_
   have := h0 b o' ho'
   rw [ho2] at this
   cases this
   exact hm.heap b _ (hold b _ ho').2 (h0 b _ ho')
 intro k
 induction k with
 | zero =>
  intro i s ks hk hi hst h0 hS hK hR
  have hin : i = n := by lia
  subst hin
  refine codeAny_builtin F.entry_set_update_loop ?_
  rw [Around.under_plainId F.plain_set_update_loop _]
  show wpAny _ A.in1 (pyNext (.ref I) >>= _) _ _ s
  refine wpAny_bind (W.done s _ _ hst fun s' hm => ?_)
  show wpAny _ A.in1 (ret Value.none) _ _ s'
  exact wpAny_pure (hR s' ks (hm.mono hsub) (fun b o e => hm.heap b o (hold b o e).2 (h0 b o e)) (hmv s s' ks hm h0 hS) hK)
 | succ k ih =>
  intro i s ks hk hi hst h0 hS hK hR
  have hlt : i < n := by lia
  refine codeAny_builtin F.entry_set_update_loop ?_
  rw [Around.under_plainId F.plain_set_update_loop _]
  show wpAny _ A.in1 (pyNext (.ref I) >>= _) _ _ s
  refine wpAny_bind (W.item i s _ _ hlt hst fun v s' hP hst' hm => ?_)
  obtain ⟨hVv, b, rfl, hb0⟩ := hval i v hlt hP
  have h0' : ∀ b o, s0.get? b = some o -> s'.heap.get? b = some o := fun b o e => hm.heap b o (hold b o e).2 (h0 b o e)
  have hb1 : TK prog w s'.heap (val i) b := hb0.at fun o e => h0' b o e
  have hS' := hmv s s' ks hm h0 hS
  show wpAny _ A.in1 (holding [Value.ref b] (setAdd S (.ref b)) >>= _) _ _ s'
  refine wpAny_bind (wpAny_holding ?_)
  unfold setAdd
  refine wpAny_holding ?_
  refine wpAny_bind (wpAny_pyHash_tuple hu hb1 ?_)
  have hlen := keys_le hK hS.nodup
  have hmoved : ∀ (h' : Heap) (tk : Nat), s'.toks <= tk -> Heap.SameBut S s'.heap h' -> Moved (S :: wr) G s { s' with heap := h', toks := tk } := fun h' tk htk hsb =>
   (hm.mono hsub).then_heap htk fun b o hb e => by rw [hsb.2 b (fun h : b = S => hb (by rw [h]; exact List.mem_cons_self))]; exact e
  refine add_tup (V := fun v => V v /\ ∃ k b, v = .ref b /\ TK prog w s0 k b) (s := { s' with toks := s'.toks + ((val i).length + 1) }) hu hS' hb1 ⟨hVv, val i, b, rfl, hb0⟩ (by lia) ?_ ?_
  ·intro hmem
   refine wpAny_pure ⟨plainId_quiet F.plain_set_update_loop _, ih (i + 1) _ ks (by lia) hlt (W.frame _ s' s'.heap _ hst' (Nat.le_add_right _ _) fun b hb o e => e) h0' hS' ?_ fun s'' ks'' hm'' h0'' hS'' hK'' => ?_⟩
   ·intro k'
    rw [hK k']
    constructor
    ·rintro ⟨j, hj, e⟩; exact ⟨j, by lia, e⟩
    ·rintro ⟨j, hj, e⟩
     by_cases c : j = i
     ·subst c; subst e; exact (hK _).mp hmem
     ·exact ⟨j, by lia, e⟩
   ·exact hR s'' ks'' (Moved.trans W.gtrans (hmoved s'.heap _ (Nat.le_add_right _ _) (Heap.SameBut.refl S _)) hm'') h0'' hS'' hK''
  ·intro hmem h' ks' hsb hS2 hp
   have h02 : ∀ b o, s0.get? b = some o -> h'.get? b = some o := fun b o e => by
    rw [hsb.2 b (hold b o e).1]; exact h0' b o e
   refine wpAny_pure ⟨plainId_quiet F.plain_set_update_loop _, ih (i + 1) _ ks' (by lia) hlt (W.frame _ s' _ _ hst' (Nat.le_add_right _ _) fun b hb o e => ?_) h02 hS2 ?_ fun s'' ks'' hm'' h0'' hS'' hK'' => ?_⟩
   ·rw [hsb.2 b (fun h : b = S => hSf (by rw [<- h]; exact hb))]; exact e
   ·intro k'
    rw [hp.mem_iff, List.mem_cons, hK k']
    constructor
    ·rintro (rfl | ⟨j, hj, e⟩)
     ·exact ⟨i, by lia, rfl⟩
     ·exact ⟨j, by lia, e⟩
    ·rintro ⟨j, hj, e⟩
     by_cases c : j = i
     ·subst c; exact .inl e.symm
     ·exact .inr ⟨j, by lia, e⟩
   ·exact hR s'' ks'' (Moved.trans W.gtrans (hmoved h' _ (Nat.le_add_right _ _) hsb) hm'') h0'' hS'' hK''
end
section
variable {prog : Program} {w : World} {A : Around} {E : Value -> Shared -> Prop} {s : Shared}
theorem new_led (a : Value) {Q₁ : Value -> Shared -> Prop}
  (h : Q₁ (.ref s.heap.objs.size) { s with heap := s.heap.push { cls := .type "set", dict := none, data := .set #[] 0 (.fresh 0 0 (ledW w)) } }) :
  codeAny (model prog w) A (.call (.builtin "set.__new__") ⟨[.type "set", a], []⟩) (wants Q₁ E) s := by
 refine codeAny_of_tree ?_
 show wpAny _ A.in1 (checkBuiltinCall "set.__new__" ⟨[.type "set", a], []⟩ >>= fun _ => again (.builtin "set.__new__" ⟨[.type "set", a], []⟩)) _ _ s
 refine wpAny_bind (wpAny_of_eq (F.newCall_set_1 a) (wpAny_pure ⟨plainId_quiet F.plain_set_new _, codeAny_builtin F.entry_set_new ?_⟩))
 rw [Around.under_plainId F.plain_set_new _]
 unfold Builtin.«set.__new__» Builtin.Frozenset.newClass
 have hsub := sub_set_self
 obtain ⟨hp, g, d, tk, os⟩ := s
 dsimp only
 wp_walk
 refine wpAny_askSetting (wpAny_pure ?_)
 dsimp only
 simp only [newObj]
 refine wpAny_bind (wpAny_alloc (wpAny_pure ?_))
 exact wpAny_pure h
theorem sub_tuple_set : isSubtype (.type "tuple") (.type "set") = pure false := by rw [isSubtype_type]; kernel_rfl
theorem sub_tuple_fset : isSubtype (.type "tuple") (.type "frozenset") = pure false := by rw [isSubtype_type]; kernel_rfl
end
section
variable {prog : Program} {w : World} {A : Around} {E : Value -> Shared -> Prop} {s : Shared} {V : Value -> Prop}
theorem call_set_tups {l : Addr} {items : Array Value} {kl : List (List Int)} {Q : Value -> Shared -> Prop}
  (hh : A.handled = none) (hu : A.units + 8 < cLine) (hl : s.heap.IsList l items) (hi : ∀ i v, items[i]? = some v -> V v /\ ∃ b, v = .ref b /\ TK prog w s.heap (kl.getD i []) b) (hb : items.size <= 75)
  (h : ∀ (h' : Heap) (tk : Nat) ks, SetT prog w V h' s.heap.objs.size ks -> Keys ks (fun i => kl.getD i []) items.size ->
   (∀ b o, s.heap.get? b = some o -> h'.get? b = some o) -> Q (.ref s.heap.objs.size) { s with heap := h', toks := tk }) :
  wpAny (model prog w) A (call (.type "set") [.ref l]) Q E s := by
 obtain ⟨c, tl, hmro⟩ := F.called_set.mro
 have hmade := F.called_set.made
 have hsub := F.called_set.sub
 refine wpAny_call (codeAny_of_tree ?_)
 show wpAny _ _ (callAny (.type "set") _) _ _ _
 refine wpAny_pure ⟨Code.quiet_builtin _ (by decide +kernel), codeAny_builtin F.entry_type_call ?_⟩
 rw [Around.under_plain (weight_type_call_type "set" [.ref l] []) rfl]
 have h1 := F.called_set.notType
 have h2 := F.called_set.canCreate
 have hct := F.typeCall_set_1 (.ref l)
 repeat (any_goals (first | assumption | wp_step))
 refine codeAny_mono (new_led (.ref l) (E := E) (Q₁ := fun obj s₁ => obj = .ref s.heap.objs.size /\ s₁ = { s with heap := s.heap.push { cls := .type "set", dict := none, data := .set #[] 0 (.fresh 0 0 (ledW w)) } }) ⟨rfl, rfl⟩) fun r s₁ hr => ?_
 cases r with
 | error e => exact hr
 | ok fl =>
  cases fl with
  | ret obj =>
   obtain ⟨rfl, rfl⟩ := hr
   have hS : (s.heap.push { cls := .type "set", dict := none, data := .set #[] 0 (.fresh 0 0 (ledW w)) }).get? s.heap.objs.size = some { cls := .type "set", dict := none, data := .set #[] 0 (.fresh 0 0 (ledW w)) } := Heap.get?_push_size _ rfl
   have hT : Shared.TypeIs { s with heap := s.heap.push { cls := .type "set", dict := none, data := .set #[] 0 (.fresh 0 0 (ledW w)) } } (.ref s.heap.objs.size) "set" := ⟨_, hS, rfl⟩
   have hli := F.called_set.init.lookup
   have hbi := F.called_set.init.bind (.ref s.heap.objs.size)
   repeat (any_goals (first | assumption | wp_step))
   refine codeAny_mono (codeAny_call_builtin (R := wants (fun r s₂ => r = .none /\ ∃ h' tk ks, s₂ = { s with heap := h', toks := tk } /\
     SetT prog w V h' s.heap.objs.size ks /\ Keys ks (fun i => kl.getD i []) items.size /\
     (∀ b o, s.heap.get? b = some o -> h'.get? b = some o)) E) F.called_set.init.plain F.entry_set_init (check_set_init_1 hT ?_)) fun r₂ s₂ hr₂ => ?_
   ·obtain ⟨ol, hol, hcl, nl, hdl⟩ := hl
    obtain ⟨ocls, odict, odata, oslots⟩ := ol
    simp only at hcl hdl
    subst hcl; subst hdl
    have hol' : (s.heap.push { cls := .type "set", dict := none, data := .set #[] 0 (.fresh 0 0 (ledW w)) }).get? l = some { cls := .type "list", dict := odict, data := .seq items nl, slots := oslots } := Heap.get?_push_of_some _ hol
    have hsls := F.sub_list_set
    have hslf := F.sub_list_frozenset
    have hne : (Value.type "list" == Value.type "dict") = false := by decide
    have hl1 : (s.heap.push { cls := .type "set", dict := none, data := .set #[] 0 (.fresh 0 0 (ledW w)) }).IsList l items := ⟨_, hol', rfl, nl, rfl⟩
    unfold Builtin.«set.__init__» noKeywords Builtin.Frozenset.updateFrom
    generalize hPI : pyIter = PI
    wp_walk
    subst hPI
    refine wpAny_pyIter_list hl1 ?_
    refine wpAny_bind (wpAny_runValue ?_)
    have hlS : l < s.heap.objs.size := Heap.lt_size hol
    have hh3 : A.in1.in1.in1.handled = none := by simp [hh]
    have hneI : l ≠ (s.heap.push { cls := .type "set", dict := none, data := .set #[] 0 (.fresh 0 0 (ledW w)) }).objs.size := by
     rw [Heap.size_push]; exact Nat.ne_of_lt (Nat.lt_succ_of_lt hlS)
    have hSf : s.heap.objs.size ∉ [(s.heap.push { cls := .type "set", dict := none, data := .set #[] 0 (.fresh 0 0 (ledW w)) }).objs.size, l] := by
     rw [Heap.size_push]; simp only [List.mem_cons, List.mem_singleton, List.not_mem_nil, or_false, not_or]
     exact ⟨Nat.ne_of_lt (Nat.lt_succ_self _), Nat.ne_of_gt hlS⟩
    have hunits : A.in1.in1.in1.units < cLine := by
     show A.units + 1 + 1 + 1 < cLine
     lia
    refine update_loop (V := V) ((Walks.list hh3 _ l hneI items).toS) s.heap.objs.size
     hSf hunits (fun i => kl.getD i []) s.heap (fun b o e => ?_) (fun i v _ hv => hi i v hv) hb (items.size - 0) 0 _ [] (by lia) (Nat.zero_le _)
     ⟨⟨_, Heap.get?_push_size _ rfl, rfl, rfl⟩, (hl1.push _)⟩ (fun b o e => ?_) ?hS0 ?hK0 ?hR
    ·have hlt : b < s.heap.objs.size := Heap.lt_size e
     refine ⟨Nat.ne_of_lt hlt, fun hm => ?_⟩
     rw [Heap.size_push] at hm
     have : b = s.heap.objs.size + 1 := List.mem_singleton.mp hm
     rw [this] at hlt
     exact absurd hlt (Nat.not_lt.mpr (Nat.le_succ _))
    ·exact Heap.get?_push_of_some _ (Heap.get?_push_of_some _ e)
    case hS0 =>
     have hget : ((s.heap.push { cls := .type "set", dict := none, data := .set #[] 0 (.fresh 0 0 (ledW w)) }).push { cls := .type "list_iterator", data := .fields #[.ref l, .int 0 0] }).get? s.heap.objs.size
       = some { cls := .type "set", dict := none, data := .set #[] 0 (.fresh 0 0 (ledW w)) } := Heap.get?_push_of_some _ hS
     exact ⟨_, #[], 0, _, hget, ⟨rfl, rfl, rfl⟩, rfl, ⟨.inl rfl, rfl, rfl, List.Pairwise.nil, fun x hx => by simp [SetTable.fresh] at hx, (by show 0 * 5 < 7 * 3; decide), fun q hq => by simp at hq⟩, ⟨rfl, rfl⟩, .nil, List.nodup_nil, fun e he => by simp at he⟩
    case hK0 =>
     intro k
     simp
    case hR =>
     intro s' ks hm h0 hS' hK
     obtain ⟨h', g', d', tk', os'⟩ := s'
     have eg : g' = s.gens := hm.gens
     have ed : d' = s.drawn := hm.drawn
     have eo : os' = s.os := hm.os
     subst eg; subst ed; subst eo
     show wpAny _ _ _ _ _ _
     refine wpAny_pure ?_
     show wpAny _ _ (ret Value.none) _ _ _
     obtain ⟨o', es', ep', t', z1, z2, z3, z4, z5, z6, z7, z8⟩ := hS'
     exact wpAny_pure ⟨rfl, h', tk', ks, rfl, ⟨o', es', ep', t', z1, z2, z3, z4, z5, z6, z7, fun e he => (z8 e he).1⟩, hK, fun b o e => h0 b o e⟩
   ·cases r₂ with
    | error e => exact hr₂
    | ok fl₂ =>
     cases fl₂ with
     | ret r =>
      obtain ⟨rfl, h', tk, ks, rfl, hS', hK', hk'⟩ := hr₂
      repeat (any_goals (first | assumption | wp_step))
      exact h _ _ _ hS' hK' hk'
     | _ => exact hr₂.elim
  | _ => exact hr.elim
theorem call_set_tupT {l : Addr} {items : Array Value} {kl : List (List Int)} {Q : Value -> Shared -> Prop}
  (hh : A.handled = none) (hu : A.units + 8 < cLine) (hl : s.heap.IsTuple l items) (hi : ∀ i v, items[i]? = some v -> V v /\ ∃ b, v = .ref b /\ TK prog w s.heap (kl.getD i []) b) (hb : items.size <= 75)
  (h : ∀ (h' : Heap) (tk : Nat) ks, SetT prog w V h' s.heap.objs.size ks -> Keys ks (fun i => kl.getD i []) items.size ->
   (∀ b o, s.heap.get? b = some o -> h'.get? b = some o) -> Q (.ref s.heap.objs.size) { s with heap := h', toks := tk }) :
  wpAny (model prog w) A (call (.type "set") [.ref l]) Q E s := by
 obtain ⟨c, tl, hmro⟩ := F.called_set.mro
 have hmade := F.called_set.made
 have hsub := F.called_set.sub
 refine wpAny_call (codeAny_of_tree ?_)
 show wpAny _ _ (callAny (.type "set") _) _ _ _
 refine wpAny_pure ⟨Code.quiet_builtin _ (by decide +kernel), codeAny_builtin F.entry_type_call ?_⟩
 rw [Around.under_plain (weight_type_call_type "set" [.ref l] []) rfl]
 have h1 := F.called_set.notType
 have h2 := F.called_set.canCreate
 have hct := F.typeCall_set_1 (.ref l)
 repeat (any_goals (first | assumption | wp_step))
 refine codeAny_mono (new_led (.ref l) (E := E) (Q₁ := fun obj s₁ => obj = .ref s.heap.objs.size /\ s₁ = { s with heap := s.heap.push { cls := .type "set", dict := none, data := .set #[] 0 (.fresh 0 0 (ledW w)) } }) ⟨rfl, rfl⟩) fun r s₁ hr => ?_
 cases r with
 | error e => exact hr
 | ok fl =>
  cases fl with
  | ret obj =>
   obtain ⟨rfl, rfl⟩ := hr
   have hS : (s.heap.push { cls := .type "set", dict := none, data := .set #[] 0 (.fresh 0 0 (ledW w)) }).get? s.heap.objs.size = some { cls := .type "set", dict := none, data := .set #[] 0 (.fresh 0 0 (ledW w)) } := Heap.get?_push_size _ rfl
   have hT : Shared.TypeIs { s with heap := s.heap.push { cls := .type "set", dict := none, data := .set #[] 0 (.fresh 0 0 (ledW w)) } } (.ref s.heap.objs.size) "set" := ⟨_, hS, rfl⟩
   have hli := F.called_set.init.lookup
   have hbi := F.called_set.init.bind (.ref s.heap.objs.size)
   repeat (any_goals (first | assumption | wp_step))
   refine codeAny_mono (codeAny_call_builtin (R := wants (fun r s₂ => r = .none /\ ∃ h' tk ks, s₂ = { s with heap := h', toks := tk } /\
     SetT prog w V h' s.heap.objs.size ks /\ Keys ks (fun i => kl.getD i []) items.size /\
     (∀ b o, s.heap.get? b = some o -> h'.get? b = some o)) E) F.called_set.init.plain F.entry_set_init (check_set_init_1 hT ?_)) fun r₂ s₂ hr₂ => ?_
   ·obtain ⟨ol, hol, hcl, nl, hdl⟩ := hl
    obtain ⟨ocls, odict, odata, oslots⟩ := ol
    simp only at hcl hdl
    subst hcl; subst hdl
    have hol' : (s.heap.push { cls := .type "set", dict := none, data := .set #[] 0 (.fresh 0 0 (ledW w)) }).get? l = some { cls := .type "tuple", dict := odict, data := .seq items nl, slots := oslots } := Heap.get?_push_of_some _ hol
    have hsls := sub_tuple_set
    have hslf := sub_tuple_fset
    have hne : (Value.type "tuple" == Value.type "dict") = false := by decide
    have hl1 : (s.heap.push { cls := .type "set", dict := none, data := .set #[] 0 (.fresh 0 0 (ledW w)) }).IsTuple l items := ⟨_, hol', rfl, nl, rfl⟩
    unfold Builtin.«set.__init__» noKeywords Builtin.Frozenset.updateFrom
    generalize hPI : pyIter = PI
    wp_walk
    subst hPI
    refine wpAny_pyIter_tuple hl1 ?_
    refine wpAny_bind (wpAny_runValue ?_)
    have hlS : l < s.heap.objs.size := Heap.lt_size hol
    have hh3 : A.in1.in1.in1.handled = none := by simp [hh]
    have hneI : l ≠ (s.heap.push { cls := .type "set", dict := none, data := .set #[] 0 (.fresh 0 0 (ledW w)) }).objs.size := by
     rw [Heap.size_push]; exact Nat.ne_of_lt (Nat.lt_succ_of_lt hlS)
    have hSf : s.heap.objs.size ∉ [(s.heap.push { cls := .type "set", dict := none, data := .set #[] 0 (.fresh 0 0 (ledW w)) }).objs.size, l] := by
     rw [Heap.size_push]; simp only [List.mem_cons, List.mem_singleton, List.not_mem_nil, or_false, not_or]
     exact ⟨Nat.ne_of_lt (Nat.lt_succ_self _), Nat.ne_of_gt hlS⟩
    have hunits : A.in1.in1.in1.units < cLine := by
     show A.units + 1 + 1 + 1 < cLine
     lia
    refine update_loop (V := V) ((Walks.tuple hh3 _ l hneI items).toS) s.heap.objs.size
     hSf hunits (fun i => kl.getD i []) s.heap (fun b o e => ?_) (fun i v _ hv => hi i v hv) hb (items.size - 0) 0 _ [] (by lia) (Nat.zero_le _)
     ⟨⟨_, Heap.get?_push_size _ rfl, rfl, rfl⟩, (hl1.push _)⟩ (fun b o e => ?_) ?hS0 ?hK0 ?hR
    ·have hlt : b < s.heap.objs.size := Heap.lt_size e
     refine ⟨Nat.ne_of_lt hlt, fun hm => ?_⟩
     rw [Heap.size_push] at hm
     have : b = s.heap.objs.size + 1 := List.mem_singleton.mp hm
     rw [this] at hlt
     exact absurd hlt (Nat.not_lt.mpr (Nat.le_succ _))
    ·exact Heap.get?_push_of_some _ (Heap.get?_push_of_some _ e)
    case hS0 =>
     have hget : ((s.heap.push { cls := .type "set", dict := none, data := .set #[] 0 (.fresh 0 0 (ledW w)) }).push { cls := .type "tuple_iterator", data := .fields #[.ref l, .int 0 0] }).get? s.heap.objs.size
       = some { cls := .type "set", dict := none, data := .set #[] 0 (.fresh 0 0 (ledW w)) } := Heap.get?_push_of_some _ hS
     exact ⟨_, #[], 0, _, hget, ⟨rfl, rfl, rfl⟩, rfl, ⟨.inl rfl, rfl, rfl, List.Pairwise.nil, fun x hx => by simp [SetTable.fresh] at hx, (by show 0 * 5 < 7 * 3; decide), fun q hq => by simp at hq⟩, ⟨rfl, rfl⟩, .nil, List.nodup_nil, fun e he => by simp at he⟩
    case hK0 =>
     intro k
     simp
    case hR =>
     intro s' ks hm h0 hS' hK
     obtain ⟨h', g', d', tk', os'⟩ := s'
     have eg : g' = s.gens := hm.gens
     have ed : d' = s.drawn := hm.drawn
     have eo : os' = s.os := hm.os
     subst eg; subst ed; subst eo
     show wpAny _ _ _ _ _ _
     refine wpAny_pure ?_
     show wpAny _ _ (ret Value.none) _ _ _
     obtain ⟨o', es', ep', t', z1, z2, z3, z4, z5, z6, z7, z8⟩ := hS'
     exact wpAny_pure ⟨rfl, h', tk', ks, rfl, ⟨o', es', ep', t', z1, z2, z3, z4, z5, z6, z7, fun e he => (z8 e he).1⟩, hK, fun b o e => h0 b o e⟩
   ·cases r₂ with
    | error e => exact hr₂
    | ok fl₂ =>
     cases fl₂ with
     | ret r =>
      obtain ⟨rfl, h', tk, ks, rfl, hS', hK', hk'⟩ := hr₂
      repeat (any_goals (first | assumption | wp_step))
      exact h _ _ _ hS' hK' hk'
     | _ => exact hr₂.elim
  | _ => exact hr.elim
end
end ST
namespace SL
open PySem PySem.Spec PyProof.Rows L2 CL DL SD ST
section
variable {X : Cx} {pins : List (Addr × Obj)} {σ : L2.St} {H : Hp} {s : Shared}
theorem tk_of (I : Inv X pins σ H s) {b : Addr} {k : List Int} (h : SqT X.K H b (k.map V.int)) : TK X.prog X.w s.heap k b := by
 obtain ⟨its, rv, it, hz⟩ := I.tuple h
 obtain ⟨o, h1, h2, n, h3⟩ := it
 refine ⟨o, its.toArray, n, h1, h2, h3, ?_⟩
 show ItemsAre (intKind X.prog X.w) k its
 clear h h3 h1 h2 hz
 generalize hxs : k.map V.int = xs at rv
 induction rv generalizing k with
 | nil =>
  cases k with
  | nil => exact .nil
  | cons _ _ => simp at hxs
 | @cons x u xs us r t ih =>
  cases k with
  | nil => simp at hxs
  | cons i k =>
   rw [List.map_cons, List.cons.injEq] at hxs
   obtain ⟨e1, e2⟩ := hxs
   subst e1
   obtain ⟨tk, rfl⟩ := r
   exact .cons (intKind_is _ _ _ _) (ih e2)
abbrev KsK := List (List Int) -> Hp -> Prop
abbrev TSt := L2.St -> Hp -> KsK -> Prop
noncomputable def StP (X : Cx) (pins : List (Addr × Obj)) (σ : L2.St) (Q : KsK) (u : Value) (s' : Shared) : Prop :=
 ∃ a o ks H', u = .ref a /\ Inv X ((a, o) :: pins) σ H' s' /\ SetT X.prog X.w (fun v => ∃ b, ∃ xs : List Int, v = .ref b /\ SqT X.K H' b (xs.map V.int)) s'.heap a ks /\ (∀ p ∈ pins, p.1 ≠ a) /\ Q ks H'
noncomputable def PSt (X : Cx) (e : Expr) (t : TSt) : Prop :=
 ∀ (pins : List (Addr × Obj)) (s : Shared) (σ : L2.St) (H : Hp) (Q : KsK), Inv X pins σ H s -> t σ H Q -> wpAny (model X.prog X.w) X.A (eval e X.env) (StP X pins σ Q) X.xe s
noncomputable def tSet (K : PySem.W.Frag) (t : TA) : TSt := fun σ H Q => t σ H fun vs H1 => ∃ (a : Addr) (xs : List V) (kl : List (List Int)), vs = [.ref a] /\ (SqL K H1 a xs ∨ SqT K H1 a xs) /\ xs.length <= 75 /\ xs.length = kl.length /\ (∀ (i : Nat) (x : V), xs[i]? = some x -> ∃ b, x = .ref b /\ SqT K H1 b ((kl.getD i []).map V.int)) /\ ∀ ks : List (List Int), ks.Nodup -> (∀ k, k ∈ ks ↔ k ∈ kl) -> Q ks H1
theorem ps_set {x : Str} {e : Expr} {p pos : Pos} {t : TA} (hc : X.calm = true) (hu : X.A.units + 64 < cLine) (hg : Gl X x) (hm : X.mg x = none) (hv : bootBuiltins x = some (.type "set")) (ha : PA X [e] t) (hn : x ≠ "__name__" := by decide) (hdb : (x == ("__debug__" : Str)) = false := by decide)
  (he : starEach [e] X.env = (false, eval e X.env) :: starEach [] X.env := by rfl) (hpl : (backTo pos (starEach [] X.env)).any (·.1) = false := by rfl) :
  PSt X (.Call (.Name x p) [e] [] pos) (tSet X.K t) := by
 intro pins s σ H Q I h
 refine wpAny_Call_Name_kw (ld_blt I hg hm hv ?_ hn hdb)
 refine PyProof.Rows.callWith_type1 (thn (ha pos pins s σ H _ I h) fun us s1 ⟨vs, H1, I1, r1, q1⟩ => ?_) he hpl
 obtain ⟨a, xs, kl, rfl, hq, h75, hlen, hks, q⟩ := q1
 obtain ⟨u, rfl, ru⟩ := vals1 r1
 cases ru
 have go : ∀ its : List Value, Vals xs its -> (∀ (kl' : List (List Int)) (Q' : Value -> Shared -> Prop), (∀ i v, its.toArray[i]? = some v -> (∃ b, ∃ xs : List Int, v = .ref b /\ SqT X.K H1 b (xs.map V.int)) /\ ∃ b, v = .ref b /\ TK X.prog X.w s1.heap (kl'.getD i []) b) ->
   its.toArray.size <= 75 -> (∀ (h' : Heap) (tk : Nat) ks, SetT X.prog X.w (fun v => ∃ b, ∃ xs : List Int, v = .ref b /\ SqT X.K H1 b (xs.map V.int)) h' s1.heap.objs.size ks -> Keys ks (fun i => kl'.getD i []) its.toArray.size ->
   (∀ b o, s1.heap.get? b = some o -> h'.get? b = some o) -> Q' (.ref s1.heap.objs.size) { s1 with heap := h', toks := tk }) -> wpAny (model X.prog X.w) X.A (call (.type "set") [.ref a]) Q' X.xe s1) ->
   wpAny (model X.prog X.w) X.A (call (.type "set") [.ref a]) (StP X pins σ Q) X.xe s1 := by
  intro its rv cs
  have hsz : its.toArray.size = kl.length := by rw [List.size_toArray, <- rv.length, hlen]
  refine cs kl _ (fun i v hv => ?_) (by rw [hsz]; lia) fun h' tk ks S' K' keep => ?_
  ·have hv' : its[i]? = some v := by simpa using hv
   have hi : i < xs.length := by
    have := (List.getElem?_eq_some_iff.mp hv').1
    rw [rv.length]; exact this
   obtain ⟨u, e1, e2⟩ := Vals.get rv (List.getElem?_eq_getElem hi)
   rw [hv'] at e1
   cases e1
   obtain ⟨b, e3, e4⟩ := hks i _ (List.getElem?_eq_getElem hi)
   rw [e3] at e2
   cases e2
   exact ⟨⟨b, _, rfl, e4⟩, b, rfl, tk_of I1 e4⟩
  ·obtain ⟨o, es, ep, t, z1, z2, z3, z4, z5, z6, z7, z8⟩ := S'
   have I2 : Inv X pins σ H1 { s1 with heap := h', toks := tk } := I1.kept keep
   have I3 : Inv X ((s1.heap.objs.size, o) :: pins) σ H1 { s1 with heap := h', toks := tk } := by
    refine I2.pins_of fun p hp => ?_
    rcases List.mem_cons.mp hp with rfl | hp
    ·refine ⟨z1, I1.hok.fresh (Nat.le_refl _), Nat.ne_of_gt I1.lt, I1.nofs (Nat.le_refl _), fun v hv => ?_⟩
     rw [z3] at hv
     exact nomatch hv
    ·exact I2.pin p (List.mem_append_right _ hp)
   refine ⟨_, o, ks, H1, rfl, I3, ⟨o, es, ep, t, z1, z2, z3, z4, z5, z6, z7, z8⟩, fun p hp => Nat.ne_of_lt (Heap.lt_size (I1.pin p (List.mem_append_right _ hp)).1), q ks z7 fun k => (K' k).trans ?_⟩
   rw [hsz]
   constructor
   ·rintro ⟨j, hj, rfl⟩
    show kl.getD j [] ∈ kl
    rw [List.getD_eq_getElem?_getD, List.getElem?_eq_getElem hj]
    exact List.getElem_mem hj
   ·intro hk
    obtain ⟨j, hj⟩ := List.getElem?_of_mem hk
    refine ⟨j, (List.getElem?_eq_some_iff.mp hj).1, ?_⟩
    show kl.getD j [] = k
    rw [List.getD_eq_getElem?_getD, hj]
    rfl
 rcases hq with hq | hq
 ·obtain ⟨its, rv, pl, _⟩ := I1.list hq
  exact go its rv fun kl' Q' h1 h2 h3 => call_set_tups (kl := kl') (I1.ok.hd hc) (by lia) pl.isList h1 h2 h3
 ·obtain ⟨its, rv, it, hz⟩ := I1.tuple hq
  exact go its rv fun kl' Q' h1 h2 h3 => call_set_tupT (kl := kl') (I1.ok.hd hc) (by lia) it h1 h2 h3
end
noncomputable def rowsI : List D -> Option (List (List Int))
 | [] => some []
 | .tuple ds :: r => (intsD ds).bind fun is => (rowsI r).bind fun rs => some (is :: rs)
 | _ => none
theorem rowsI_rep {K : PySem.W.Frag} {F : Addr -> Prop} {H : Hp} : ∀ {ds : List D} {vs : List V} {kl : List (List Int)}, Reps K F H ds vs -> rowsI ds = some kl -> ds.length = kl.length /\ ∀ (i : Nat) (x : V), vs[i]? = some x -> ∃ b, x = .ref b /\ SqT K H b ((kl.getD i []).map V.int) := by
 intro ds
 induction ds with
 | nil => intro vs kl r h; cases r; cases h; exact ⟨rfl, fun i x e => by simp at e⟩
 | cons d ds ih =>
  intro vs kl r h
  cases r with
  | cons r0 r =>
   cases d with
   | tuple xs =>
    cases r0 with
    | tup h1 r1 =>
     obtain ⟨is, e1, h⟩ := bnd h
     obtain ⟨rs, e2, h⟩ := bnd h
     cases h
     obtain ⟨q1, q2⟩ := ih r e2
     refine ⟨by simp [q1], fun i x e => ?_⟩
     cases i with
     | zero =>
      cases e
      refine ⟨_, rfl, ?_⟩
      rw [ints_rep r1 e1] at h1
      exact h1
     | succ i => exact q2 i x (by simpa using e)
   | _ => cases h
noncomputable def tDSt (K : PySem.W.Frag) (g : Rho -> Option (List (List Int))) : TSt := fun σ H Q => ∃ (F : Addr -> Prop) (H₀ : Hp) (ρ : Rho) (kl : List (List Int)), StOk K F H H₀ σ ρ /\ g ρ = some kl /\ ∀ F' H' (ks : List (List Int)), Ext F F' H H' -> ks.Nodup -> (∀ k, k ∈ ks ↔ k ∈ kl) -> Q ks H'
noncomputable def DSt (X : Cx) (e : Expr) (g : Rho -> Option (List (List Int))) : Prop := PSt X e (tDSt X.K g)
noncomputable def setD : List D -> Option (List (List Int))
 | [.list xs] => if xs.length <= 75 then rowsI xs else none
 | [.tuple xs] => if xs.length <= 75 then rowsI xs else none
 | _ => none
noncomputable def eSet (gr : Rho -> Option (List D)) : Rho -> Option (List (List Int)) := fun ρ => (gr ρ).bind setD
noncomputable def dd : List (List Int) -> List (List Int)
 | [] => []
 | k :: r => if k ∈ r then dd r else k :: dd r
theorem mem_dd : ∀ {l : List (List Int)} {k : List Int}, k ∈ dd l ↔ k ∈ l
 | [], k => by simp [dd]
 | x :: r, k => by
  unfold dd
  split
  ·rename_i h
   rw [mem_dd, List.mem_cons]
   constructor
   ·exact .inr
   ·rintro (rfl | h')
    ·exact h
    ·exact h'
  ·rw [List.mem_cons, List.mem_cons, mem_dd]
theorem nodup_dd : ∀ l : List (List Int), (dd l).Nodup
 | [] => List.nodup_nil
 | x :: r => by
  unfold dd
  split
  ·exact nodup_dd r
  ·rename_i h
   exact List.nodup_cons.mpr ⟨fun q => h (mem_dd.mp q), nodup_dd r⟩
section
variable {X : Cx} {e : Expr} {p pos : Pos} {gr : Rho -> Option (List D)} {g : Rho -> Option (List (List Int))}
theorem ps_mono {e : Expr} {t t' : TSt} (h : PSt X e t) (m : ∀ σ H Q, t' σ H Q -> t σ H Q) : PSt X e t' := fun pins s σ H Q I q => h pins s σ H Q I (m σ H Q q)
theorem dst_set {x : Str} (hc : X.calm = true) (hu : X.A.units + 64 < cLine) (hg : Gl X x) (hm : X.mg x = none) (hv : bootBuiltins x = some (.type "set")) (ha : DA X [e] gr) (hn : x ≠ "__name__" := by decide) (hdb : (x == ("__debug__" : Str)) = false := by decide)
  (he : starEach [e] X.env = (false, eval e X.env) :: starEach [] X.env := by rfl) (hpl : (backTo pos (starEach [] X.env)).any (·.1) = false := by rfl) :
  DSt X (.Call (.Name x p) [e] [] pos) (eSet gr) :=
 ps_mono (ps_set hc hu hg hm hv ha hn hdb he hpl) fun σ H Q zz => by
  obtain ⟨F, H₀, ρ, kl, S, q, k⟩ := zz
  obtain ⟨ds, e1, q⟩ := bnd q
  refine ⟨F, H₀, ρ, ds, S, e1, fun F1 H1 vs E1 R1 => ?_⟩
  unfold setD at q
  split at q
  ·rename_i xs
   by_cases c : xs.length <= 75
   ·rw [if_pos c] at q
    cases R1 with
    | cons R2 R3 =>
     cases R3
     cases R2 with
     | @lst a us _ h1 r1 =>
      obtain ⟨z1, z2⟩ := rowsI_rep r1 q
      exact ⟨a, us, kl, rfl, .inl h1.sq, by rw [<- r1.length]; exact c, by rw [<- r1.length, z1], z2, fun ks hn hk => k F1 H1 ks E1 hn hk⟩
   ·rw [if_neg c] at q; cases q
  ·rename_i xs
   by_cases c : xs.length <= 75
   ·rw [if_pos c] at q
    cases R1 with
    | cons R2 R3 =>
     cases R3
     cases R2 with
     | @tup a us _ h1 r1 =>
      obtain ⟨z1, z2⟩ := rowsI_rep r1 q
      exact ⟨a, us, kl, rfl, .inr h1, by rw [<- r1.length]; exact c, by rw [<- r1.length, z1], z2, fun ks hn hk => k F1 H1 ks E1 hn hk⟩
   ·rw [if_neg c] at q; cases q
  ·cases q
end
end SL
namespace PySem.F
theorem set_iter_entry : entryFor table "set.__iter__" = some Builtin.«frozenset.__iter__» :=
 entryFor_alias (id' := "frozenset.__iter__") (by kernel_rfl) rfl (by decide +kernel) (by kernel_rfl)
theorem set_sub_entry : entryFor table "set.__sub__" = some Builtin.«frozenset.__sub__» :=
 entryFor_alias (id' := "frozenset.__sub__") (by kernel_rfl) rfl (by decide +kernel) (by kernel_rfl)
theorem si_owner : Manifest.owners.lookup (String.ofList ['r', 'o', 't', 'a', 'r', 'e', 't', 'i', '_', 't', 'e', 's'].reverse) = some Manifest.sig_set_iterator := by kernel_rfl
theorem si_next : Slot "set_iterator" "__next__" "set_iterator.__next__" :=
 .of (owner := "set_iterator") (n := "__next__") (by rw [typeLookup_type, builtinLookup_eq_fast]; kernel_rfl) (by decide +kernel) (by decide +kernel) (by decide +kernel)
  (.inl (by decide +kernel)) (by rw [isSubtype_type]; kernel_rfl)
theorem si_iter : Slot "set_iterator" "__iter__" "set_iterator.__iter__" :=
 .of (owner := "set_iterator") (n := "__iter__") (by rw [typeLookup_type, builtinLookup_eq_fast]; kernel_rfl) (by decide +kernel) (by decide +kernel) (by decide +kernel)
  (.inl (by decide +kernel)) (by rw [isSubtype_type]; kernel_rfl)
theorem si_iter_entry : entryFor table "set_iterator.__iter__" = some Builtin.«dict_keyiterator.__iter__» :=
 entryFor_alias (id' := "dict_keyiterator.__iter__") (by kernel_rfl) rfl (by decide +kernel) (by kernel_rfl)
theorem si_iter_args (a : Value) : argsOk "set_iterator.__iter__" ⟨[a], []⟩ := by
 unfold argsOk; rw [signature?_of (id := "set_iterator.__iter__") (n := ['_', '_', 'r', 'e', 't', 'i', '_', '_']) (o := ['r', 'o', 't', 'a', 'r', 'e', 't', 'i', '_', 't', 'e', 's']) (by kernel_rfl) si_owner]; kernel_rfl
theorem si_next_entry : entryFor table "set_iterator.__next__" = some Builtin.«set_iterator.__next__» := entryFor_of_tree (by kernel_rfl)
theorem si_next_args (a : Value) : argsOk "set_iterator.__next__" ⟨[a], []⟩ := by
 unfold argsOk; rw [signature?_of (id := "set_iterator.__next__") (n := ['_', '_', 't', 'x', 'e', 'n', '_', '_']) (o := ['r', 'o', 't', 'a', 'r', 'e', 't', 'i', '_', 't', 'e', 's']) (by kernel_rfl) si_owner]; kernel_rfl
end PySem.F
namespace ST
open PySem PySem.SetTable PyProof.Rows
theorem pick_perm {α : Type} (next : Nat -> Nat) : ∀ (fuel k : Nat) (left : List α) (out : Array α), left.length = fuel -> List.Perm (pickOrder.go next fuel k left out).toList (out.toList ++ left)
 | 0, k, left, out, h => by
  have : left = [] := List.length_eq_zero_iff.mp h
  subst this
  rw [List.append_nil]
  exact .refl _
 | fuel + 1, k, left, out, h => by
  have hl : next k % left.length < left.length := Nat.mod_lt _ (by lia)
  unfold pickOrder.go
  rw [List.getElem?_eq_getElem hl]
  dsimp only
  refine (pick_perm next fuel (k + 1) _ _ (by rw [List.length_eraseIdx_of_lt hl]; lia)).trans ?_
  rw [Array.toList_push, List.append_assoc]
  refine List.Perm.append_left _ ?_
  rw [List.eraseIdx_eq_take_drop_succ]
  have e : left = left.take (next k % left.length) ++ left[next k % left.length] :: left.drop (next k % left.length + 1) := by
   rw [<- List.drop_eq_getElem_cons hl, List.take_append_drop]
  refine List.Perm.trans ?_ (.of_eq e.symm)
  show List.Perm (left[next k % left.length] :: (left.take (next k % left.length) ++ left.drop (next k % left.length + 1))) _
  exact List.perm_middle.symm
noncomputable def ordW (w : World) (a ep : Nat) (es : Array (Int × Value)) : Array (Int × Value) := if w.params.followText "set-order" = true then pickOrder (w.params.setOrder a ep) es else es
theorem ord_perm (w : World) (a ep : Nat) (es : Array (Int × Value)) : List.Perm (ordW w a ep es).toList es.toList := by
 unfold ordW
 split
 ·exact (pick_perm _ es.size 0 es.toList #[] (by simp)).trans (by simp)
 ·exact .refl _
theorem ord_size (w : World) (a ep : Nat) (es : Array (Int × Value)) : (ordW w a ep es).size = es.size := by
 have := (ord_perm w a ep es).length_eq
 simpa using this
theorem below_zero (xs : Array Nat) (s : Up xs.toList) : below xs 0 = 0 := by
 obtain ⟨h1, h2, h3⟩ := below_spec xs s 0
 by_cases c : below xs 0 = 0
 ·exact c
 ·have hl : 0 < xs.toList.length := by rw [Array.length_toList]; lia
  have := h2 0 _ (List.getElem?_eq_getElem hl) (by lia)
  lia
theorem below_succ (xs : Array Nat) (s : Up xs.toList) {i j : Nat} (h : xs.toList[i]? = some j) : below xs (j + 1) = i + 1 := by
 obtain ⟨h1, h2, h3⟩ := below_spec xs s (j + 1)
 have hi := (List.getElem?_eq_some_iff.mp h).1
 rw [Array.length_toList] at hi
 by_cases a : below xs (j + 1) <= i
 ·have := h3 i j h a
  lia
 ·by_cases b : below xs (j + 1) = i + 1
  ·exact b
  ·have hl : i + 1 < xs.toList.length := by rw [Array.length_toList]; lia
   have e := List.getElem?_eq_getElem hl
   have := h2 _ _ e (by lia)
   have := s.at h e (by lia)
   lia
structure SetAt (w : World) (h : Heap) (a : Addr) (o : Obj) (es : Array (Int × Value)) (ep : Nat) (t : SetTable) : Prop where
 get : h.get? a = some o
 ex : o.ExactSet
 data : o.data = .set es ep t
 fits : t.fits es.size = true
 up : Up t.place.toList
 plain : t.plain = true
 led : t.led = ledW w
theorem SetAt.at {w : World} {h h' : Heap} {a : Addr} {o : Obj} {es : Array (Int × Value)} {ep : Nat} {t : SetTable} (S : SetAt w h a o es ep t) (e : h'.get? a = some o) : SetAt w h' a o es ep t := ⟨e, S.ex, S.data, S.fits, S.up, S.plain, S.led⟩
noncomputable def IsSetIter (h : Heap) (I a : Addr) (slot i n ep : Nat) : Prop := ∃ o, h.get? I = some o /\ o.cls = .type "set_iterator" /\ o.data = .fields #[.int slot 0, .int i 0, .ref a, .int n 0, .int ep 0]
section
variable {prog : Program} {w : World} {A : Around} {E : Value -> Shared -> Prop} {s : Shared} {I a : Addr} {o : Obj} {es : Array (Int × Value)} {ep slot i : Nat} {t : SetTable}
theorem IsSetIter.typeIs {n : Nat} (h : IsSetIter s.heap I a slot i n ep) : s.TypeIs (.ref I) "set_iterator" := by
 obtain ⟨o, h1, h2, _⟩ := h
 exact ⟨o, h1, h2⟩
theorem by_text {Q : Bool -> Shared -> Prop} (h : Q (w.params.followText "set-order") s) : wpAny (model prog w) A setsByText Q E s := by
 unfold setsByText
 exact wpAny_bind (wpAny_askSetting (wpAny_pure h))
theorem walk_at {Q : Array (Int × Value) -> Shared -> Prop} (S : SetAt w s.heap a o es ep t) (h : Q (ordW w a ep es) s) : wpAny (model prog w) A (setWalk a) Q E s := by
 unfold setWalk
 refine wpAny_bind (wpAny_setState_of S.get S.data S.fits ?_)
 dsimp only
 refine wpAny_bind (by_text ?_)
 unfold ordW at h
 cases c : w.params.followText "set-order" with
 | true =>
  rw [c, if_pos rfl] at h
  rw [if_pos rfl]
  exact wpAny_bind (wpAny_askSetting (wpAny_pure h))
 | false =>
  rw [c, if_neg Bool.false_ne_true] at h
  rw [if_neg Bool.false_ne_true]
  have hd : (!t.plain && decide (es.size > 1)) = false := by rw [S.plain]; rfl
  have hl : (!t.led && decide (es.size > 1)) = false := by rw [S.led, ledW, c]; rfl
  show wpAny _ _ (if (!t.plain && decide (es.size > 1)) = true then _ else _) _ _ s
  rw [hd, if_neg Bool.false_ne_true]
  refine wpAny_bind ?_
  show wpAny _ _ (if (!t.led && decide (es.size > 1)) = true then _ else _) _ _ s
  rw [hl, if_neg Bool.false_ne_true]
  exact wpAny_pure (wpAny_pure h)
theorem next_at {Q : Option (Value × Nat) -> Shared -> Prop} (S : SetAt w s.heap a o es ep t) (hb : w.params.followText "set-order" = false -> below t.place slot = i)
  (h1 : ∀ x next, (ordW w a ep es)[i]? = some x -> (w.params.followText "set-order" = false -> below t.place next = i + 1) -> Q (some (x.2, next)) s) (h2 : es.size <= i -> Q none s) :
  wpAny (model prog w) A (setNext a slot i ep) Q E s := by
 unfold setNext
 refine wpAny_bind (wpAny_setState_of S.get S.data S.fits ?_)
 dsimp only
 refine wpAny_bind (by_text ?_)
 cases c : w.params.followText "set-order" with
 | true =>
  rw [if_pos rfl, if_neg (by simp)]
  refine wpAny_bind (walk_at S (wpAny_pure ?_))
  by_cases l : i < es.size
  ·have l' : i < (ordW w a ep es).size := by rw [ord_size]; exact l
   rw [Array.getElem?_eq_getElem l']
   exact h1 _ _ (Array.getElem?_eq_getElem l') fun e => by rw [c] at e; cases e
  ·rw [Array.getElem?_eq_none (by rw [ord_size]; lia)]
   exact h2 (by lia)
 | false =>
  rw [if_neg Bool.false_ne_true]
  have hd : (!t.plain && decide (es.size > 1)) = false := by rw [S.plain]; rfl
  have hl : (!t.led && !es.isEmpty) = false := by rw [S.led, ledW, c]; rfl
  show wpAny _ _ (if (!t.plain && decide (es.size > 1)) = true then _ else _) _ _ s
  rw [hd, if_neg Bool.false_ne_true]
  refine wpAny_bind ?_
  show wpAny _ _ (if (!t.led && !es.isEmpty) = true then _ else _) _ _ s
  rw [hl, if_neg Bool.false_ne_true]
  refine wpAny_pure (wpAny_pure ?_)
  have hps : t.place.size = es.size := by
   have := S.fits
   unfold SetTable.fits at this
   rw [Bool.and_eq_true, beq_iff_eq] at this
   exact this.1
  rw [hb c]
  have ho : ordW w a ep es = es := by unfold ordW; rw [c, if_neg Bool.false_ne_true]
  rw [ho] at h1
  by_cases l : i < es.size
  ·have l' : i < t.place.size := by lia
   rw [Array.getElem?_eq_getElem l, Array.getElem?_eq_getElem l']
   refine h1 _ _ (Array.getElem?_eq_getElem l) fun _ => below_succ _ S.up ?_
   rw [Array.getElem?_toList, Array.getElem?_eq_getElem l']
  ·rw [Array.getElem?_eq_none (by lia)]
   exact h2 (by lia)
theorem iter_at {Q : Value -> Shared -> Prop} (S : SetAt w s.heap a o es ep t)
  (h : Q (.ref s.heap.objs.size) { s with heap := s.heap.push { cls := .type "set_iterator", data := .fields #[.int 0 0, .int 0 0, .ref a, .int (es.size : Nat) 0, .int (ep : Nat) 0] } }) : wpAny (model prog w) A (pyIter (.ref a)) Q E s := by
 have hT : s.TypeIs (.ref a) "set" := ⟨o, S.get, S.ex.1⟩
 refine wpAny_pyIter_slot hT F.slot_set_iter (wpAny_call_entry F.slot_set_iter hT F.set_iter_entry ?_ (F.args_set_iter_1 _))
 unfold Builtin.«frozenset.__iter__» Builtin.Frozenset.slot0 slotArgs
 simp only [List.isEmpty_nil, Bool.not_true, Bool.false_eq_true, ↓reduceIte, bind_assoc, List.length_nil, bne_self_eq_false]
 unfold Builtin.Frozenset.addrOf Builtin.Frozenset.sizeOf
 refine wpAny_bind (wpAny_pure ?_)
 refine wpAny_bind (wpAny_pure ?_)
 refine wpAny_bind (wpAny_bind (wpAny_setEntries_of S.get S.data S.fits (wpAny_pure ?_)))
 unfold setDrawn
 refine wpAny_bind (wpAny_bind (wpAny_setState_of S.get S.data S.fits ?_))
 dsimp only
 refine wpAny_bind (by_text ?_)
 refine wpAny_pure ?_
 have hd : (!(w.params.followText "set-order") && (!t.plain && decide (es.size > 1))) = false := by rw [S.plain]; simp
 show wpAny _ _ (if (!(w.params.followText "set-order") && (!t.plain && decide (es.size > 1))) = true then _ else _) _ _ s
 rw [hd, if_neg Bool.false_ne_true]
 refine wpAny_bind (wpAny_pure ?_)
 unfold setEpoch
 refine wpAny_bind (wpAny_bind (wpAny_setState_of S.get S.data S.fits (wpAny_pure ?_)))
 exact wpAny_bind (wpAny_newObj_type (wpAny_pure ⟨_, rfl, "set_iterator", _, ⟨_, Heap.get?_push_size _ rfl, rfl⟩, F.si_next.lookup, h⟩))
theorem next_item {Q : Option Value -> Shared -> Prop} (hit : IsSetIter s.heap I a slot i es.size ep) (S : SetAt w s.heap a o es ep t) (hb : w.params.followText "set-order" = false -> below t.place slot = i) (hi : i < es.size)
  (hQ : ∀ x h' next, (ordW w a ep es)[i]? = some x -> (w.params.followText "set-order" = false -> below t.place next = i + 1) -> IsSetIter h' I a next (i + 1) es.size ep -> Heap.SameBut I s.heap h' -> Q (some x.2) { s with heap := h' }) :
  wpAny (model prog w) A (pyNext (.ref I)) Q E s := by
 obtain ⟨oi, hoi, hc, hd⟩ := id hit
 unfold pyNext
 refine wpAny_bind (wpAny_attempt (wpAny_callSpecial?_slot (name := Str.ofString "__next__") hit.typeIs F.si_next
  (wpAny_call_entry F.si_next hit.typeIs F.si_next_entry ?_ (F.si_next_args _))))
 show wpAny _ _ (fieldsOf (.ref I) >>= _) _ _ s
 refine wpAny_bind (wpAny_fieldsOf hoi hd ?_)
 dsimp only
 refine wpAny_bind (wpAny_setEntries_of S.get S.data S.fits ?_)
 rw [if_neg (by simp)]
 refine wpAny_bind (next_at (i := i) (slot := slot) S hb (fun x next h1 h2 => ?_) fun h => absurd hi (by lia))
 dsimp only
 refine wpAny_bind (wpAny_setField hoi hd (by simp) ?_)
 have h1g := Heap.get?_update_self (Obj.mapFields (·.setIfInBounds 0 (rawInt next))) hoi (Obj.isFreed_of_fields (Obj.data_mapFields hd _))
 have h1d := Obj.data_mapFields hd (fun x => x.setIfInBounds 0 (rawInt next))
 refine wpAny_bind (wpAny_setField h1g h1d (by simp) (wpAny_pure ⟨_, rfl, wpAny_pure (hQ x _ next h1 h2 ?_ ((Heap.SameBut.update ..).trans (Heap.SameBut.update ..)))⟩))
 refine ⟨_, Heap.get?_update_self _ h1g (Obj.isFreed_of_fields (Obj.data_mapFields h1d _)), ((Obj.cls_mapFields ..).trans (Obj.cls_mapFields ..)).trans hc, ?_⟩
 rw [Obj.data_mapFields h1d]
 simp [rawInt]
theorem next_end {Q : Option Value -> Shared -> Prop} (hh : A.handled = none) (hit : IsSetIter s.heap I a slot es.size es.size ep) (S : SetAt w s.heap a o es ep t) (hb : w.params.followText "set-order" = false -> below t.place slot = es.size)
  (hQ : ∀ h', Heap.ExtBut I s.heap h' -> Q none { s with heap := h' }) :
  wpAny (model prog w) A (pyNext (.ref I)) Q E s := by
 obtain ⟨oi, hoi, hc, hd⟩ := id hit
 unfold pyNext
 refine wpAny_bind (wpAny_attempt (wpAny_callSpecial?_slot (name := Str.ofString "__next__") hit.typeIs F.si_next
  (wpAny_call_entry F.si_next hit.typeIs F.si_next_entry ?_ (F.si_next_args _))))
 show wpAny _ _ (fieldsOf (.ref I) >>= _) _ _ s
 refine wpAny_bind (wpAny_fieldsOf hoi hd ?_)
 dsimp only
 refine wpAny_bind (wpAny_setEntries_of S.get S.data S.fits ?_)
 rw [if_neg (by simp)]
 refine wpAny_bind (next_at (i := es.size) (slot := slot) S hb (fun x next h1 h2 => ?_) fun _ => ?_)
 ·rw [Array.getElem?_eq_none (by rw [ord_size]; exact Nat.le_refl _)] at h1
  cases h1
 dsimp only
 refine wpAny_bind (wpAny_setField hoi hd (by simp) ?_)
 show wpAny _ _ (newExc (.type "StopIteration") [] >>= _) _ _ _
 refine wpAny_bind ?_
 simp only [newExc, newTuple]
 refine wpAny_bind (wpAny_newObj_type ?_ (by size_fits))
 refine wpAny_bind (m := firstArgMember _ _) (wpAny_of_eq (a := Value.none) (by first | rfl | (simp only [firstArgMember]; rfl)) ?_)
 refine wpAny_newObj_type ?_ (by size_fits)
 simp only [raiseNew]
 refine wpAny_bind (wpAny_handled ?_)
 first | rw [show A.in1.handled = none from hh] | rw [hh]
 refine wpAny_bind (wpAny_pure (wpAny_throw ?_))
 refine wpAny_bind (wpAny_isInstance (T := "StopIteration") (b := true) ⟨_, Heap.get?_push_size _ rfl, rfl⟩ isSubtype_stop ?_)
 exact wpAny_pure (hQ _ (((Heap.SameBut.update ..).extBut.push _).push _))
theorem Walks.set {prog : Program} {w : World} {A : Around} (hh : A.handled = none) (I a : Addr) (hne : a ≠ I) (o : Obj) (es : Array (Int × Value)) (ep : Nat) (t : SetTable) :
  Walks prog w A I [I, a] [I] es.size (fun i v => ∃ x, (ordW w a ep es)[i]? = some x /\ v = x.2) (fun i h => ∃ slot, (w.params.followText "set-order" = false -> below t.place slot = i) /\ IsSetIter h I a slot i es.size ep /\ SetAt w h a o es ep t) where
 sub := fun b hb => by simp at hb; simp [hb]
 frame := fun _ _ _ ⟨slot, h1, ⟨oi, h2, h3, h4⟩, S⟩ hk => ⟨slot, h1, ⟨oi, hk I (by simp) _ h2, h3, h4⟩, S.at (hk a (by simp) _ S.get)⟩
 item := fun i s Q E hi ⟨slot, h1, hit, S⟩ hQ =>
  next_item hit S h1 hi fun x h' next e1 e2 e3 e4 => hQ _ h' s.toks ⟨x, e1, rfl⟩ ⟨next, e2, e3, S.at ((e4.2 a hne).trans S.get)⟩ fun b o hb e => e4.extBut b o (fun h => hb (by simp [h])) e
 done := fun s Q E ⟨slot, h1, hit, S⟩ hQ => next_end hh hit S h1 fun h' he' => hQ h' s.toks fun b o hb e => he' b o (fun h => hb (by simp [h])) e
 self := fun i s Q E zz hQ => by
  obtain ⟨slot, h1, hit, S⟩ := zz
  refine wpAny_pyIter_slot hit.typeIs F.si_iter (wpAny_call_entry F.si_iter hit.typeIs F.si_iter_entry ?_ (F.si_iter_args _))
  show wpAny _ _ (ret (.ref I)) _ _ s
  exact wpAny_pure ⟨_, rfl, "set_iterator", _, hit.typeIs, F.si_next.lookup, hQ⟩
end
end ST
namespace ST
open PySem PySem.SetTable PyProof.Rows
section
variable {prog : Program} {w : World} {A : Around} {E : Value -> Shared -> Prop} {s : Shared}
theorem hint_set {r : Addr} {Q : Bool -> Shared -> Prop} (hT : s.TypeIs (.ref r) "set") (h : Q false s) : wpAny (model prog w) A (Builtin.List.listLengthHint (.ref r)) Q E s := by
 unfold Builtin.List.listLengthHint
 refine wpAny_bind (wpAny_specialOf hT PySem.F.slot_set_len.lookup ?_)
 generalize hid : ("set.__len__" : String) = id0
 wp_delta
 rw [show splitId id0 = some ("set", "__len__") from by subst hid; decide +kernel]
 subst hid
 refine wpAny_bind (wpAny_isInstance (T := "set") (b := true) hT (by rw [isSubtype_type]; kernel_rfl) ?_)
 refine wpAny_ite_split (fun z => absurd z (by decide)) fun _ => wpAny_ite_split (fun _ => ?_) fun z => absurd (by decide +kernel) z
 exact wpAny_bind (wpAny_typeOf hT (wpAny_pure h))
theorem src_set (a : Addr) (o : Obj) (es : Array (Int × Value)) (ep : Nat) (t : SetTable) : PySem.W.KdlSrc prog w "set" a a es.size (fun i v => ∃ x, (ordW w a ep es)[i]? = some x /\ v = x.2) (fun h => SetAt w h a o es ep t) where
 type := fun s S => ⟨o, S.get, S.ex.1⟩
 there := fun h S => ⟨Heap.lt_size S.get, Heap.lt_size S.get⟩
 keep := fun h h' S hk => S.at (hk a (.inl rfl) o S.get)
 notList := by decide
 notTuple := by decide
 hint := fun A E s Q S h => hint_set ⟨o, S.get, S.ex.1⟩ h
 iter := fun A s hh S => ⟨_, _, fun E Q hQ => iter_at S hQ, Walks.set hh _ a (Nat.ne_of_lt (Heap.lt_size S.get)) o es ep t, ⟨0, fun _ => below_zero _ S.up, ⟨_, Heap.get?_push_size _ rfl, rfl, rfl⟩, S.at (Heap.get?_push_of_some _ S.get)⟩⟩
theorem items_ord {w : World} {a : Addr} {ep : Nat} {es : Array (Int × Value)} {acc : Array Value} (h : ItemsOf (fun i v => ∃ x, (ordW w a ep es)[i]? = some x /\ v = x.2) acc es.size) : acc.toList = (ordW w a ep es).toList.map (·.2) := by
 refine List.ext_getElem? fun i => ?_
 rw [List.getElem?_map, Array.getElem?_toList, Array.getElem?_toList]
 by_cases l : i < es.size
 ·have l' : i < acc.size := by rw [h.1]; exact l
  obtain ⟨x, e1, e2⟩ := h.2 i _ (Array.getElem?_eq_getElem l')
  rw [e1, Array.getElem?_eq_getElem l', e2]
  rfl
 ·rw [Array.getElem?_eq_none (by rw [h.1]; lia), Array.getElem?_eq_none (by rw [ord_size]; lia)]
  rfl
theorem Ents.perm {h : Heap} {es es' : List (Int × Value)} (p : List.Perm es es') : ∀ {ks : List (List Int)}, Ents prog w h es ks -> ∃ ks', Ents prog w h es' ks' /\ List.Perm ks' ks := by
 induction p with
 | nil => intro ks X; exact ⟨ks, X, .refl _⟩
 | cons x _ ih =>
  intro ks X
  cases X with
  | cons h1 r =>
   obtain ⟨ks', X', q⟩ := ih r
   exact ⟨_, .cons h1 X', q.cons _⟩
 | swap x y l =>
  intro ks X
  cases X with
  | cons h1 r => cases r with
   | cons h2 r => exact ⟨_, .cons h2 (.cons h1 r), .swap _ _ _⟩
 | trans _ _ ih1 ih2 =>
  intro ks X
  obtain ⟨k1, X1, q1⟩ := ih1 X
  obtain ⟨k2, X2, q2⟩ := ih2 X1
  exact ⟨k2, X2, q2.trans q1⟩
theorem ItemsAre.unique : ∀ {k k' : List Int} {vs : List Value}, ItemsAre (intKind prog w) k vs -> ItemsAre (intKind prog w) k' vs -> k = k'
 | _, _, _, .nil, h => by cases h; rfl
 | _, _, _, .cons h1 r1, h => by
  cases h with
  | cons h2 r2 =>
   obtain ⟨t1, e1⟩ := Value.isInt_shape h1
   obtain ⟨t2, e2⟩ := Value.isInt_shape h2
   rw [e1] at e2
   cases e2
   rw [ItemsAre.unique r1 r2]
theorem TK.unique {h : Heap} {k k' : List Int} {a : Addr} (x : TK prog w h k a) (y : TK prog w h k' a) : k = k' := by
 obtain ⟨o, items, n, ho, _, hd, hi⟩ := x
 obtain ⟨o', items', n', ho', _, hd', hi'⟩ := y
 rw [ho] at ho'
 cases ho'
 rw [hd] at hd'
 cases hd'
 exact ItemsAre.unique hi hi'
noncomputable def SetV (prog : Program) (w : World) (V : Value -> Prop) (h : Heap) (a : Addr) (o : Obj) (ks : List (List Int)) : Prop :=
 ∃ es ep t, SetAt w h a o es ep t /\ Ents prog w h es.toList ks /\ ks.Nodup /\ ∀ e ∈ es.toList, V e.2
end
end ST
namespace SL
open PySem PySem.Spec PyProof.Rows L2 CL DL SD ST
noncomputable def tupI (k : List Int) : D := .tuple (k.map PyData.int)
section
variable {X : Cx} {pins : List (Addr × Obj)} {σ : L2.St} {H : Hp} {s : Shared}
abbrev VT (K : PySem.W.Frag) (H : Hp) (v : Value) : Prop := ∃ b, ∃ xs : List Int, v = .ref b /\ SqT K H b (xs.map V.int)
noncomputable def StV (X : Cx) (pins : List (Addr × Obj)) (σ : L2.St) (Q : KsK) (u : Value) (s' : Shared) : Prop :=
 ∃ a o ks H', u = .ref a /\ Inv X ((a, o) :: pins) σ H' s' /\ SetV X.prog X.w (VT X.K H') s'.heap a o ks /\ Q ks H'
noncomputable def PSv (X : Cx) (e : Expr) (t : TSt) : Prop :=
 ∀ (pins : List (Addr × Obj)) (s : Shared) (σ : L2.St) (H : Hp) (Q : KsK), Inv X pins σ H s -> t σ H Q -> wpAny (model X.prog X.w) X.A (eval e X.env) (StV X pins σ Q) X.xe s
noncomputable def DSv (X : Cx) (e : Expr) (g : Rho -> Option (List (List Int))) : Prop := PSv X e (tDSt X.K g)
theorem ents_reps {F : Addr -> Prop} (I : Inv X pins σ H s) : ∀ {es : List (Int × Value)} {ks : List (List Int)}, Ents X.prog X.w s.heap es ks -> (∀ e ∈ es, VT X.K H e.2) -> ∃ vs : List V, Reps X.K F H (ks.map tupI) vs /\ Vals vs (es.map (·.2))
 | _, _, .nil, _ => ⟨[], .nil, .nil⟩
 | _, _, .cons (k := k) (b := b) h1 r, hv => by
  obtain ⟨vs, r1, r2⟩ := ents_reps (F := F) I r fun e he => hv e (List.mem_cons_of_mem _ he)
  obtain ⟨b', xs, e1, e2⟩ := hv _ List.mem_cons_self
  cases e1
  have : k = xs := h1.unique (tk_of I e2)
  subst this
  exact ⟨.ref b :: vs, .cons (.tup e2 (ints_reps k)) r1, .cons rfl r2⟩
end
theorem rows_perm {d0 : List D} {ds ds' : List D} (p : List.Perm ds ds') : ∀ {l : List KD}, rowsK d0 ds = some l -> ∃ l', rowsK d0 ds' = some l' /\ List.Perm l' l := by
 induction p with
 | nil => intro l h; exact ⟨l, h, .refl _⟩
 | cons x _ ih =>
  intro l h
  obtain ⟨k, e1, h⟩ := bnd h
  obtain ⟨r, e2, h⟩ := bnd h
  cases h
  obtain ⟨l', q1, q2⟩ := ih e2
  exact ⟨(k, x) :: l', by unfold rowsK; rw [e1, q1]; rfl, q2.cons _⟩
 | swap x y l0 =>
  intro l h
  obtain ⟨k, e1, h⟩ := bnd h
  obtain ⟨r, e2, h⟩ := bnd h
  cases h
  obtain ⟨k2, e3, h⟩ := bnd e2
  obtain ⟨r2, e4, h⟩ := bnd h
  cases h
  exact ⟨(k2, x) :: (k, y) :: r2, by unfold rowsK; rw [e3]; unfold rowsK; rw [e1, e4]; rfl, .swap _ _ _⟩
 | trans _ _ ih1 ih2 =>
  intro l h
  obtain ⟨l1, q1, q2⟩ := ih1 h
  obtain ⟨l2, q3, q4⟩ := ih2 q1
  exact ⟨l2, q3, q4.trans q2⟩
theorem sort_perm_eq {d0 : List D} {ds ds' : List D} {l l' : List KD} (h : rowsK d0 ds = some l) (h' : rowsK d0 ds' = some l') (p : List.Perm l' l) : sortK l' = sortK l := by
 refine sort_unique (((sort_perm l').trans p).trans (sort_perm l).symm) (sort_sorted l') (sort_sorted l) fun a ha b hb e => ?_
 have r := (rows_spec h').2
 have h1 := r a ((sort_perm l').mem_iff.mp ha)
 have h2 := r b ((sort_perm l').mem_iff.mp hb)
 rw [e] at h1
 exact Prod.ext e (row_inj h1 h2)
noncomputable def eSortSet (g : Rho -> Option (List (List Int))) : Rho -> Option D := fun ρ => (g ρ).bind fun kl => dSorted [.list ((dd kl).map tupI)]
section
variable {X : Cx} {e : Expr} {p pos : Pos} {g : Rho -> Option (List (List Int))}
theorem de_sortset {x : Str} (hc : X.calm = true) (hu : X.A.units + 66 < cLine) (hg : Gl X x) (hm : X.mg x = none) (hv : bootBuiltins x = some (.builtin "sorted")) (ha : DSv X e g) (hn : x ≠ "__name__" := by decide) (hdb : (x == ("__debug__" : Str)) = false := by decide)
  (he : starEach [e] X.env = (false, eval e X.env) :: starEach [] X.env := by rfl) (hpl : (backTo pos (starEach [] X.env)).any (·.1) = false := by rfl) :
  DE X (.Call (.Name x p) [e] [] pos) (eSortSet g) := by
 intro pins s σ H Q I ⟨F, H₀, ρ, d, S, q, k⟩
 obtain ⟨kl, e1, q⟩ := bnd q
 refine wpAny_Call_Name_kw (ld_blt I hg hm hv ?_ hn hdb)
 refine PyProof.Rows.callWith_builtin1 (Q := ?_) ?_ he hpl
 rw [he]
 show wpAny _ _ (spliced ((false, eval e X.env) :: backTo pos (starEach [] X.env))) _ _ s
 refine Calls.spliced_cons (thn (ha pins s σ H (fun ks H1 => ks.Nodup /\ (∀ k, k ∈ ks ↔ k ∈ kl) /\ ∃ F1, Ext F F1 H H1) I ⟨F, H₀, ρ, kl, S, e1, fun F1 H1 ks E1 n1 m1 => ⟨n1, m1, F1, E1⟩⟩) fun u s1 ⟨a, o, ks, H1, eu, I1, ⟨es, ep, t, S1, X1, n1, v1⟩, _, m1, F1, E1⟩ => ?_)
 refine Calls.spliced_nil ?_
 subst eu
 refine Calls.call_function_entry kind_sorted plain_sorted entry_sorted (args_sorted1 _) ?_
 unfold Builtin.«sorted»
 have pk : List.Perm ks (dd kl) := (List.perm_ext_iff_of_nodup n1 (nodup_dd kl)).mpr fun k => (m1 k).trans mem_dd.symm
 have hlen : es.size = (dd kl).length := by rw [<- Array.length_toList, X1.length, pk.length_eq]
 have l64 : (dd kl).length < 64 := by
  cases c : dd kl with
  | nil => decide
  | cons k0 kr =>
   rw [c] at q
   have q' : (if (kr.map tupI).length < 63 then _ else none) = some d := q
   by_cases z : (kr.map tupI).length < 63
   ·rw [List.length_map] at z; simp; lia
   ·rw [if_neg z] at q'; cases q'
 refine wpAny_bind (m := checkCount "sorted" 1 1 _) (wpAny_pure (wpAny_bind (PySem.W.kdu_collect (src_set a o es ep t) (by simp [I1.ok.hd hc]) S1 (line1000 (by lia)) fun h' tk acc hk hacc => ?_)))
 have I2 : Inv X pins σ H1 { s1 with heap := h', toks := tk } := (I1.pins_of fun p hp => I1.pin p (List.mem_append_right _ (List.mem_cons_of_mem _ hp))).kept hk
 obtain ⟨ks', X2, p2⟩ := (X1.mono fun k b x => x.at fun o e => hk b o e).perm (ord_perm X.w a ep es).symm
 obtain ⟨vs, r1, r2⟩ := ents_reps (F := F1) I2 X2 fun e he => v1 e ((ord_perm X.w a ep es).mem_iff.mp he)
 rw [<- items_ord hacc] at r2
 have form : ∃ d0 l, rowsK d0 ((dd kl).map tupI) = some l /\ d = .list ((sortK l).map (·.2)) := by
  cases c : dd kl with
  | nil => rw [c] at q; cases q; exact ⟨[], [], rfl, rfl⟩
  | cons k0 kr =>
   rw [c] at q
   have q' : (if (kr.map tupI).length < 63 then (rowsK (k0.map PyData.int) ((k0 :: kr).map tupI)).bind fun l => some (PyData.list ((sortK l).map (·.2))) else none) = some d := q
   by_cases z : (kr.map tupI).length < 63
   ·rw [if_pos z] at q'
    obtain ⟨l, e2, q'⟩ := bnd q'
    cases q'
    exact ⟨_, l, e2, rfl⟩
   ·rw [if_neg z] at q'; cases q'
 obtain ⟨d0, l, f1, rfl⟩ := form
 obtain ⟨l', f2, f3⟩ := rows_perm ((p2.trans pk).map tupI).symm f1
 refine sorted_tail hu I2 r2 r1 f2 (by rw [List.length_map, (p2.trans pk).length_eq]; exact l64) fun p vs' hp r' _ => ?_
 rw [sort_perm_eq f1 f2 f3] at r'
 exact k _ _ _ (E1.trans (Ext.frozen hp)) (Rep.newLst hp r')
end
end SL
namespace SL
open PySem PySem.Spec PyProof.Rows L2 CL DL SD
section
variable {X : Cx} {e st : Expr} {p2 pos : Pos}
end
end SL
namespace TL
open PySem PySem.Spec PyProof.Rows L2 HT
theorem nofill_tm : fillsNumberSlot (.type "tuple") "mul" = pure false :=
 PySem.fillsNumberSlot_seq (id := "tuple.__mul__") (r := some (.builtin "tuple.__rmul__")) PySem.F.slot_tuple_mul.lookup (by decide +kernel) PySem.F.slot_tuple_rmul.lookup (by decide +kernel)
theorem rep_tm : seqRepeat? (.type "tuple") = pure (some (.builtin "tuple.__mul__")) := by
 unfold seqRepeat?
 rw [PySem.seqSlot_of (T := "tuple") (name := "__mul__") (id := "tuple.__mul__") PySem.F.slot_tuple_mul.lookup (by decide +kernel), PySem.seqSlot_of (T := "tuple") (name := "__rmul__") (id := "tuple.__rmul__") PySem.F.slot_tuple_rmul.lookup (by decide +kernel)]
 rfl
theorem rmul_tm (a : Int) (t : Tok) (l : Addr) (items : Array Value) (n : Nat) (dd : Option Addr) (sl : Array (Option Value)) :
  Meets (Builtin.«int.__rmul__» ⟨[.int a t, .ref l], []⟩) (fun _ R s => s.heap.get? l = some { cls := .type "tuple", dict := dd, data := .seq items n, slots := sl } /\ R (.ok (.ret Value.notImplemented)) s) :=
 .of_wp fun prog w A R s h => by
  obtain ⟨hp, g, d, tk, os⟩ := s
  obtain ⟨hl, h⟩ := h
  wp_walk
  exact ⟨_, rfl, h⟩
theorem mul2_tm (t : Tok) (l : Addr) (items : Array Value) (n : Nat) (dd : Option Addr) (sl : Array (Option Value)) (hne : items.isEmpty = false) (hsz : items.size + items.size <= 16777216) :
  Meets (Builtin.«tuple.__mul__» ⟨[.ref l, .int 2 t], []⟩) (fun _ R s => s.heap.get? l = some { cls := .type "tuple", dict := dd, data := .seq items n, slots := sl } /\ R (.ok (.ret (Value.ref s.heap.objs.size))) { s with heap := s.heap.push { cls := Value.type "tuple", data := Data.seq (items ++ items) }, toks := s.toks }) :=
 .of_wp fun prog w A R s h => by
  obtain ⟨hp, g, d, tk, os⟩ := s
  obtain ⟨hl, h⟩ := h
  have f1 := AutoSeq1.idx_int
  have c1 : (items.isEmpty || (2 : Int) == 1) = false := by rw [hne]; rfl
  have c2 : (decide ((2 : Int) <= 0) || items.isEmpty) = false := by rw [hne]; rfl
  have c3 : ¬ ((items.size : Int) * 2 > (2 ^ 63 - 1) / 8) := by
   have : ((2 : Int) ^ 63 - 1) / 8 = 1152921504606846975 := by decide
   lia
  have c4 : Builtin.Tuple.tupleTooMany ((items.size : Int) * 2) = false := by
   unfold Builtin.Tuple.tupleTooMany
   rw [sizeLine_eq]
   exact decide_eq_false (by lia)
  have c5 : (List.replicate ((2 : Int).toNat) items).foldl (fun x y => x ++ y) #[] = items ++ items := by
   show (#[] ++ items) ++ items = items ++ items
   simp
  have c6 : sizeOk (.seq (items ++ items)) := by
   show (items ++ items).size <= sizeLine
   rw [Array.size_append, sizeLine_eq]; exact hsz
  unfold Builtin.«tuple.__mul__»
  wp_walk using wpAny_loadPart' hl
  rw [if_neg c3]
  dsimp only
  rw [c4, if_neg Bool.false_ne_true, c5]
  exact wpAny_bind (m := Builtin.Tuple.tupleExact _) (wpAny_newObj_type (wpAny_pure ⟨_, rfl, h⟩) c6)
section
variable {prog : Program} {w : World} {A : Around} {E : Value -> Shared -> Prop} {s : Shared}
theorem mul2_tup {t : Addr} {vs : List Value} {u : Tok} {Q : Value -> Shared -> Prop} (ht : IsTup s.heap t vs.toArray) (hv : vs ≠ []) (hz : vs.length + vs.length <= 16777216)
  (h : Q (.ref s.heap.objs.size) { s with heap := s.heap.push { cls := .type "tuple", data := .seq (vs ++ vs).toArray } }) : wpAny (model prog w) A (binaryOp .Mult (.ref t) (.int 2 u)) Q E s := by
 obtain ⟨⟨cls, dd, data, sl⟩, ho, hc, n, hd⟩ := id ht
 simp only at hc hd
 subst hc hd
 have hne : vs.toArray.isEmpty = false := by cases vs with
  | nil => exact absurd rfl hv
  | cons _ _ => rfl
 have e : vs.toArray ++ vs.toArray = (vs ++ vs).toArray := by simp
 refine wpAny_binaryOp_repeat_ref (T := "tuple") (U := "int") (by decide) ⟨_, ho, rfl⟩ (fun s' => typeIs_int s' 2 u) nofill_tm PySem.F.fills_int_mul PySem.F.slot_int_rmul rep_tm PySem.F.slot_int_index.lookup
  (call_meets PySem.F.slot_int_rmul (typeIs_int s 2 u) PySem.F.entry_int_rmul (PySem.F.args_int_rmul_2 _ _) (rmul_tm 2 u t vs.toArray n dd sl)
   ⟨ho, rfl, ⟨_, ho, rfl⟩, call_meets PySem.F.slot_tuple_mul ⟨_, ho, rfl⟩ PySem.F.entry_tuple_mul (PySem.F.args_tuple_mul_2 _ _) (mul2_tm u t vs.toArray n dd sl hne (by simpa using hz)) ⟨ho, ?_⟩⟩)
 rw [e]
 exact h
theorem cat0_tup {t b : Addr} {ws : List Value} {Q : Value -> Shared -> Prop} (ht : IsTup s.heap t #[]) (hb : IsTup s.heap b ws.toArray) (h : Q (.ref b) s) : wpAny (model prog w) A (binaryOp .Add (.ref t) (.ref b)) Q E s := by
 obtain ⟨⟨cls, dd, data, sl⟩, ho, hc, n, hd⟩ := id ht
 obtain ⟨⟨cls2, dd2, data2, sl2⟩, ho2, hc2, n2, hd2⟩ := id hb
 simp only at hc hd hc2 hd2
 subst hc hd hc2 hd2
 exact concat_meets ⟨_, ho, rfl⟩ ⟨_, ho2, rfl⟩ noFill_tuple_add seq_tuple_add PySem.F.slot_tuple_add PySem.F.entry_tuple_add (PySem.F.args_tuple_add_2 _ _) (tuple_addW0 t b #[] ws.toArray n n2 dd dd2 sl sl2 rfl) ⟨ho, ho2, h⟩
theorem cat_lst {t b : Addr} {vs ws : List Value} {Q : Value -> Shared -> Prop} (ht : s.heap.IsList t vs.toArray) (hb : s.heap.IsList b ws.toArray) (hz : vs.length + ws.length <= sizeLine)
  (h : Q (.ref s.heap.objs.size) { s with heap := s.heap.push { cls := .type "list", data := .seq (vs ++ ws).toArray } }) : wpAny (model prog w) A (binaryOp .Add (.ref t) (.ref b)) Q E s := by
 obtain ⟨⟨cls, dd, data, sl⟩, ho, hc, n, hd⟩ := id ht
 obtain ⟨⟨cls2, dd2, data2, sl2⟩, ho2, hc2, n2, hd2⟩ := id hb
 simp only at hc hd hc2 hd2
 subst hc hd hc2 hd2
 have e : vs.toArray ++ ws.toArray = (vs ++ ws).toArray := by simp
 refine concat_meets ⟨_, ho, rfl⟩ ⟨_, ho2, rfl⟩ noFill_list_add seq_list_add PySem.F.slot_list_add PySem.F.entry_list_add (PySem.F.args_list_add_2 _ _) (list_addW t b vs.toArray ws.toArray n n2 dd dd2 sl sl2 (by simpa using hz)) ⟨ho, ho2, ?_⟩
 rw [e]
 exact h
theorem whole_tup {t sl : Addr} {items : Array Value} {vl vu : Value} {lo hi : Option Int} {Q : Value -> Shared -> Prop} (ht : IsTup s.heap t items) (hs : s.heap.IsSliceOf sl vl vu .none) (pl : IsPart vl lo) (pu : IsPart vu hi)
  (hw : sIx items.size 0 lo = 0 /\ sIx items.size items.size hi = items.size) (h : Q (.ref t) s) : wpAny (model prog w) A (getItem (.ref t) (.ref sl)) Q E s := by
 obtain ⟨os, hos, hcs, hds⟩ := id hs
 have hTs : s.TypeIs (.ref sl) "slice" := ⟨os, hos, hcs⟩
 unfold getItem
 try with_reducible refine wpAny_holding ?_
 first | refine wpAny_bind (wpAny_pure ?_) | skip
 refine wpAny_bind (wpAny_sequenceKey ht.typeIs (by decide) ?_)
 refine wpAny_bind (wpAny_callSpecial?_slot (name := Str.ofString "__getitem__") ht.typeIs PyProof.Rows.slot_tuple_getitem
  (wpAny_call_entry PyProof.Rows.slot_tuple_getitem ht.typeIs entry_tuple_getitem ?_ (args_tuple_getitem _ _)))
 show wpAny _ _ (Builtin.Tuple.tupleItemsOf (.ref t) >>= _) _ _ s
 refine wpAny_bind (tupleItemsOf_ ht (wpAny_bind (wpAny_typeOf hTs ?_)))
 rw [if_pos (by decide)]
 refine wpAny_bind (sliceApplied_gen hs pl pu ?_)
 rw [hw.1, hw.2]
 show wpAny _ _ (if (((0 : Nat) : Int) == 0 && (1 : Int) == 1 && (items.size - 0) == items.size) = true then _ else _) _ _ s
 rw [if_pos (by simp)]
 unfold Builtin.Tuple.tupleIsExact
 refine wpAny_bind (wpAny_bind (wpAny_typeOf ht.typeIs (wpAny_pure ?_)))
 rw [if_pos (by decide)]
 exact wpAny_bind (wpAny_rule (wpAny_pure ⟨_, rfl, wpAny_pure h⟩))
end
end TL
namespace SL
open PySem PySem.Spec PyProof.Rows L2 CL DL SD TL
section
variable {X : Cx} {e st : Expr} {p2 pos : Pos}
theorem opx_mul2 : OpR X (binaryOp .Mult) (fun x y H Q => ∃ a xs, x = .ref a /\ y = .int 2 /\ SqT X.K H a xs /\ xs ≠ [] /\ xs.length <= 1000 /\ ∀ p, H p = none -> Q (.ref p) (upd H p (.tup (xs ++ xs)))) := by
 intro pins s σ H x y v u Q I rx ry h
 obtain ⟨a, xs, rfl, rfl, ha, hx, hz, q⟩ := h
 cases rx
 obtain ⟨t, rfl⟩ := ry
 obtain ⟨its, r1, p1, _⟩ := I.tuple ha
 refine mul2_tup p1 (fun z => hx (r1.nil_iff.mp z)) (by rw [<- r1.length]; lia) ?_
 refine ⟨.ref s.heap.objs.size, _, I.laid (t' := s.toks) (o := .tup (xs ++ xs)) (fun b ob q => Heap.get?_push_of_some _ q) (Nat.le_refl _) ?_, rfl, q _ (I.hok.fresh (Nat.le_refl _))⟩
 exact ⟨by rw [List.length_append, sizeLine_eq]; lia, _, r1.append r1, IsTup.new _ _⟩
theorem opx_cat0 : OpR X (binaryOp .Add) (fun x y H Q => ∃ a b ys, x = .ref a /\ y = .ref b /\ SqT X.K H a [] /\ SqT X.K H b ys /\ Q (.ref b) H) := by
 intro pins s σ H x y v u Q I rx ry h
 obtain ⟨a, b, ys, rfl, rfl, ha, hb, q⟩ := h
 cases rx
 cases ry
 obtain ⟨its, r1, p1, _⟩ := I.tuple ha
 obtain ⟨its2, r2, p2, _⟩ := I.tuple hb
 cases r1
 exact cat0_tup p1 p2 ⟨.ref b, H, I, rfl, q⟩
theorem opx_catL : OpR X (binaryOp .Add) (fun x y H Q => ∃ a b xs ys, x = .ref a /\ y = .ref b /\ SqL X.K H a xs /\ SqL X.K H b ys /\ xs.length + ys.length <= 1000 /\ ∀ p, H p = none -> Q (.ref p) (upd H p (.lst (xs ++ ys)))) := by
 intro pins s σ H x y v u Q I rx ry h
 obtain ⟨a, b, xs, ys, rfl, rfl, ha, hb, hz, q⟩ := h
 cases rx
 cases ry
 obtain ⟨its, r1, p1, _⟩ := I.list ha
 obtain ⟨its2, r2, p2, _⟩ := I.list hb
 refine cat_lst p1.isList p2.isList (by rw [<- r1.length, <- r2.length]; exact line1000 hz) ?_
 refine ⟨.ref s.heap.objs.size, _, I.laid (t' := s.toks) (o := .lst (xs ++ ys)) (fun b ob q => Heap.get?_push_of_some _ q) (Nat.le_refl _) ?_, rfl, q _ (I.hok.fresh (Nat.le_refl _))⟩
 exact ⟨by rw [List.length_append]; exact line1000 hz, _, 0, r1.append r2, Heap.get?_push_size _ rfl⟩
theorem slx_all : SlR X (fun x lo hi H Q => ∃ a xs, x = .ref a /\ SqT X.K H a xs /\ (HT.sIx xs.length 0 lo = 0 /\ HT.sIx xs.length xs.length hi = xs.length) /\ Q (.ref a) H) := by
 intro pins s σ H x v vl vu lo hi sl Q I rx hs pl pu h
 obtain ⟨a, xs, rfl, hx, hw, q⟩ := h
 cases rx
 obtain ⟨its, r, ht, hz⟩ := I.tuple hx
 have hlen : its.toArray.size = xs.length := by rw [List.size_toArray]; exact r.length.symm
 exact ⟨"tuple", _, PyProof.Rows.slot_tuple_getitem.lookup, ht.typeIs, whole_tup ht hs pl pu (by rw [hlen]; exact hw) ⟨.ref a, H, I, rfl, q⟩⟩
noncomputable def dSl2 : D -> Option Int -> Option Int -> Option D
 | .list xs, lo, hi => some (.list (DL.cutD xs lo hi))
 | .tuple xs, lo, hi => some (.tuple (DL.cutD xs lo hi))
 | _, _, _ => none
noncomputable def eSl2 (ga : Rho -> Option D) (gl gh : Rho -> Option (Option Int)) : Rho -> Option D := fun ρ => (ga ρ).bind fun d => (gl ρ).bind fun l => (gh ρ).bind fun h => dSl2 d l h
theorem cut_all {xs : List D} {lo hi : Option Int} (h : HT.sIx xs.length 0 lo = 0 /\ HT.sIx xs.length xs.length hi = xs.length) : DL.cutD xs lo hi = xs := by
 unfold DL.cutD
 rw [h.1, h.2, List.drop_zero, Nat.sub_zero, List.take_length]
theorem de_slice2 {a : Expr} {lo hi : Option Expr} {ga : Rho -> Option D} {gl gh : Rho -> Option (Option Int)} (ha : DE X a ga) (hl : DO X lo gl) (hh : DO X hi gh) : DE X (.Subscript a (.Slice lo hi none p2) pos) (eSl2 ga gl gh) :=
 pe_mono (pe_slice (sl_list.or (sl_tup.or slx_all)) ha hl hh) fun σ H Q zz => by
  obtain ⟨F, H₀, ρ, d, S, q, k⟩ := zz
  obtain ⟨x, e1, q⟩ := bnd q
  obtain ⟨l, e2, q⟩ := bnd q
  obtain ⟨h, e3, q⟩ := bnd q
  refine ⟨F, H₀, ρ, x, S, e1, fun F1 H1 v E1 R1 => ⟨F1, H₀, ρ, l, S.ext E1, e2, fun F2 H2 E2 => ⟨F2, H₀, ρ, h, (S.ext E1).ext E2, e3, fun F3 H3 E3 => ?_⟩⟩⟩
  have R3 := (R1.stay E2.stay).stay E3.stay
  have E123 := E1.trans (E2.trans E3)
  cases R3 with
  | @lst a' vs ds h1 r1 =>
   cases q
   exact .inl ⟨a', vs, rfl, h1.sq, fun p hp => k _ _ _ (E123.trans (Ext.frozen hp)) (Rep.newLst hp (r1.cut l h))⟩
  | @tup a' vs ds h1 r1 =>
   cases q
   by_cases c : HT.sIx ds.length 0 l = 0 /\ HT.sIx ds.length ds.length h = ds.length
   ·rw [cut_all c] at k
    exact .inr (.inr ⟨a', vs, rfl, h1, by rw [<- r1.length]; exact c, k _ _ _ E123 (.tup h1 r1)⟩)
   ·exact .inr (.inl ⟨a', vs, rfl, h1, by rw [<- r1.length]; exact c, fun p hp => k _ _ _ (E123.trans (Ext.fresh hp)) (Rep.newTup hp (r1.cut l h))⟩)
  | non => cases q
  | dct _ _ _ _ _ => cases q
  | exn _ _ _ => cases q
  | bl _ => cases q
  | int _ => cases q
  | str _ => cases q
noncomputable def dAdd2 : D -> D -> Option D
 | .int i, .int j => some (.int (i + j))
 | .tuple xs, .tuple ys => if xs.length + ys.length <= 1000 then some (.tuple (xs ++ ys)) else none
 | .list xs, .list ys => if xs.length + ys.length <= 1000 then some (.list (xs ++ ys)) else none
 | _, _ => none
theorem nil_of {α β : Type} {xs : List α} {ys : List β} (h : xs.length = ys.length) (e : ys = []) : xs = [] := by subst e; exact List.eq_nil_of_length_eq_zero h
theorem opd_add2 : OpR X (binaryOp .Add) (rD2 X.K dAdd2) := opr_mono (op_add.or (op_catT.or (opx_cat0.or opx_catL))) fun x y H Q zz => by
 obtain ⟨F, d, e, q, z, R1, R2, hq, k⟩ := zz
 unfold dAdd2 at hq
 split at hq
 ·cases hq
  cases R1
  cases R2
  exact .inl ⟨_, _, rfl, rfl, k F H _ (Ext.refl F H) (.int _)⟩
 ·rename_i xs ys
  by_cases c : xs.length + ys.length <= 1000
  ·rw [if_pos c] at hq
   cases hq
   cases R1 with
   | @tup a vs _ h1 r1 =>
    cases R2 with
    | @tup b us _ h2 r2 =>
     by_cases n : vs = []
     ·subst n
      have : xs = [] := nil_of r1.length rfl
      subst this
      exact .inr (.inr (.inl ⟨a, b, us, rfl, rfl, h1, h2, k F H _ (Ext.refl F H) (.tup h2 r2)⟩))
     ·refine .inr (.inl ⟨a, b, vs, us, rfl, rfl, h1, h2, n, line1000 (by rw [<- r1.length, <- r2.length]; exact c), fun e => ?_, fun e p hp => ?_⟩)
      ·have : ys = [] := nil_of r2.length e
       subst this
       rw [List.append_nil] at k
       exact k F H _ (Ext.refl F H) (.tup h1 r1)
      ·exact k F _ _ (Ext.fresh hp) (Rep.newTup hp (r1.append r2))
  ·rw [if_neg c] at hq; cases hq
 ·rename_i xs ys
  by_cases c : xs.length + ys.length <= 1000
  ·rw [if_pos c] at hq
   cases hq
   cases R1 with
   | @lst a vs _ h1 r1 =>
    cases R2 with
    | @lst b us _ h2 r2 =>
     exact .inr (.inr (.inr ⟨a, b, vs, us, rfl, rfl, h1.sq, h2.sq, by rw [<- r1.length, <- r2.length]; exact c, fun p hp => k _ _ _ (Ext.frozen hp) (Rep.newLst hp (r1.append r2))⟩))
  ·rw [if_neg c] at hq; cases hq
 ·cases hq
noncomputable def dMul2 : D -> D -> Option D
 | .int i, .int j => if okMul i j = true then some (.int (i * j)) else none
 | .tuple xs, .int j => if j = 2 /\ xs ≠ [] /\ xs.length <= 500 then some (.tuple (xs ++ xs)) else none
 | _, _ => none
theorem opd_mul2 : OpR X (binaryOp .Mult) (rD2 X.K dMul2) := opr_mono ((opd_mul (X := X)).or opx_mul2) fun x y H Q zz => by
 obtain ⟨F, d, e, q, z, R1, R2, hq, k⟩ := zz
 unfold dMul2 at hq
 split at hq
 ·exact .inl ⟨F, _, _, q, z, R1, R2, hq, k⟩
 ·rename_i xs j
  by_cases c : j = 2 /\ xs ≠ [] /\ xs.length <= 500
  ·rw [if_pos c] at hq
   cases hq
   obtain ⟨rfl, c1, c2⟩ := c
   cases R2
   cases R1 with
   | @tup a vs _ h1 r1 =>
    exact .inr ⟨a, vs, rfl, rfl, h1, fun e => c1 (nil_of r1.length e), by rw [<- r1.length]; lia, fun p hp => k F _ _ (Ext.fresh hp) (Rep.newTup hp (r1.append r1))⟩
  ·rw [if_neg c] at hq; cases hq
 ·cases hq
noncomputable def dLt2 : D -> D -> Option D
 | .int i, .int j => some (.bool (decide (i < j)))
 | .tuple xs, .tuple ys => (intsD xs).bind fun a => (intsD ys).bind fun b => some (.bool (HT.lexLt a b))
 | _, _ => none
theorem opd_lt2 (hu : X.A.units + 64 < cLine) : OpR X (compareOp .Lt) (rD2 X.K dLt2) := opr_mono (op_lt.or (op_ltT (by lia))) fun x y H Q zz => by
 obtain ⟨F, d, e, q, z, R1, R2, hq, k⟩ := zz
 unfold dLt2 at hq
 split at hq
 ·cases hq
  cases R1
  cases R2
  exact .inl ⟨_, _, rfl, rfl, k F H _ (Ext.refl F H) (.bl _)⟩
 ·obtain ⟨a, e1, hq⟩ := bnd hq
  obtain ⟨b, e2, hq⟩ := bnd hq
  cases hq
  cases R1 with
  | @tup u vs _ h1 r1 =>
   cases R2 with
   | @tup u' us _ h2 r2 =>
    rw [ints_rep r1 e1] at h1
    rw [ints_rep r2 e2] at h2
    exact .inr ⟨u, u', a, b, rfl, rfl, h1, h2, k F H _ (Ext.refl F H) (.bl _)⟩
 ·cases hq
noncomputable def dPow : D -> D -> Option D := dI2 (fun i j => decide (0 <= j) && decide (j <= 64) && decide (i.natAbs < 18446744073709551616)) fun i j => .int (i ^ j.toNat)
theorem opd_pow : OpR X (binaryOp .Pow) (rD2 X.K dPow) := opd2 op_pow (fun i j h => by
 simp only [Bool.and_eq_true, decide_eq_true_eq] at h
 unfold CPow
 lia) fun _ _ _ _ _ => .int _
end
end SL
namespace EL
open PySem PySem.Spec PyProof.Rows L2 DL ZL
open AutoSeq1 (wpAny_loadPart')
theorem new_enumT (l : Addr) (items : Array Value) (n : Nat) (dct : Option Addr) (sl : Array (Option Value)) :
  Meets (Builtin.«enumerate.__new__» ⟨[.type "enumerate", .ref l], []⟩) (fun _ R s => s.heap.get? l = some { cls := .type "tuple", dict := dct, data := .seq items n, slots := sl } /\
   R (.ok (.ret (.ref (s.heap.push { cls := .type "tuple_iterator", data := .fields #[.ref l, .int 0 0] }).objs.size)))
    { s with heap := (s.heap.push { cls := .type "tuple_iterator", data := .fields #[.ref l, .int 0 0] }).push { cls := .type "enumerate", data := .fields #[.none, .bool false, .ref s.heap.objs.size, rawInt 0, .none, .none] } }) :=
 .of_wp fun prog w A R s h => by
  obtain ⟨hp, g, d, tk, os⟩ := s
  obtain ⟨hl, h⟩ := h
  have hsub := sub_enumerate
  have hT : Heap.IsTuple (Shared.heap ⟨hp, g, d, tk, os⟩) l items := ⟨_, hl, rfl, n, rfl⟩
  wp_walk using wpAny_loadPart' hl
  refine wpAny_stack_any fun st => wpAny_pure ?_
  split
  ·rename_i c _ _ _ _ _
   cases (c == Value.type "enumerate") <;> (wp_walk using wpAny_loadPart' hl, wpAny_pyIter_tuple hT; exact ⟨_, rfl, h⟩)
  ·wp_walk using wpAny_loadPart' hl, wpAny_pyIter_tuple hT
   exact ⟨_, rfl, h⟩
section
variable {prog : Program} {w : World} {A : Around} {E : Value -> Shared -> Prop} {s : Shared}
theorem call_enumT {l : Addr} {items : Array Value} {Q : Value -> Shared -> Prop} (hT : s.heap.IsTuple l items)
  (h : ∀ h', IsEnum h' (s.heap.objs.size + 1) s.heap.objs.size 0 .none -> h'.IsTupleIter s.heap.objs.size l 0 -> h'.objs.size = s.heap.objs.size + 2 ->
   (∀ b o, s.heap.get? b = some o -> h'.get? b = some o) -> Q (.ref (s.heap.objs.size + 1)) { s with heap := h' }) :
  wpAny (model prog w) A (call (.type "enumerate") [.ref l]) Q E s := by
 obtain ⟨⟨c, dct, dt, sl⟩, hl, hc, n, hd⟩ := hT
 replace hc : c = .type "tuple" := hc
 replace hd : dt = .seq items n := hd
 subst hc hd
 refine callType_new F.called_enumerate (by decide) (F.typeCall_enumerate_1 _) (F.newCall_enumerate_1 _) (fun obj => F.args_object_init_2 obj _) F.entry_enumerate_new
  (new_enumT l items n dct sl) ⟨hl, ?_⟩
 have hz : (s.heap.push { cls := .type "tuple_iterator", data := .fields #[.ref l, .int 0 0] }).objs.size = s.heap.objs.size + 1 := Heap.size_push ..
 show _ /\ _
 rw [hz]
 have he : IsEnum ((s.heap.push { cls := .type "tuple_iterator", data := .fields #[.ref l, .int 0 0] }).push
   { cls := .type "enumerate", data := .fields #[.none, .bool false, .ref s.heap.objs.size, rawInt 0, .none, .none] }) (s.heap.objs.size + 1) s.heap.objs.size 0 .none := by
  have := Heap.get?_push_size (s.heap.push { cls := .type "tuple_iterator", data := .fields #[.ref l, .int 0 0] })
   (o := { cls := .type "enumerate", data := .fields #[.none, .bool false, .ref s.heap.objs.size, rawInt 0, .none, .none] }) rfl
  rw [hz] at this; exact this
 exact ⟨⟨_, he, rfl⟩, h _ he ⟨_, Heap.get?_push_of_some _ (Heap.get?_push_size _ rfl), rfl, rfl⟩ (by rw [Heap.size_push, hz]) fun b o x => Heap.get?_push_of_some _ (Heap.get?_push_of_some _ x)⟩
theorem nextT_item {it t : Addr} {i : Nat} {items : Array Value} {x : Value} {Q : Value -> Shared -> Prop} (hit : s.heap.IsTupleIter it t i) (ht : s.heap.IsTuple t items) (hx : items[i]? = some x)
  (hQ : ∀ h', h'.IsTupleIter it t (i + 1) -> Heap.SameBut it s.heap h' -> Q x { s with heap := h' }) : wpAny (model prog w) A (Builtin.SmallTypes.nextOf (.ref it)) Q E s := by
 obtain ⟨o, ho, hc, hd⟩ := id hit
 obtain ⟨ol, hol, _, nl, hdl⟩ := ht
 unfold Builtin.SmallTypes.nextOf
 refine wpAny_bind (wpAny_callSpecial?_slot (name := Str.ofString "__next__") hit.typeIs F.slot_tuple_iterator_next
  (wpAny_call_entry F.slot_tuple_iterator_next hit.typeIs F.entry_tuple_iterator_next ?_ (F.args_tuple_iterator_next_1 _)))
 show wpAny _ _ (field (.ref it) 0 >>= _) _ _ s
 refine wpAny_bind (wpAny_field ho hd (x := .ref t) rfl ?_)
 show wpAny _ _ (if (Value.ref t == Value.none) = true then _ else _) _ _ s
 rw [if_neg (show ¬ ((Value.ref t == Value.none) = true) from Bool.false_ne_true)]
 show wpAny _ _ (field (.ref it) 1 >>= _) _ _ s
 refine wpAny_bind (wpAny_field ho hd (x := .int i 0) rfl ?_)
 show wpAny _ _ (seqItems? (.ref t) >>= _) _ _ s
 refine wpAny_bind (wpAny_seqItems hol hdl ?_)
 simp only [Int.toNat_natCast, hx]
 refine wpAny_bind (wpAny_setField ho hd (by simp) (wpAny_pure ⟨x, rfl, wpAny_pure (hQ _ ?_ (Heap.SameBut.update ..))⟩))
 refine ⟨_, Heap.get?_update_self _ ho (Obj.isFreed_of_fields (Obj.data_mapFields hd _)), (Obj.cls_mapFields ..).trans hc, ?_⟩
 rw [Obj.data_mapFields hd]
 simp [rawInt]
theorem nextT_end {it t : Addr} {i : Nat} {items : Array Value} {Q : Value -> Shared -> Prop} (hh : A.handled = none) (hit : s.heap.IsTupleIter it t i) (ht : s.heap.IsTuple t items) (hx : items[i]? = none)
  (hE : ∀ h' e, Heap.ExtBut it s.heap h' -> (∃ o, h'.get? e = some o /\ o.cls = .type "StopIteration") -> E (.ref e) { s with heap := h' }) : wpAny (model prog w) A (Builtin.SmallTypes.nextOf (.ref it)) Q E s := by
 obtain ⟨o, ho, hc, hd⟩ := id hit
 obtain ⟨ol, hol, _, nl, hdl⟩ := ht
 unfold Builtin.SmallTypes.nextOf
 refine wpAny_bind (wpAny_callSpecial?_slot (name := Str.ofString "__next__") hit.typeIs F.slot_tuple_iterator_next
  (wpAny_call_entry F.slot_tuple_iterator_next hit.typeIs F.entry_tuple_iterator_next ?_ (F.args_tuple_iterator_next_1 _)))
 show wpAny _ _ (field (.ref it) 0 >>= _) _ _ s
 refine wpAny_bind (wpAny_field ho hd (x := .ref t) rfl ?_)
 show wpAny _ _ (if (Value.ref t == Value.none) = true then _ else _) _ _ s
 rw [if_neg (show ¬ ((Value.ref t == Value.none) = true) from Bool.false_ne_true)]
 show wpAny _ _ (field (.ref it) 1 >>= _) _ _ s
 refine wpAny_bind (wpAny_field ho hd (x := .int i 0) rfl ?_)
 show wpAny _ _ (seqItems? (.ref t) >>= _) _ _ s
 refine wpAny_bind (wpAny_seqItems hol hdl ?_)
 simp only [Int.toNat_natCast, hx]
 refine wpAny_bind (wpAny_rule (wpAny_bind (wpAny_setField ho hd (by simp) ?_)))
 show wpAny _ _ (newExc (.type "StopIteration") [] >>= _) _ _ _
 refine wpAny_bind ?_
 simp only [newExc, newTuple]
 refine wpAny_bind (wpAny_newObj_type ?_ (by size_fits))
 refine wpAny_bind (m := firstArgMember _ _) (wpAny_of_eq (a := Value.none) (by first | rfl | (simp only [firstArgMember]; rfl)) ?_)
 refine wpAny_newObj_type ?_ (by size_fits)
 simp only [raiseNew]
 refine wpAny_bind (wpAny_handled ?_)
 first | rw [show A.in1.handled = none from hh] | rw [hh]
 refine wpAny_bind (wpAny_pure (wpAny_throw ?_))
 exact hE _ _ (((Heap.SameBut.update ..).extBut.push _).push _) ⟨_, Heap.get?_push_size _ rfl, rfl⟩
end
theorem drawsT {prog : Program} {w : World} {A : Around} (hh : A.handled = none) (it t : Addr) (hne : t ≠ it) (items : Array Value) :
  Draws prog w A it [it, t] items.size (fun i v => items[i]? = some v) (fun i h => h.IsTupleIter it t i /\ h.IsTuple t items) where
 live := fun _ _ st => let ⟨o, ho, _⟩ := st.1; ⟨o, ho⟩
 frame := fun _ _ _ st hk => ⟨st.1.at fun o e => hk it (by simp) o e, st.2.at fun o e => hk t (by simp) o e⟩
 item := fun i s Q E hi st hQ => nextT_item st.1 st.2 (x := items[i]) (by simp [hi]) fun h' hit' hs' => hQ _ h' s.toks (by simp [hi]) ⟨hit', st.2.extBut hs'.extBut hne⟩ hs'
 done := fun s Q E st hE => nextT_end hh st.1 st.2 (by simp) hE
noncomputable def Ite (SQ : Hp -> List V -> Prop) : It :=
 ⟨fun i H => ∃ xs x, SQ H xs /\ xs[i]? = some x,
  fun i H v H' => ∃ p, H p = none /\ v = .ref p /\ ∃ x, H' = upd H p (.tup [.int i, x]) /\ ∀ xs, SQ H xs -> xs[i]? = some x,
  fun i H => ∃ xs, SQ H xs /\ xs.length <= i⟩
structure ESrc (P : Program) (w : World) (K : PySem.W.Frag) (SQ : Hp -> List V -> Prop) (a it : Addr) (IT : Nat -> Heap -> Prop) (IS : Heap -> Array Value -> Prop) : Prop where
 sq : ∀ (X : Cx) (pins : List (Addr × Obj)) (σ : L2.St) (H : Hp) (s : Shared) (xs : List V), X.K = K -> L2.Inv X pins σ H s -> SQ H xs -> (∃ its, Vals xs its /\ IS s.heap its.toArray) /\ ∀ ys, SQ H ys -> ys = xs
 ob : ∀ i h, IT i h -> ∃ o, h.get? it = some o /\ ∀ v, o.data ≠ .cell v
 kp : ∀ i h h', IT i h -> (∀ o, h.get? it = some o -> h'.get? it = some o) -> IT i h'
 D : ∀ (A : Around) (items : Array Value), A.handled = none -> Draws P w A it [it, a] items.size (fun i v => items[i]? = some v) (fun i h => IT i h /\ IS h items)
 Z : ∀ (A : Around) (items : Array Value) (i : Nat), A.handled = none -> items.size <= i -> Draws P w A it [it, a] i (fun _ _ => False) (fun j h => j = i /\ IT i h /\ IS h items)
theorem turn_enum {P : Program} {w : World} {K : PySem.W.Frag} {elts : List Expr} {x1} {tpos : Pos} {SQ : Hp -> List V -> Prop} (a e it : Addr) (hei : e ≠ it) (hea : e ≠ a) {IT : Nat -> Heap -> Prop} {IS : Heap -> Array Value -> Prop} (Z : ESrc P w K SQ a it IT IS) :
  Turn P w K (.Tuple elts x1 tpos) (Ite SQ) [e, it] e (fun i h => (∃ old, IsEnum h e it i old) /\ IT i h) where
 mem := by simp
 obj := fun i h st c hc => by
  obtain ⟨⟨old, h1⟩, h2⟩ := st
  rcases List.mem_cons.mp hc with rfl | hc
  ·exact ⟨_, h1, fun v z => by have z' : Data.fields _ = Data.cell v := z; cases z'⟩
  ·rw [List.mem_singleton.mp hc]; exact Z.ob i h h2
 keep := fun i h h' st k => by
  obtain ⟨⟨old, h1⟩, h2⟩ := st
  exact ⟨⟨old, k e (by simp) _ h1⟩, Z.kp i h h' h2 fun o q => k it (by simp) o q⟩
 item := by
  intro X hP hw hK hc i pins s σ H E I hf st hg
  subst hP hw
  obtain ⟨xs, x, ha, hx⟩ := hg
  obtain ⟨⟨old, h1⟩, h2⟩ := st
  obtain ⟨⟨its, rv, pl⟩, inj⟩ := Z.sq X pins σ H s xs hK I ha
  obtain ⟨xu, ex, rx⟩ := rv.get hx
  have hlt : i < its.toArray.size := by
   have := (List.getElem?_eq_some_iff.mp ex).1
   simpa using this
  have hef : e ∉ [it, a] := by simp only [List.mem_cons, List.not_mem_nil, or_false, not_or]; exact ⟨hei, hea⟩
  refine wpAny_pyNext_enum_itemD (Z.D X.A.in1 its.toArray (by simp [I.ok.hd hc])) h1 ⟨h2, pl⟩ hlt hei hef fun x' h' tk hP ho hst hT hsz hk => ⟨_, rfl, ?_⟩
  have ex' : its[i]? = some x' := by simpa using hP
  rw [ex] at ex'
  cases ex'
  refine wpAny_letOwnedTupleGo_enum ho fun h'' z1 sb => ?_
  have hn : H s.heap.objs.size = none := I.hok.fresh (Nat.le_refl _)
  have old' : ∀ c o, s.heap.get? c = some o -> c ≠ s.heap.objs.size := fun c o q => Nat.ne_of_lt (Heap.lt_size q)
  have eT : s.heap.objs.size ≠ e := (old' e _ h1).symm
  obtain ⟨oi, hoi, _⟩ := Z.ob i _ h2
  have kk : ∀ c o, c ∉ [e, it] -> s.heap.get? c = some o -> h''.get? c = some o := fun c o nc q =>
   sb.extBut c o (fun q => nc (by simp [q])) (hk c o (fun q => nc (by simp [q])) (fun q => nc (by simp [q])) q)
  have nfp : ∀ c o, H c = some o -> c ∉ [e, it] := fun c o q hc' => by
   have := (hf c hc').1
   rw [this] at q; cases q
  have hok : HOk X.prog X.w (upd H s.heap.objs.size (.tup [.int i, x])) h'' := fun c o q => by
   by_cases hcT : c = s.heap.objs.size
   ·subst hcT
    rw [upd_same] at q; cases q
    exact ⟨line1000 (by simp), [.int i tk, xu], .cons ⟨tk, rfl⟩ (.cons rx .nil), ⟨_, sb.extBut _ _ eT hT, rfl, 0, rfl⟩⟩
   ·rw [upd_ne hcT] at q
    refine (I.hok c o q).stay (fun d v hd q => kk d v ?_ q) (fun d q => by rw [upd_ne (ne_of_none q hn)]; exact q) fun d xs q => by rw [upd_ne (ne_of_none q hn)]; exact q
    rcases hd with rfl | hd
    ·exact nfp _ _ q
    ·exact nfp _ _ hd
  refine ⟨.ref s.heap.objs.size, _, zturn (s := s) (h' := h'') (tk := tk + 1) I hf kk (fun c o q => upd_ne (old' c o q)) (fun c o q => by rw [upd_ne (ne_of_none q hn)]; exact q) hok, rfl, ⟨_, hn, rfl, x, rfl, fun ys hy => by rw [inj ys hy]; exact hx⟩, ⟨⟨_, by simpa using z1⟩, Z.kp _ _ _ hst.1 fun o q => sb.extBut it o (Ne.symm hei) q⟩, fun c hc' => ?_⟩
  have q := (hf c hc').1
  have nT : c ≠ s.heap.objs.size := by
   rcases List.mem_cons.mp hc' with rfl | hc'
   ·exact old' _ _ h1
   ·rw [List.mem_singleton.mp hc']; exact old' _ _ hoi
  rw [upd_ne nT]; exact q
 done := by
  intro X hP hw hK hc i pins s σ H E I hf st hg
  subst hP hw
  obtain ⟨xs, ha, hend⟩ := hg
  obtain ⟨⟨old, h1⟩, h2⟩ := st
  obtain ⟨⟨its, rv, pl⟩, inj⟩ := Z.sq X pins σ H s xs hK I ha
  have l1 := rv.length
  refine wpAny_pyNext_enum_endD (Z.Z X.A.in1 its.toArray i (by simp [I.ok.hd hc]) (by rw [List.size_toArray]; lia)) h1 ⟨rfl, h2, pl⟩ fun h' hx => ⟨rfl, ?_⟩
  have kk : ∀ c o, c ∉ [e, it] -> s.heap.get? c = some o -> h'.get? c = some o := fun c o nc q => hx c o (fun q => nc (by simp [q])) q
  have nfp : ∀ c o, H c = some o -> c ∉ [e, it] := fun c o q hc' => by
   have := (hf c hc').1
   rw [this] at q; cases q
  refine zturn (s := s) (h' := h') (tk := s.toks) I hf kk (fun _ _ _ => rfl) (fun _ _ q => q) fun c o q => ?_
  refine (I.hok c o q).stay (fun d v hd q => kk d v ?_ q) (fun d q => q) fun d xs q => q
  rcases hd with rfl | hd
  ·exact nfp _ _ q
  ·exact nfp _ _ hd
 self := fun _ _ _ _ _ st h => by
  obtain ⟨⟨old, h1⟩, _⟩ := st
  exact wpAny_pyIter_enum h1 h
theorem esrcT {P : Program} {w : World} {K : PySem.W.Frag} (a it : Addr) (hne : a ≠ it) : ESrc P w K (fun H xs => SqT K H a xs) a it (fun i h => h.IsTupleIter it a i) (fun h items => h.IsTuple a items) where
 sq := fun X pins σ H s xs hK I ha => by
  subst hK
  obtain ⟨its, rv, pl, _⟩ := I.tuple ha
  exact ⟨⟨its, rv, pl⟩, fun ys hy => I.tuple_inj hy ha⟩
 ob := fun i h ⟨o, ho, _, hd⟩ => ⟨o, ho, fun v z => by rw [hd] at z; cases z⟩
 kp := fun i h h' hi k => hi.at k
 D := fun A items hh => drawsT hh it a hne items
 Z := fun A items i hh hle =>
  {live := fun _ _ ⟨_, ⟨o, ho, _⟩, _⟩ => ⟨o, ho⟩
   frame := fun _ _ _ ⟨e, st, st2⟩ hk => ⟨e, st.at fun o q => hk it (by simp) o q, st2.at fun o q => hk a (by simp) o q⟩
   item := fun j s Q E hj ⟨e, _⟩ _ => absurd e (Nat.ne_of_lt hj)
   done := fun s Q E ⟨_, st, st2⟩ hE => nextT_end hh st st2 (Array.getElem?_eq_none hle) hE }
theorem esrcL {P : Program} {w : World} {K : PySem.W.Frag} (a it : Addr) (hne : a ≠ it) : ESrc P w K (fun H xs => SqL K H a xs) a it (fun i h => h.IsListIter it a i) (fun h items => h.IsList a items) where
 sq := fun X pins σ H s xs hK I ha => by
  subst hK
  obtain ⟨its, rv, pl, _⟩ := I.list ha
  exact ⟨⟨its, rv, pl.isList⟩, fun ys hy => I.list_inj hy ha⟩
 ob := fun i h ⟨o, ho, _, hd⟩ => ⟨o, ho, fun v z => by rw [hd] at z; cases z⟩
 kp := fun i h h' hi k => hi.at k
 D := fun A items hh => Draws.list hh it a hne items
 Z := fun A items i hh hle =>
  {live := fun _ _ ⟨_, ⟨o, ho, _⟩, _⟩ => ⟨o, ho⟩
   frame := fun _ _ _ ⟨e, st, st2⟩ hk => ⟨e, st.at fun o q => hk it (by simp) o q, st2.at fun o q => hk a (by simp) o q⟩
   item := fun j s Q E hj ⟨e, _⟩ _ => absurd e (Nat.ne_of_lt hj)
   done := fun s Q E ⟨_, st, st2⟩ hE => wpAny_nextOf_list_end hh st st2 (Array.getElem?_eq_none hle) hE }
noncomputable def iEnum (K : PySem.W.Frag) (ta : TA) : TI := fun σ H R => ta σ H fun vs H1 => ∃ a, vs = [.ref a] /\ (((∃ xs, SqL K H1 a xs) /\ R (Ite fun H xs => SqL K H a xs) H1) ∨ ((∃ xs, SqT K H1 a xs) /\ R (Ite fun H xs => SqT K H a xs) H1))
theorem pi_enum {X : Cx} {elts : List Expr} {x1} {tpos : Pos} {a : Expr} {ta : TA} {p pos : Pos} (hg : Gl X "enumerate") (hm : X.mg "enumerate" = none) (ha : PA X [a] ta) (hs : starEach [a] X.env = [(false, eval a X.env)] := by rfl) :
  PI X (.Tuple elts x1 tpos) (.Call (.Name "enumerate" p) [a] [] pos) (iEnum X.K ta) := by
 intro pins s σ H R I h
 refine Call_ (ld_blt I hg hm boot_enumerate (PyProof.Rows.callWith_type1 (thn (ha pos pins s σ H _ I h) fun us s1 ⟨vs, H1, I1, r1, q1⟩ => ?_) (by rw [hs]; rfl) (by rfl)))
 obtain ⟨a', e, q⟩ := q1
 subst e
 obtain ⟨u, rfl, ru⟩ := vals1 r1
 cases ru
 have fin : ∀ c ∈ [s1.heap.objs.size + 1, s1.heap.objs.size], FpOk X pins H1 c := fun c hc => by
  have lc : s1.heap.objs.size <= c := by
   rcases List.mem_cons.mp hc with rfl | hc
   ·exact Nat.le_add_right _ _
   ·rw [List.mem_singleton.mp hc]; exact Nat.le_refl _
  exact I1.fpOk lc (I1.hok.fresh lc)
 rcases q with ⟨⟨xs, hx⟩, q⟩ | ⟨⟨xs, hx⟩, q⟩
 ·obtain ⟨its, rv, pl, _⟩ := I1.list hx
  refine call_enumerate_list pl.isList fun h' a1 a2 a3 hk => ?_
  have la : a' < s1.heap.objs.size := by obtain ⟨_, e, _⟩ := pl.isList; exact Heap.lt_size e
  have I2 : L2.Inv X pins σ H1 { s1 with heap := h' } := I1.kept (t' := s1.toks) hk
  refine wpAny_pyIter_enum (s := { s1 with heap := h' }) a1 ?_
  exact ⟨_, [s1.heap.objs.size + 1, s1.heap.objs.size], _, _, H1, rfl, I2, turn_enum a' (s1.heap.objs.size + 1) s1.heap.objs.size (Nat.succ_ne_self _) (Nat.ne_of_gt (Nat.lt_succ_of_lt la)) (esrcL a' s1.heap.objs.size (Nat.ne_of_lt la)), ⟨⟨_, a1⟩, a2⟩, fin, q⟩
 ·obtain ⟨its, rv, pl, _⟩ := I1.tuple hx
  refine call_enumT pl fun h' a1 a2 a3 hk => ?_
  have la : a' < s1.heap.objs.size := by obtain ⟨_, e, _⟩ := pl; exact Heap.lt_size e
  have I2 : L2.Inv X pins σ H1 { s1 with heap := h' } := I1.kept (t' := s1.toks) hk
  refine wpAny_pyIter_enum (s := { s1 with heap := h' }) a1 ?_
  exact ⟨_, [s1.heap.objs.size + 1, s1.heap.objs.size], _, _, H1, rfl, I2, turn_enum a' (s1.heap.objs.size + 1) s1.heap.objs.size (Nat.succ_ne_self _) (Nat.ne_of_gt (Nat.lt_succ_of_lt la)) (esrcT a' s1.heap.objs.size (Nat.ne_of_lt la)), ⟨⟨_, a1⟩, a2⟩, fin, q⟩
end EL
namespace SL
open PySem PySem.Spec PyProof.Rows L2 CL DL SD EL
noncomputable def numbered (n : Nat) : List D -> List D
 | [] => []
 | x :: xs => .tuple [.int n, x] :: numbered (n + 1) xs
theorem numbered_get : ∀ (xs : List D) (n i : Nat), (numbered n xs)[i]? = (xs[i]?).map fun x => .tuple [.int ((n + i : Nat) : Int), x]
 | [], n, i => by simp [numbered]
 | x :: xs, n, 0 => by simp [numbered]
 | x :: xs, n, i + 1 => by
  show (numbered (n + 1) xs)[i]? = _
  rw [numbered_get xs (n + 1) i, show n + 1 + i = n + (i + 1) by lia]
  rfl
theorem numbered_len : ∀ (xs : List D) (n : Nat), (numbered n xs).length = xs.length
 | [], _ => rfl
 | x :: xs, n => by show (numbered (n + 1) xs).length + 1 = _; rw [numbered_len xs]; rfl
noncomputable def enumD : List D -> Option (List D)
 | [.list xs] => some (numbered 0 xs)
 | [.tuple xs] => some (numbered 0 xs)
 | _ => none
theorem it_enum {K : PySem.W.Frag} {F : Addr -> Prop} {H : Hp} {SQ : Hp -> List V -> Prop} {vs : List V} {ds : List D} (h1 : ∀ F2 H2, Stay K F F2 H H2 -> SQ H2 vs) (r1 : Reps K F H ds vs) : ItD K F H (numbered 0 ds) (Ite SQ) := fun F2 H2 T z i => by
 have g1 := h1 F2 H2 T
 have s1 := r1.stay T
 refine ⟨fun d hd => ?_, fun hl => ⟨vs, g1, ?_⟩⟩
 ·rw [numbered_get] at hd
  cases e1 : ds[i]? with
  | none => rw [e1] at hd; cases hd
  | some x =>
   rw [e1] at hd
   cases hd
   obtain ⟨v, e3, R1⟩ := s1.get e1
   refine ⟨⟨vs, v, g1, e3⟩, fun w H3 yy => ?_⟩
   obtain ⟨p, hp, rfl, x', rfl, q1⟩ := yy
   have q3 := q1 vs g1
   rw [e3] at q3; cases q3
   refine ⟨F2, Ext.fresh hp, Rep.newTup hp (.cons ?_ (.cons R1 .nil))⟩
   rw [Nat.zero_add]
   exact .int _
 ·rw [numbered_len] at hl
  rw [<- s1.length]
  exact hl
theorem di_enum {X : Cx} {elts : List Expr} {x1} {tpos : Pos} {a : Expr} {gr : Rho -> Option (List D)} {p pos : Pos} (hg : Gl X "enumerate") (hm : X.mg "enumerate" = none) (ha : DA X [a] gr) (hs : starEach [a] X.env = [(false, eval a X.env)] := by rfl) :
  DI X (.Tuple elts x1 tpos) (.Call (.Name "enumerate" p) [a] [] pos) (fun ρ => (gr ρ).bind enumD) :=
 pi_mono (pi_enum hg hm ha hs) fun σ H R zz => by
  obtain ⟨F, H₀, ρ, ds, S, q, k⟩ := zz
  obtain ⟨xs, e1, q⟩ := bnd q
  unfold enumD at q
  split at q
  ·cases q
   refine ⟨F, H₀, ρ, _, S, e1, fun F1 H1 vs E1 R1 => ?_⟩
   cases R1 with
   | cons r rs =>
    cases rs
    cases r with
    | @lst a' vs' _ h1 r1 => exact ⟨a', rfl, .inl ⟨⟨_, h1.sq⟩, k F1 H1 _ E1 (it_enum (fun F2 H2 T => (h1.stay T).sq) r1)⟩⟩
  ·cases q
   refine ⟨F, H₀, ρ, _, S, e1, fun F1 H1 vs E1 R1 => ?_⟩
   cases R1 with
   | cons r rs =>
    cases rs
    cases r with
    | @tup a' vs' _ h1 r1 => exact ⟨a', rfl, .inr ⟨⟨_, h1⟩, k F1 H1 _ E1 (it_enum (fun F2 H2 T => T.tp _ _ h1) r1)⟩⟩
  ·cases q
end SL
namespace SL
open PySem PySem.Spec PyProof.Rows L2 CL DL SD
section
variable {X : Cx}
end
open AutoSeq1 (wpAny_loadPart')
theorem ext_any (l : Addr) (items : Array Value) (n : Nat) (b : Addr) (items2 : Array Value) (n2 : Nat) (dd : Option Addr) (sl : Array (Option Value)) (hc0 : (!items.isEmpty && Builtin.List.listTooLong (items.size + items2.size)) = false) (hc1 : items.size <= sizeLine) (hs2 : items.size + items2.size <= sizeLine + 1) :
  Meets (Builtin.«list.extend» ⟨[.ref l, .ref b], []⟩) (fun _ R s => s.heap.get? l = some { cls := .type "list", dict := none, data := .seq items n, slots := #[] } /\ s.heap.get? b = some { cls := .type "list", dict := dd, data := .seq items2 n2, slots := sl } /\ R (.ok (.ret Value.none)) { s with heap := s.heap.update l (Obj.mapSeq fun x => x ++ items2), toks := s.toks }) :=
 .of_wp fun prog w A R s h => by
  obtain ⟨hp, g, d, tk, os⟩ := s
  obtain ⟨hl, hb, h⟩ := h
  have f1 := AutoSeq1.idx_int
  have f2 := AutoSeq1.sub_tuple_tuple
  have f3 := AutoSeq1.sub_list_list
  have f4 := AutoSeq1.sub_tuple_list
  have f5 := AutoSeq1.sub_list_tuple
  have hz' : (items ++ items2).size <= sizeLine + 1 := by rw [Array.size_append]; exact hs2
  wp_walk using (wpAny_updateSeq hl rfl (hz := hc1) (_hz' := hz')), wpAny_loadPart' hl, wpAny_loadPart' hb
  exact ⟨_, rfl, h⟩
section
variable {X : Cx}
theorem mtx_extend : MtM X "list.extend" (fun x vs H Q => ∃ l b xs zs, x = .ref l /\ vs = [.ref b] /\ H l = some (.lst xs) /\ SqL X.K H b zs /\ xs.length + zs.length <= 1000 /\ Q .non (upd H l (.lst (xs ++ zs)))) := by
 intro pins s σ H x vs v us Q I rx rv h
 obtain ⟨l, b, xs, zs, rfl, rfl, hH, hB, hz, q⟩ := h
 cases rx
 obtain ⟨u, rfl, ru⟩ := rv.one
 cases ru
 obtain ⟨z, its, n, r, hl, e⟩ := I.lstM hH
 obtain ⟨its2, r2, ⟨⟨c2, dd, dt, sl⟩, n2, e2, hc2, hd2, hs2⟩, _⟩ := I.list hB
 simp only at hc2 hd2 hs2
 subst hc2 hd2 hs2
 have l1 := r.length
 have l2 := r2.length
 have hsz : its.toArray.size + its2.toArray.size <= sizeLine := by rw [List.size_toArray, List.size_toArray]; exact line1000 (by lia)
 refine call_meets F.slot_list_extend ⟨_, e, rfl⟩ F.entry_list_extend (F.args_list_extend_2 _ _)
  (ext_any l its.toArray n b its2.toArray n2 _ _ (by rw [notLongL hsz, Bool.and_false]) (by lia) (by lia)) ⟨e, e2, ?_⟩
 refine ⟨.non, _, I.lset (its' := its ++ its2) hH e (by simp) (r.append r2) ?_, rfl, q⟩
 rw [List.length_append]
 exact line1000 (by lia)
noncomputable def sExt (i : Nat) (g : Rho -> Option D) : Rho -> Option Out := fun ρ => match ρ[i]? with
 | some (.own ds) => (g ρ).bind fun d => match d with
  | .list es => if ds.length + es.length <= 1000 then some (.nx (ρ.set i (.own (ds ++ es)))) else none
  | _ => none
 | _ => none
variable {e : Expr} {p pos : Pos} {ga : Rho -> Option D}
theorem ds_ext {i : Nat} {x : Str} {apos pos' : Pos} (ha : DE X e ga) (hN : X.N[i]? = some x := by rfl) (hv : Vis X.env.scope x := by first | exact Or.inl rfl | exact Or.inr (Or.inl rfl) | exact Or.inr (Or.inr rfl)) (hd : (x == ("__debug__" : Str)) = false := by decide)
  (hcd : (x == ("__classdict__" : Str)) = false := by decide) (hse : starEach [e] X.env = (false, eval e X.env) :: starEach [] X.env := by rfl)
  (hbase : attributeBase (.Name x p) "extend" X.env (eval (.Name x p) X.env) = eval (.Name x p) X.env := by rfl)
  (hfew : ((backTo pos' (starEach [e] X.env)).all (fun x => !x.1) && (backToKw pos' (keywordEach [] X.env)).all (fun x => x.1.isSome)
   && decide ([e].length + ([] : List Keyword).length + (if ([] : List Keyword).isEmpty then 0 else 1) < 30)) = true := by rfl)
  (hline : (apos.endLine == pos'.line) = true := by rfl) (hplain : (backTo pos' (starEach [] X.env)).any (·.1) = false := by rfl) (hsw : swapsWith (.Call (.Attribute (.Name x p) "extend" apos) [e] [] pos') none pos.line X.env = pure false := by rfl) :
  DS X (.Expr (.Call (.Attribute (.Name x p) "extend" apos) [e] [] pos') pos) (sExt i ga) :=
 DL.ps_mono (ps_expr (pe_bm PySem.F.plainAttrs_list PySem.F.slot_list_extend PySem.F.type_list_extend mtx_extend (pe_var hN hv hd hcd) (pa_cons ha pa_nil hse) hbase hfew hline hse hplain) hsw) fun W σ H zz => by
 obtain ⟨F₀, H₀, F, ρ, o, E, S, q, k⟩ := zz
 unfold sExt at q
 split at q
 ·rename_i ds e0
  obtain ⟨d, e1, q⟩ := bnd q
  split at q
  ·rename_i es
   by_cases hl : ds.length + es.length <= 1000
   ·rw [if_pos hl] at q
    cases q
    obtain ⟨l, vs, q1, q2, q3, q4, q5⟩ := S.own e0
    refine ⟨_, q1, .inl ⟨rfl, _, SqL.of q2⟩, F, H₀, ρ, _, S, e1, fun F' H' v E' R' => ?_⟩
    have S' := S.ext E'
    obtain ⟨l', vs', g1, g2, g3, g4, g5⟩ := S'.own e0
    rw [q1] at g1; cases g1
    cases R' with
    | @lst b us _ h1 r1 =>
     refine ⟨l, b, vs', us, rfl, rfl, g2, h1.sq, by rw [<- g5.length, <- r1.length]; exact hl, ?_⟩
     obtain ⟨S2, T⟩ := S'.turn e0 q1 g2 g3 (g5.append r1)
     exact k F' _ σ ((E.trans E').turn q4) (E'.stay.trans T) S2
   ·rw [if_neg hl] at q; cases q
  ·cases q
 ·cases q
end
noncomputable def plainE : Expr -> Bool
 | .Starred .. => false
 | _ => true
theorem star_cons (e : Expr) (es : List Expr) (env : Env) (h : plainE e = true) : starEach (e :: es) env = (false, eval e env) :: starEach es env := by
 cases e <;> first | rfl | cases h
theorem da_cons2 {X : Cx} {e : Expr} {es : List Expr} {ga : Rho -> Option D} {gr : Rho -> Option (List D)} (ha : DE X e ga) (hr : DA X es gr) (h : plainE e = true := by rfl) : DA X (e :: es) (eCons ga gr) := da_cons ha hr (star_cons e es X.env h)
end SL
namespace ST
open PySem PySem.SetTable PyProof.Rows
structure TOkD (t : SetTable) (hs : List Int) : Prop where
 good : Good t.mask
 len : t.place.toList.length = hs.length
 up : Up t.place.toList
 dup : Up t.dummies.toList
 apart : ∀ x ∈ t.dummies.toList, x ∉ t.place.toList
 room : (t.place.toList.length + t.dummies.toList.length) * 5 < t.mask * 3
 reach : ∀ q ∈ t.place.toList.zip hs, ∃ n, (P t.mask q.2 n).j = q.1 /\ ∀ m, m < n -> (P t.mask q.2 m).j ∈ t.place.toList ++ t.dummies.toList
theorem TOk.toD {t : SetTable} {hs : List Int} (T : TOk t hs) : TOkD t hs := by
 refine ⟨T.good, T.len, T.up, ?_, ?_, ?_, fun q hq => ?_⟩
 ·rw [T.dum]; exact List.Pairwise.nil
 ·rw [T.dum]; intro x hx; simp at hx
 ·rw [T.dum]; exact T.room
 ·obtain ⟨n, e, a⟩ := T.reach q hq
  exact ⟨n, e, fun m hm => List.mem_append_left _ (a m hm)⟩
theorem has_iff {xs : Array Nat} (s : Up xs.toList) (j : Nat) : has xs j = true ↔ j ∈ xs.toList := by
 obtain ⟨h1, h2, h3⟩ := below_spec xs s j
 unfold has
 constructor
 ·intro h
  have := eq_of_beq h
  rw [<- Array.getElem?_toList] at this
  exact List.mem_of_getElem? this
 ·intro hj
  obtain ⟨i, hi⟩ := List.getElem?_of_mem hj
  have hl := (List.getElem?_eq_some_iff.mp hi).1
  have e : i = below xs j := by
   by_cases a : i < below xs j
   ·have := h2 i j hi a; lia
   ·by_cases b : i = below xs j
    ·exact b
    ·have hb : below xs j < xs.toList.length := by lia
     have hv := List.getElem?_eq_getElem hb
     have := s.at hv hi (by lia)
     have := h3 _ _ hv (Nat.le_refl _)
     lia
  rw [<- e, <- Array.getElem?_toList, hi]
  simp
theorem slot_specD {t : SetTable} {hs : List Int} (T : TOkD t hs) (j : Nat) : (∃ i, t.slot j = .live i /\ t.place.toList[i]? = some j) ∨ (t.slot j = .dummy /\ j ∉ t.place.toList /\ j ∈ t.dummies.toList) ∨ (t.slot j = .empty /\ j ∉ t.place.toList ++ t.dummies.toList) := by
 unfold slot
 dsimp only
 by_cases c : (t.place[below t.place j]? == some j) = true
 ·rw [if_pos c]
  exact .inl ⟨_, rfl, by rw [Array.getElem?_toList]; exact eq_of_beq c⟩
 ·rw [if_neg c]
  have hn : j ∉ t.place.toList := fun hj => c ((has_iff T.up j).mpr hj)
  by_cases d : has t.dummies j = true
  ·rw [if_pos d]
   exact .inr (.inl ⟨rfl, hn, (has_iff T.dup j).mp d⟩)
  ·rw [if_neg d]
   exact .inr (.inr ⟨rfl, fun h => (List.mem_append.mp h).elim hn fun h => d ((has_iff T.dup j).mpr h)⟩)
theorem slot_liveD {t : SetTable} {hs : List Int} (T : TOkD t hs) {j i : Nat} (h : t.slot j = .live i) : t.place.toList[i]? = some j := by
 rcases slot_specD T j with ⟨i', h1, h2⟩ | ⟨h1, _⟩ | ⟨h1, _⟩
 ·rw [h] at h1; cases h1; exact h2
 ·rw [h] at h1; cases h1
 ·rw [h] at h1; cases h1
theorem TOkD.fits {t : SetTable} {hs : List Int} (T : TOkD t hs) {n : Nat} (e : hs.length = n) : t.fits n = true := by
 have h1 := T.len
 have h2 := T.room
 rw [Array.length_toList] at h1 h2
 rw [Array.length_toList] at h2
 unfold SetTable.fits SetTable.fill
 rw [h1, e]
 rw [h1] at h2
 simp only [Bool.and_eq_true, beq_iff_eq, decide_eq_true_eq]
 refine ⟨?_, ?_⟩
 ·trivial
 ·show n + t.dummies.size <= t.mask
  lia
theorem TOkD.odd {t : SetTable} {hs : List Int} (T : TOkD t hs) : t.gaveWay = false := by
 unfold SetTable.gaveWay
 rcases T.good with h | h | h | h | h | h <;> rw [h] <;> rfl
noncomputable def Pd (M : Nat) (h : Int) (n : Nat) (d : Option Nat) : Probe := { P M h n with dummy := d }
theorem adv_d (M : Nat) (p : Probe) (d : Option Nat) : adv M { p with dummy := d } = { adv M p with dummy := d } := by
 unfold adv
 dsimp only
 split <;> rfl
theorem Pd_next (M : Nat) (h : Int) (n : Nat) (d : Option Nat) : adv M (Pd M h n d) = Pd M h (n + 1) d := adv_d M (P M h n) d
section
variable {t : SetTable} {hs : List Int} {hashAt : Nat -> Int} {h : Int} {n : Nat}
theorem go_step (fuel c : Nat) (d : Option Nat) : probe.go t hashAt h (fuel + 1) (Pd t.mask h c d) = match t.slot (P t.mask h c).j with
  | .empty => some (.empty (P t.mask h c).j d)
  | .dummy => probe.go t hashAt h fuel (Pd t.mask h (c + 1) (some (P t.mask h c).j))
  | .live i => if (hashAt i == h) = true then some (.candidate (P t.mask h c).j i (Pd t.mask h (c + 1) d)) else probe.go t hashAt h fuel (Pd t.mask h (c + 1) d) := by
 conv => lhs; unfold probe.go
 rw [<- Pd_next t.mask h c d, <- Pd_next t.mask h c (some (P t.mask h c).j)]
 rfl
theorem go_probeD (T : TOkD t hs) (h1 : (P t.mask h n).j ∉ t.place.toList ++ t.dummies.toList) (h2 : ∀ m, m < n -> (P t.mask h m).j ∈ t.place.toList ++ t.dummies.toList) : ∀ fuel c d, c <= n -> n - c < fuel ->
  (∃ d', probe.go t hashAt h fuel (Pd t.mask h c d) = some (.empty (P t.mask h n).j d') /\ ∀ m, c <= m -> m < n -> ∀ i, t.slot (P t.mask h m).j = .live i -> hashAt i ≠ h)
  ∨ ∃ m i d', c <= m /\ m < n /\ t.slot (P t.mask h m).j = .live i /\ hashAt i = h /\ (∀ m', c <= m' -> m' < m -> ∀ i, t.slot (P t.mask h m').j = .live i -> hashAt i ≠ h) /\ probe.go t hashAt h fuel (Pd t.mask h c d) = some (.candidate (P t.mask h m).j i (Pd t.mask h (m + 1) d'))
 | 0, c, d, _, hf => absurd hf (Nat.not_lt_zero _)
 | fuel + 1, c, d, hc, hf => by
  rw [go_step]
  by_cases e : c = n
  ·subst e
   rcases slot_specD T (P t.mask h c).j with ⟨i, q1, q2⟩ | ⟨q1, q2, q3⟩ | ⟨q1, _⟩
   ·exact absurd (List.mem_append_left _ (List.mem_of_getElem? q2)) h1
   ·exact absurd (List.mem_append_right _ q3) h1
   ·rw [q1]
    exact .inl ⟨d, rfl, fun m a b => by lia⟩
  ·rcases slot_specD T (P t.mask h c).j with ⟨i, q1, q2⟩ | ⟨q1, q2, q3⟩ | ⟨_, q2⟩
   ·rw [q1]
    dsimp only
    by_cases k : (hashAt i == h) = true
    ·rw [if_pos k]
     exact .inr ⟨c, i, d, Nat.le_refl _, by lia, q1, eq_of_beq k, fun m' a b => by lia, rfl⟩
    ·rw [if_neg k]
     have hk : hashAt i ≠ h := fun e => k (by rw [e]; simp)
     rcases go_probeD T h1 h2 fuel (c + 1) d (by lia) (by lia) with ⟨d', a, b⟩ | ⟨m, i', d', a1, a2, a3, a4, a5, a6⟩
     ·refine .inl ⟨d', a, fun m hm1 hm2 i2 hi2 => ?_⟩
      by_cases e2 : m = c
      ·subst e2; rw [q1] at hi2; cases hi2; exact hk
      ·exact b m (by lia) hm2 i2 hi2
     ·refine .inr ⟨m, i', d', by lia, a2, a3, a4, fun m' hm1 hm2 i2 hi2 => ?_, a6⟩
      by_cases e2 : m' = c
      ·subst e2; rw [q1] at hi2; cases hi2; exact hk
      ·exact a5 m' (by lia) hm2 i2 hi2
   ·rw [q1]
    dsimp only
    rcases go_probeD T h1 h2 fuel (c + 1) (some (P t.mask h c).j) (by lia) (by lia) with ⟨d', a, b⟩ | ⟨m, i', d', a1, a2, a3, a4, a5, a6⟩
    ·refine .inl ⟨d', a, fun m hm1 hm2 i2 hi2 => ?_⟩
     by_cases e2 : m = c
     ·subst e2; rw [q1] at hi2; cases hi2
     ·exact b m (by lia) hm2 i2 hi2
    ·refine .inr ⟨m, i', d', by lia, a2, a3, a4, fun m' hm1 hm2 i2 hi2 => ?_, a6⟩
     by_cases e2 : m' = c
     ·subst e2; rw [q1] at hi2; cases hi2
     ·exact a5 m' (by lia) hm2 i2 hi2
   ·exact absurd (h2 c (by lia)) q2
theorem metD (T : TOkD t hs) (h1 : (P t.mask h n).j ∉ t.place.toList ++ t.dummies.toList) {i j : Nat} (hj : t.place.toList[i]? = some j) (hh : hs[i]? = some h) : ∃ m, m < n /\ (P t.mask h m).j = j := by
 have hq : (j, h) ∈ t.place.toList.zip hs := List.mem_of_getElem? (i := i) (by rw [List.getElem?_zip_eq_some]; exact ⟨hj, hh⟩)
 obtain ⟨m, e, a⟩ := T.reach _ hq
 refine ⟨m, Classical.byContradiction fun c => h1 ?_, e⟩
 by_cases d : n = m
 ·subst d; rw [e]; exact List.mem_append_left _ (List.mem_of_getElem? hj)
 ·exact a n (by lia)
end
section
variable {prog : Program} {w : World} {A : Around} {E : Value -> Shared -> Prop} {s : Shared}
theorem find_from {a x : Addr} {o : Obj} {es : Array (Int × Value)} {ep : Nat} {t : SetTable} {ks : List (List Int)} {k : List Int} {n : Nat} {Q : SetFound -> Shared -> Prop}
  (hu : A.units < cLine) (ho : s.heap.get? a = some o) (hd : o.data = .set es ep t) (T : TOkD t (es.toList.map (·.1))) (X : Ents prog w s.heap es.toList ks) (hk : TK prog w s.heap k x)
  (h1 : (P t.mask (TH prog w k) n).j ∉ t.place.toList ++ t.dummies.toList) (h2 : ∀ m, m < n -> (P t.mask (TH prog w k) m).j ∈ t.place.toList ++ t.dummies.toList)
  (q1 : ∀ i, ks[i]? = some k -> Q (.there (some i)) s) (q2 : k ∉ ks -> ∀ j b, Q (.free j b) s) :
  ∀ fuel c d, c <= n -> n < 10 * turns t.mask -> n - c < fuel -> (∀ m, m < c -> ∀ i, t.slot (P t.mask (TH prog w k) m).j = .live i -> ks[i]? ≠ some k) -> ∀ stand : Option Probe, stand.getD (t.probeStart (TH prog w k)) = Pd t.mask (TH prog w k) c d ->
  wpAny (model prog w) A (setSearchFrom a (.ref x) (TH prog w k) false fuel stand) Q E s
 | 0, c, d, _, _, hf, _, _, _ => absurd hf (Nat.not_lt_zero _)
 | fuel + 1, c, d, hc, hN, hf, inv, stand, hst => by
  have hfit : t.fits es.size = true := T.fits (by simp)
  unfold setSearchFrom
  refine wpAny_bind (wpAny_setState_of ho hd hfit ?_)
  dsimp only
  rw [hst, if_neg (by rw [T.odd]; exact Bool.false_ne_true)]
  refine wpAny_bind (wpAny_pure ?_)
  generalize hg : t.probe _ (TH prog w k) (Pd t.mask (TH prog w k) c d) = met
  obtain ⟨f, hfe, hg⟩ : ∃ f : Nat -> Int, (∀ i, f i = (es[i]?.map (·.1)).getD 0) /\ t.probe f (TH prog w k) (Pd t.mask (TH prog w k) c d) = met := ⟨_, fun _ => rfl, hg⟩
  have key : ∀ m i, t.slot (P t.mask (TH prog w k) m).j = .live i -> f i ≠ TH prog w k -> ks[i]? ≠ some k := fun m i hi hne hki => by
   have hp := slot_liveD T hi
   have hl : i < es.toList.length := by
    have := (List.getElem?_eq_some_iff.mp hp).1
    rw [T.len] at this
    simpa using this
   obtain ⟨k', b, e1, e2, e3⟩ := X.at (List.getElem?_eq_getElem hl)
   rw [hki] at e1
   cases e1
   apply hne
   rw [hfe, <- Array.getElem?_toList, List.getElem?_eq_getElem hl, e2]
   rfl
  have hgo := go_probeD (hashAt := f) T h1 h2 (10 * turns t.mask) c d hc (by lia)
  rcases hgo with ⟨d', g1, g2⟩ | ⟨m, i, d', g1, g2, g3, g4, g5, g6⟩
  ·have : met = some (.empty (P t.mask (TH prog w k) n).j d') := hg.symm.trans g1
   subst this
   have nin : k ∉ ks := fun hmem => by
    obtain ⟨i, hi⟩ := List.getElem?_of_mem hmem
    have hl : i < es.toList.length := by rw [X.length]; exact (List.getElem?_eq_some_iff.mp hi).1
    obtain ⟨k', b, e1, e2, e3⟩ := X.at (List.getElem?_eq_getElem hl)
    rw [hi] at e1
    cases e1
    have hpl : i < t.place.toList.length := by rw [T.len]; simpa using hl
    obtain ⟨m, hm, hj⟩ := metD T h1 (List.getElem?_eq_getElem hpl) (h := TH prog w k) (by rw [List.getElem?_map, List.getElem?_eq_getElem hl, e2]; rfl)
    rcases slot_specD T (P t.mask (TH prog w k) m).j with ⟨i', hs1, hs2⟩ | ⟨_, hs2, _⟩ | ⟨_, hs2⟩
    ·have hii : i' = i := by
      rw [hj] at hs2
      have a1 := List.getElem?_eq_getElem hpl
      by_cases l1 : i' < i
      ·have := T.up.at hs2 a1 l1; lia
      ·by_cases l2 : i < i'
       ·have := T.up.at a1 hs2 l2; lia
       ·lia
     subst hii
     by_cases cm : m < c
     ·exact inv m cm i' hs1 hi
     ·exact key m i' hs1 (g2 m (by lia) hm i' hs1) hi
    ·rw [hj] at hs2
     exact hs2 (List.getElem_mem _)
    ·rw [hj] at hs2
     exact hs2 (List.mem_append_left _ (List.getElem_mem _))
   dsimp only
   cases d' with
   | none => exact wpAny_pure (q2 nin _ _)
   | some dd =>
    dsimp only
    rw [if_neg (by simp)]
    exact wpAny_pure (q2 nin _ _)
  ·have : met = some (.candidate (P t.mask (TH prog w k) m).j i (Pd t.mask (TH prog w k) (m + 1) d')) := hg.symm.trans g6
   subst this
   have hp := slot_liveD T g3
   have hl : i < es.toList.length := by
    have := (List.getElem?_eq_some_iff.mp hp).1
    rw [T.len] at this
    simpa using this
   obtain ⟨k', b, e1, e2, e3⟩ := X.at (List.getElem?_eq_getElem hl)
   have hei : es[i]? = some (TH prog w k', .ref b) := by rw [<- Array.getElem?_toList, List.getElem?_eq_getElem hl, e2]
   dsimp only
   have hseen : ∀ y ∈ (es.filter (fun x => x.1 == TH prog w k)).toList.map (fun x => x.2), ∃ k' b, y = .ref b /\ TK prog w s.heap k' b := fun y hy => by
    obtain ⟨e, he, rfl⟩ := List.mem_map.mp hy
    have he' : e ∈ es.toList := by
     rw [Array.toList_filter] at he
     exact (List.mem_filter.mp he).1
    obtain ⟨i2, hi2⟩ := List.getElem?_of_mem he'
    obtain ⟨k2, b2, _, z2, z3⟩ := X.at hi2
    exact ⟨k2, b2, by rw [z2], z3⟩
   split
   all_goals try (refine wpAny_bind (not_seen hk hseen ?_); rw [if_neg Bool.false_ne_true])
   all_goals
    rw [hei]
    dsimp only
    refine wpAny_bind (wpAny_holding (wpAny_eqBool_tuple hu e3 hk ?_))
    refine wpAny_bind (wpAny_setState_of ho hd hfit ?_)
    dsimp only
    rw [if_neg (by simp), show t.sameMemory t.moves t.mask = some true by unfold sameMemory; simp]
    dsimp only
    rw [if_pos rfl, g3]
    dsimp only
    rw [hei]
    dsimp only
    refine wpAny_bind (wpAny_isSame_ref_self ?_)
    simp only [if_true]
    refine wpAny_bind (wpAny_pure ?_)
    dsimp only
    by_cases hkk : k' = k
    ·rw [if_pos (by simp [hkk])]
     exact wpAny_pure (q1 i (hkk ▸ e1))
    ·rw [if_neg (by simp [hkk])]
     refine find_from hu ho hd T X hk h1 h2 q1 q2 fuel (m + 1) d' (by lia) hN (by lia) (fun m' hm' i' hi' => ?_) _ rfl
     by_cases l1 : m' < c
     ·exact inv m' l1 i' hi'
     ·by_cases l2 : m' = m
      ·subst l2
       rw [g3] at hi'
       cases hi'
       rw [e1]
       exact fun e => hkk (Option.some.inj e)
      ·exact key m' i' hi' (g5 m' (by lia) (by lia) i' hi')
theorem find_tup {a x : Addr} {o : Obj} {es : Array (Int × Value)} {ep : Nat} {t : SetTable} {ks : List (List Int)} {k : List Int} {Q : Option Nat -> Shared -> Prop}
  (hu : A.units < cLine) (ho : s.heap.get? a = some o) (hd : o.data = .set es ep t) (T : TOkD t (es.toList.map (·.1))) (X : Ents prog w s.heap es.toList ks) (hk : TK prog w s.heap k x)
  (q1 : ∀ i, ks[i]? = some k -> Q (some i) s) (q2 : k ∉ ks -> Q none s) : wpAny (model prog w) A (setFind a (.ref x) (TH prog w k)) Q E s := by
 have hfit : t.fits es.size = true := T.fits (by simp)
 have hroom := T.room
 obtain ⟨n, n1, n2, n3⟩ := free_at (l := t.place.toList ++ t.dummies.toList) T.good (by rw [List.length_append]; lia) (TH prog w k)
 have hM : t.mask <= 255 := by rcases T.good with g | g | g | g | g | g <;> lia
 unfold setFind setFindIn
 refine wpAny_bind (wpAny_setState_of ho hd hfit ?_)
 dsimp only
 rw [if_neg (by simp [byScan, Value.scannable])]
 refine wpAny_bind ?_
 unfold setSearch
 refine find_from hu ho hd T X hk n2 n3 ?_ ?_ 100000 0 none (Nat.zero_le _) n1 (by unfold turns at n1; lia) (fun m hm => absurd hm (Nat.not_lt_zero _)) none ?_
 ·intro i hi
  exact wpAny_pure (q1 i hi)
 ·intro hn j b
  exact wpAny_pure (q2 hn)
 ·show P t.mask (TH prog w k) 0 = _
  rfl
end
end ST
namespace ST
open PySem PySem.SetTable PyProof.Rows
theorem eraseAt_list {α : Type} (xs : Array α) (p : Nat) : (eraseAt xs p).toList = xs.toList.take p ++ xs.toList.drop (p + 1) := by
 unfold eraseAt
 rw [Array.toList_append, Array.toList_extract, Array.toList_extract]
 simp only [List.extract_eq_take_drop, Nat.sub_zero, List.drop_zero]
 congr 1
 exact List.take_of_length_le (by rw [List.length_drop, Array.length_toList]; lia)
theorem mem_cut {l : List Nat} (s : Up l) {i j : Nat} (hi : l[i]? = some j) (x : Nat) : x ∈ l.take i ++ l.drop (i + 1) ↔ x ∈ l /\ x ≠ j := by
 have hl := (List.getElem?_eq_some_iff.mp hi).1
 have e : l = l.take i ++ j :: l.drop (i + 1) := by
  have : l[i] = j := by rw [List.getElem?_eq_getElem hl] at hi; exact Option.some.inj hi
  rw [<- this, <- List.drop_eq_getElem_cons hl, List.take_append_drop]
 have nd : (l.take i ++ j :: l.drop (i + 1)).Nodup := by rw [<- e]; exact s.nodup
 constructor
 ·intro hx
  refine ⟨?_, fun q => ?_⟩
  ·rw [e]
   rcases List.mem_append.mp hx with h | h
   ·exact List.mem_append_left _ h
   ·exact List.mem_append_right _ (List.mem_cons_of_mem _ h)
  ·subst q
   have := (List.perm_middle.nodup_iff.mp nd)
   exact (List.nodup_cons.mp this).1 hx
 ·rintro ⟨hx, hne⟩
  rw [e] at hx
  rcases List.mem_append.mp hx with h | h
  ·exact List.mem_append_left _ h
  ·rcases List.mem_cons.mp h with h | h
   ·exact absurd h hne
   ·exact List.mem_append_right _ h
theorem up_insert {xs : Array Nat} (s : Up xs.toList) {j : Nat} (hj : j ∉ xs.toList) : Up (insertAt xs (below xs j) j).toList := by
 obtain ⟨b1, b2, b3⟩ := below_spec xs s j
 rw [insertAt_list]
 unfold Up
 rw [List.pairwise_append]
 have hlt : ∀ x ∈ xs.toList.take (below xs j), x < j := fun x hx => by
  obtain ⟨i, hi⟩ := List.getElem?_of_mem hx
  rw [List.getElem?_take] at hi
  split at hi
  ·rename_i q; exact b2 i x hi q
  ·cases hi
 have hgt : ∀ x ∈ xs.toList.drop (below xs j), j < x := fun x hx => by
  obtain ⟨i, hi⟩ := List.getElem?_of_mem hx
  rw [List.getElem?_drop] at hi
  have := b3 _ x hi (by lia)
  have hne : x ≠ j := fun e => hj (e ▸ List.mem_of_getElem? hi)
  lia
 refine ⟨s.sublist (List.take_sublist _ _), List.pairwise_cons.mpr ⟨hgt, s.sublist (List.drop_sublist _ _)⟩, fun a ha b hb => ?_⟩
 rcases List.mem_cons.mp hb with rfl | hb
 ·exact hlt a ha
 ·exact Nat.lt_trans (hlt a ha) (hgt b hb)
theorem mem_insert {xs : Array Nat} {p j x : Nat} : x ∈ (insertAt xs p j).toList ↔ x = j ∨ x ∈ xs.toList := by
 rw [insertAt_list, List.mem_append, List.mem_cons]
 conv => rhs; rw [<- List.take_append_drop p xs.toList, List.mem_append]
 constructor
 ·rintro (a | a | a)
  ·exact .inr (.inl a)
  ·exact .inl a
  ·exact .inr (.inr a)
 ·rintro (a | a | a)
  ·exact .inr (.inl a)
  ·exact .inl a
  ·exact .inr (.inr a)
theorem zip_cut {α β : Type} {l : List α} {m : List β} {i : Nat} (hlm : l.length = m.length) {q : α × β} (h : q ∈ (l.take i ++ l.drop (i + 1)).zip (m.take i ++ m.drop (i + 1))) : q ∈ l.zip m := by
 rw [List.zip_append (by rw [List.length_take, List.length_take, hlm]), List.mem_append] at h
 rcases h with h | h
 ·obtain ⟨n, hn⟩ := List.getElem?_of_mem h
  rw [List.getElem?_zip_eq_some, List.getElem?_take, List.getElem?_take] at hn
  split at hn
  ·exact List.mem_of_getElem? (i := n) (by rw [List.getElem?_zip_eq_some]; exact hn)
  ·cases hn.1
 ·obtain ⟨n, hn⟩ := List.getElem?_of_mem h
  rw [List.getElem?_zip_eq_some, List.getElem?_drop, List.getElem?_drop] at hn
  exact List.mem_of_getElem? (i := i + 1 + n) (by rw [List.getElem?_zip_eq_some]; exact hn)
theorem drop_ok {t : SetTable} {hs : List Int} {i : Nat} (T : TOkD t hs) (hi : i < hs.length) : TOkD (t.drop i) (hs.take i ++ hs.drop (i + 1)) /\ (t.drop i).plain = t.plain /\ (t.drop i).led = t.led := by
 have hl : i < t.place.toList.length := by rw [T.len]; exact hi
 obtain ⟨j, hj⟩ : ∃ j, t.place.toList[i]? = some j := ⟨_, List.getElem?_eq_getElem hl⟩
 have hj' : t.place[i]? = some j := by rw [<- Array.getElem?_toList]; exact hj
 have jp : j ∈ t.place.toList := List.mem_of_getElem? hj
 have jd : j ∉ t.dummies.toList := fun h => T.apart j h jp
 have e : t.drop i = { t with place := eraseAt t.place i, dummies := insertAt t.dummies (below t.dummies j) j } := by
  unfold SetTable.drop
  rw [hj']
 rw [e]
 have hp : (eraseAt t.place i).toList = t.place.toList.take i ++ t.place.toList.drop (i + 1) := eraseAt_list _ _
 have lp : (eraseAt t.place i).toList.length + 1 = t.place.toList.length := by
  rw [hp, List.length_append, List.length_take, List.length_drop]
  lia
 have ld : (insertAt t.dummies (below t.dummies j) j).toList.length = t.dummies.toList.length + 1 := by
  rw [(SetTable.insertAt_perm _ _ _).length_eq]
  simp
 have occ : ∀ x, x ∈ (eraseAt t.place i).toList ++ (insertAt t.dummies (below t.dummies j) j).toList ↔ x ∈ t.place.toList ++ t.dummies.toList := fun x => by
  rw [List.mem_append, List.mem_append, hp, mem_cut T.up hj, mem_insert]
  constructor
  ·rintro (⟨a, _⟩ | a | a)
   ·exact .inl a
   ·exact .inl (a ▸ jp)
   ·exact .inr a
  ·rintro (a | a)
   ·by_cases c : x = j
    ·exact .inr (.inl c)
    ·exact .inl ⟨a, c⟩
   ·exact .inr (.inr a)
 refine ⟨⟨T.good, ?_, ?_, up_insert T.dup jd, fun x hx => ?_, ?_, fun q hq => ?_⟩, rfl, rfl⟩
 ·show (eraseAt t.place i).toList.length = _
  rw [hp, List.length_append, List.length_append, List.length_take, List.length_drop, List.length_take, List.length_drop, T.len]
 ·show Up (eraseAt t.place i).toList
  rw [hp]
  refine T.up.sublist ?_
  have : (t.place.toList.take i ++ t.place.toList.drop (i + 1)).Sublist (t.place.toList.take i ++ t.place.toList.drop i) := List.Sublist.append (List.Sublist.refl _) (by
   rw [List.drop_eq_getElem_cons hl]; exact List.sublist_cons_self _ _)
  rwa [List.take_append_drop] at this
 ·show x ∉ (eraseAt t.place i).toList
  rw [hp, mem_cut T.up hj]
  rintro ⟨a, b⟩
  rcases mem_insert.mp hx with c | c
  ·exact b c
  ·exact T.apart x c a
 ·show ((eraseAt t.place i).toList.length + (insertAt t.dummies (below t.dummies j) j).toList.length) * 5 < t.mask * 3
  have := T.room
  rw [ld]
  lia
 ·have hq' : q ∈ (eraseAt t.place i).toList.zip (hs.take i ++ hs.drop (i + 1)) := hq
  rw [hp] at hq'
  obtain ⟨n, e1, a⟩ := T.reach q (zip_cut T.len hq')
  exact ⟨n, e1, fun m hm => (occ _).mpr (a m hm)⟩
noncomputable def SetD (prog : Program) (w : World) (V : Value -> Prop) (h : Heap) (a : Addr) (ks : List (List Int)) : Prop :=
 ∃ o es ep t, h.get? a = some o /\ o.ExactSet /\ o.data = .set es ep t /\ TOkD t (es.toList.map (·.1)) /\ (t.plain = true /\ t.led = ledW w) /\ Ents prog w h es.toList ks /\ ks.Nodup /\ ∀ e ∈ es.toList, V e.2
theorem SetT.toD {prog : Program} {w : World} {V : Value -> Prop} {h : Heap} {a : Addr} {ks : List (List Int)} (S : SetT prog w V h a ks) : SetD prog w V h a ks := by
 obtain ⟨o, es, ep, t, z1, z2, z3, z4, z5, z6, z7, z8⟩ := S
 exact ⟨o, es, ep, t, z1, z2, z3, z4.toD, z5, z6, z7, z8⟩
section
variable {prog : Program} {w : World} {A : Around} {E : Value -> Shared -> Prop} {s : Shared} {V : Value -> Prop}
theorem cut_perm {α : Type} {l : List α} {i : Nat} {x : α} (h : l[i]? = some x) : List.Perm l (x :: (l.take i ++ l.drop (i + 1))) := by
 have hl := (List.getElem?_eq_some_iff.mp h).1
 have : l[i] = x := by rw [List.getElem?_eq_getElem hl] at h; exact Option.some.inj h
 have e : l = l.take i ++ x :: l.drop (i + 1) := by rw [<- this, <- List.drop_eq_getElem_cons hl, List.take_append_drop]
 exact (List.Perm.of_eq e).trans List.perm_middle
theorem discard_tup {a x : Addr} {ks : List (List Int)} {k : List Int} {Q : Bool -> Shared -> Prop} (hu : A.units < cLine) (S : SetD prog w V s.heap a ks) (hk : TK prog w s.heap k x)
  (q1 : k ∉ ks -> Q false s) (q2 : ∀ h' ks', Heap.SameBut a s.heap h' -> SetD prog w V h' a ks' -> List.Perm ks (k :: ks') -> Q true { s with heap := h' }) (hsz : ks.length <= 1000) :
  wpAny (model prog w) A (setDiscardHashed a (.ref x) (TH prog w k)) Q E s := by
 obtain ⟨o, es, ep, t, ho, hex, hd, T, hp, X, hnd, hV⟩ := S
 have hfit : t.fits es.size = true := T.fits (by simp)
 unfold setDiscardHashed
 refine wpAny_bind (find_tup hu ho hd T X hk (fun i hi => ?_) fun hn => wpAny_pure (q1 hn))
 dsimp only
 have hik : i < ks.length := (List.getElem?_eq_some_iff.mp hi).1
 have hie : i < es.toList.length := by rw [X.length]; exact hik
 refine wpAny_bind (wpAny_setState_of ho hd hfit ?_)
 dsimp only
 have hes : es.size = ks.length := by rw [<- X.length, Array.length_toList]
 have hle : (eraseAt es i).size <= es.size := by
  rw [<- Array.length_toList, eraseAt_list, List.length_append, List.length_take, List.length_drop, Array.length_toList]
  lia
 refine wpAny_bind (wpAny_storeSet_of ho hd ?_ (by rw [sizeLine_eq]; lia))
 have hg : (s.heap.update a (Obj.putSet (eraseAt es i) (t.drop i))).get? a = some { o with data := .set (eraseAt es i) (ep + 1) (t.drop i) } := by
  have := Heap.get?_update_self (Obj.putSet (eraseAt es i) (t.drop i)) ho (by rw [putSet_of _ _ hd]; rfl)
  rw [putSet_of _ _ hd] at this; exact this
 have hsb := Heap.SameBut.update s.heap a (Obj.putSet (eraseAt es i) (t.drop i))
 obtain ⟨T2, p1, p2⟩ := drop_ok (i := i) T (by rw [List.length_map]; exact hie)
 refine wpAny_bind (wpAny_point (wpAny_pure (q2 _ (ks.take i ++ ks.drop (i + 1)) hsb ⟨_, _, _, _, hg, hex, rfl, ?_, ⟨by rw [p1]; exact hp.1, by rw [p2]; exact hp.2⟩, ?_, ?_, fun e he => ?_⟩ (cut_perm hi))))
 ·rw [eraseAt_list, List.map_append, List.map_take, List.map_drop]
  exact T2
 ·rw [eraseAt_list]
  exact ((X.take i).append (X.drop (i + 1))).mono fun k b => TK.keep ho hd hsb
 ·exact (List.nodup_cons.mp ((cut_perm hi).nodup_iff.mp hnd)).2
 ·rw [eraseAt_list] at he
  rcases List.mem_append.mp he with he | he
  ·exact hV e (List.mem_of_mem_take he)
  ·exact hV e (List.mem_of_mem_drop he)
end
end ST
namespace ST
open PySem PySem.SetTable PyProof.Rows
section
variable {prog : Program} {w : World} {A : Around} {E : Value -> Shared -> Prop} {s : Shared} {V : Value -> Prop}
abbrev freshObj (w : World) : Obj := { cls := .type "set", dict := none, data := .set #[] 0 (.fresh 0 0 (ledW w)) }
theorem new_set {Q : Value -> Shared -> Prop} (h : Q (.ref s.heap.objs.size) { s with heap := s.heap.push (freshObj w) }) : wpAny (model prog w) A (newSet (.type "set")) Q E s := by
 unfold newSet setsByText
 refine wpAny_bind (wpAny_bind (wpAny_askSetting (wpAny_pure ?_)))
 dsimp only
 simp only [newObj]
 exact wpAny_bind (wpAny_alloc (wpAny_pure h))
structure Bare (w : World) (t : SetTable) (M : Nat) : Prop where
 good : Good M
 mask : t.mask = M
 place : t.place = #[]
 dum : t.dummies = #[]
 plain : t.plain = true
 led : t.led = ledW w
theorem relaid_bare (t : SetTable) (wanted : Nat) : t.relaid #[] wanted = some ({ mask := sizeAbove wanted - 1, place := #[], dummies := #[], finger := t.finger, led := t.led, moves := t.movedTo (sizeAbove wanted - 1), plain := t.plain }, #[]) := by
 unfold relaid laid layClean
 have e : ∀ M : Nat, ((List.range (M + 1)).filterMap fun j => ((Array.replicate (M + 1) (none : Option Nat)).getD j none).map (j, ·)) = [] := fun M => by
  rw [List.filterMap_eq_nil_iff]
  intro j _
  have : (Array.replicate (M + 1) (none : Option Nat)).getD j none = none := by
   unfold Array.getD
   split
   ·simp
   ·rfl
  rw [this]
  rfl
 show some _ = _
 simp only [e]
 rfl
theorem grow_M {n : Nat} (h5 : n * 5 >= 21) (hn : n <= 75) : ∃ M, sizeAbove (n * 2) - 1 = M /\ Good M /\ n * 5 < M * 3 /\ ¬ sizeAbove (n * 2) > sizeLine := by
 have h : ∀ n : Fin 76, n.val * 5 >= 21 -> (sizeAbove (n.val * 2) - 1 = 15 ∨ sizeAbove (n.val * 2) - 1 = 31 ∨ sizeAbove (n.val * 2) - 1 = 63 ∨ sizeAbove (n.val * 2) - 1 = 127 ∨ sizeAbove (n.val * 2) - 1 = 255) /\ n.val * 5 < (sizeAbove (n.val * 2) - 1) * 3 /\ sizeAbove (n.val * 2) <= 256 := by decide +kernel
 obtain ⟨h1, h2, h3⟩ := h ⟨n, by lia⟩ h5
 refine ⟨_, rfl, ?_, h2, by rw [sizeLine_eq]; exact Nat.not_lt.mpr (Nat.le_trans h3 (by decide))⟩
 unfold Good
 rcases h1 with e | e | e | e | e <;> simp only at e <;> lia
theorem tidy_M {n : Nat} (hn : n <= 63) : ∃ M, sizeAbove (grown n) - 1 = M /\ Good M /\ n * 5 < M * 3 /\ ¬ sizeAbove (grown n) > sizeLine := by
 have h : ∀ n : Fin 64, (sizeAbove (grown n.val) - 1 = 7 ∨ sizeAbove (grown n.val) - 1 = 15 ∨ sizeAbove (grown n.val) - 1 = 31 ∨ sizeAbove (grown n.val) - 1 = 63 ∨ sizeAbove (grown n.val) - 1 = 127 ∨ sizeAbove (grown n.val) - 1 = 255) /\ n.val * 5 < (sizeAbove (grown n.val) - 1) * 3 /\ sizeAbove (grown n.val) <= 256 := by decide +kernel
 obtain ⟨h1, h2, h3⟩ := h ⟨n, by lia⟩
 refine ⟨_, rfl, ?_, h2, by rw [sizeLine_eq]; exact Nat.not_lt.mpr (Nat.le_trans h3 (by decide))⟩
 unfold Good
 rcases h1 with e | e | e | e | e | e <;> simp only at e <;> lia
theorem room_fresh {r n : Nat} {o : Obj} {t : SetTable} {ep : Nat} {Q : Unit -> Shared -> Prop} (ho : s.heap.get? r = some o) (hex : o.ExactSet) (hd : o.data = .set #[] ep t) (B : Bare w t 7) (hn : n <= 75)
  (h : ∀ h' o' ep' t' M, Heap.SameBut r s.heap h' -> h'.get? r = some o' -> o'.ExactSet -> o'.data = .set #[] ep' t' -> Bare w t' M -> n * 5 < M * 3 -> Q () { s with heap := h' }) : wpAny (model prog w) A (setRoomFor r n) Q E s := by
 have hfit : t.fits (#[] : Array (Int × Value)).size = true := by unfold SetTable.fits SetTable.fill; rw [B.place, B.dum]; simp
 unfold setRoomFor
 refine wpAny_bind (wpAny_setState_of ho hd hfit ?_)
 unfold SetTable.roomFor SetTable.fill
 rw [B.place, B.dum, B.mask]
 by_cases c : (0 + n) * 5 >= 7 * 3
 ·rw [if_pos (by simpa using c)]
  obtain ⟨M, m1, m2, m3, m4⟩ := grow_M (n := n) (by lia) hn
  unfold setRelay
  refine wpAny_bind (wpAny_setState_of ho hd hfit ?_)
  dsimp only
  have ew : ((#[] : Array Nat).size + n) * 2 = n * 2 := by simp
  rw [ew, if_neg m4]
  have er := relaid_bare t (n * 2)
  rw [m1] at er
  have em : ((#[] : Array (Int × Value)).map (·.1)) = #[] := by simp
  rw [em, er]
  refine wpAny_bind (wpAny_of_eq (a := ((#[] : Array (Int × Value)), ({ mask := M, place := #[], dummies := #[], finger := t.finger, led := t.led, moves := t.movedTo M, plain := t.plain } : SetTable))) (by rfl) ?_)
  dsimp only
  refine wpAny_storeSet_of ho hd ?_ (by simp)
  have hg := Heap.get?_update_self (Obj.putSet #[] { mask := M, place := #[], dummies := #[], finger := t.finger, led := t.led, moves := t.movedTo M, plain := t.plain }) ho (by rw [putSet_of _ _ hd]; rfl)
  rw [putSet_of _ _ hd] at hg
  exact h _ _ _ _ M (Heap.SameBut.update ..) hg hex rfl ⟨m2, rfl, rfl, rfl, B.plain, B.led⟩ m3
 ·rw [if_neg (by simpa using c)]
  exact wpAny_pure (h s.heap o ep t 7 (Heap.SameBut.refl ..) ho hex hd B (by lia))
end
end ST
namespace ST
open PySem PySem.SetTable PyProof.Rows
section
variable {prog : Program} {w : World} {A : Around} {E : Value -> Shared -> Prop} {s : Shared} {V : Value -> Prop}
theorem merge_fresh {r a : Addr} {o : Obj} {t : SetTable} {ep : Nat} {ks : List (List Int)} {Q : Unit -> Shared -> Prop} (hra : r ≠ a) (ho : s.heap.get? r = some o) (hex : o.ExactSet) (hd : o.data = .set #[] ep t) (B : Bare w t 7)
  (S : SetT prog w V s.heap a ks) (hn : ks.length <= 75) (h : ∀ h' ks', Heap.SameBut r s.heap h' -> SetT prog w V h' r ks' -> List.Perm ks' ks -> Q () { s with heap := h' }) : wpAny (model prog w) A (setMerge r a (pure ())) Q E s := by
 obtain ⟨oa, es, epa, ta, ha, hxa, hda, T, hp, X, hnd, hV⟩ := S
 have hes : es.size = ks.length := by rw [<- X.length, Array.length_toList]
 unfold setMerge
 rw [if_neg (by simpa using hra)]
 refine wpAny_bind (wpAny_setState_of ha hda (T.fits (by simp)) ?_)
 dsimp only
 by_cases em : es.isEmpty = true
 ·rw [if_pos em]
  have e0 : es = #[] := by simpa using em
  have k0 : ks = [] := by
   rw [e0] at hes
   exact List.eq_nil_of_length_eq_zero hes.symm
  subst k0
  refine wpAny_pure (h s.heap [] (Heap.SameBut.refl ..) ⟨o, #[], ep, t, ho, hex, hd, ?_, ⟨B.plain, B.led⟩, .nil, List.nodup_nil, fun e he => by simp at he⟩ (.refl _))
  exact ⟨by rw [B.mask]; exact B.good, B.dum, by rw [B.place]; rfl, by rw [B.place]; exact List.Pairwise.nil, fun x hx => by rw [B.place] at hx; simp at hx, by rw [B.place, B.mask]; decide, fun q hq => by rw [B.place] at hq; simp at hq⟩
 ·rw [if_neg em]
  refine wpAny_bind (room_fresh ho hex hd B (by rw [hes]; exact hn) fun h1 o1 ep1 t1 M sb1 ho1 hex1 hd1 B1 hM => ?_)
  have ha1 : h1.get? a = some oa := (sb1.2 a (Ne.symm hra)).trans ha
  have X1 : Ents prog w h1 es.toList ks := X.mono fun k b => TK.keep ho hd sb1
  refine wpAny_bind (wpAny_setState_of (s := { s with heap := h1 }) ho1 hd1 (by unfold SetTable.fits SetTable.fill; rw [B1.place, B1.dum]; simp) ?_)
  dsimp only
  have hf : (t1.fill != 0) = false := by unfold SetTable.fill; rw [B1.place, B1.dum]; rfl
  have szl : es.size <= sizeLine := by rw [sizeLine_eq]; lia
  unfold SetTable.road
  rw [hf, if_neg Bool.false_ne_true]
  by_cases c : (t1.mask == ta.mask && ta.dummies.isEmpty) = true
  ·rw [if_pos c]
   dsimp only
   refine wpAny_storeSet_of (s := { s with heap := h1 }) ho1 hd1 ?_ szl
   have hg := Heap.get?_update_self (Obj.putSet es { ta with finger := t1.finger, led := t1.led && ta.led, moves := t1.moves, plain := t1.plain && ta.plain }) ho1 (by rw [putSet_of _ _ hd1]; rfl)
   rw [putSet_of _ _ hd1] at hg
   have sb2 := Heap.SameBut.update h1 r (Obj.putSet es { ta with finger := t1.finger, led := t1.led && ta.led, moves := t1.moves, plain := t1.plain && ta.plain })
   refine h _ ks (sb1.trans sb2) ⟨_, _, _, _, hg, hex1, rfl, ⟨T.good, T.dum, T.len, T.up, T.le, T.room, T.reach⟩, ⟨?_, ?_⟩, X1.mono fun k b => TK.keep ho1 hd1 sb2, hnd, hV⟩ (.refl _)
   ·show (t1.plain && ta.plain) = true
    rw [B1.plain, hp.1]; rfl
   ·show (t1.led && ta.led) = ledW w
    rw [B1.led, hp.2, Bool.and_self]
  ·rw [if_neg c]
   dsimp only
   obtain ⟨t', order, r1, r2, r3, r4, r5⟩ := laid_ok (hs := es.map (·.1)) (M := M) t1.finger t1.moves (t1.led && ta.led) (t1.plain && ta.plain) B1.good (by rw [Array.size_map]; exact hM)
   have hlt : ∀ i ∈ order.toList, i < es.toList.length := fun i hi => by
    have := List.mem_range.mp (r2.mem_iff.mp hi)
    simpa using this
   have hesl : (order.filterMap (es[·]?)).toList = order.toList.filterMap (es.toList[·]?) := by
    rw [Array.toList_filterMap]
    congr 1
    funext i
    rw [Array.getElem?_toList]
   have hperm : List.Perm (order.filterMap (es[·]?)).toList es.toList := by
    rw [Array.toList_filterMap]
    refine (r2.filterMap _).trans ?_
    rw [Array.size_map, filterMap_getElem?_range]
   have hsize : (order.filterMap (es[·]?)).size = es.size := by rw [<- Array.length_toList, hperm.length_eq, Array.length_toList]
   rw [B1.mask, r1]
   refine wpAny_bind ?_
   show wpAny _ _ (if ((order.filterMap (es[·]?)).size != es.size) = true then _ else pure (order.filterMap (es[·]?), t')) _ _ _
   rw [if_neg (by simp [hsize])]
   refine wpAny_pure ?_
   dsimp only
   refine wpAny_storeSet_of (s := { s with heap := h1 }) ho1 hd1 ?_ (by rw [hsize]; exact szl)
   have hg := Heap.get?_update_self (Obj.putSet (order.filterMap (es[·]?)) t') ho1 (by rw [putSet_of _ _ hd1]; rfl)
   rw [putSet_of _ _ hd1] at hg
   have sb2 := Heap.SameBut.update h1 r (Obj.putSet (order.filterMap (es[·]?)) t')
   have kp : List.Perm (order.toList.filterMap (ks[·]?)) ks := by
    refine (r2.filterMap _).trans ?_
    rw [Array.size_map, <- Array.length_toList, X.length, List.filterMap_getElem?_range_length]
   refine h _ (order.toList.filterMap (ks[·]?)) (sb1.trans sb2) ⟨_, _, _, _, hg, hex1, rfl, ?_, ⟨by rw [r5, B1.plain, hp.1]; rfl, by rw [r4, B1.led, hp.2, Bool.and_self]⟩, ?_, kp.nodup_iff.mpr hnd, fun e he => hV e (hperm.mem_iff.mp he)⟩ kp
   ·rw [hesl, hs_pick _ _ hlt]
    simpa using r3
   ·rw [hesl]
    exact (X1.pick _ hlt).mono fun k b => TK.keep ho1 hd1 sb2
theorem is_set {a : Addr} {Q : Bool -> Shared -> Prop} (hT : s.TypeIs (.ref a) "set") (h : Q true s) : wpAny (model prog w) A (Builtin.Frozenset.isAnySet (.ref a)) Q E s := by
 unfold Builtin.Frozenset.isAnySet orM
 refine wpAny_bind (wpAny_isInstance hT sub_set_self ?_)
 exact wpAny_pure h
theorem base_of {a : Addr} {Q : Value -> Shared -> Prop} (hT : s.TypeIs (.ref a) "set") (h : Q (.type "set") s) : wpAny (model prog w) A (Builtin.Frozenset.baseOf a) Q E s := by
 unfold Builtin.Frozenset.baseOf
 refine wpAny_bind (wpAny_isInstance hT sub_set_self ?_)
 rw [if_pos rfl]
 exact wpAny_pure h
theorem size_of {a : Addr} {o : Obj} {es : Array (Int × Value)} {ep : Nat} {t : SetTable} {Q : Nat -> Shared -> Prop} (ho : s.heap.get? a = some o) (hd : o.data = .set es ep t) (hf : t.fits es.size = true) (h : Q es.size s) : wpAny (model prog w) A (Builtin.Frozenset.sizeOf a) Q E s := by
 unfold Builtin.Frozenset.sizeOf
 exact wpAny_bind (wpAny_setEntries_of ho hd hf (wpAny_pure h))
theorem copy_of {a : Addr} {ks : List (List Int)} {Q : Value -> Shared -> Prop} (S : SetT prog w V s.heap a ks) (hn : ks.length <= 75)
  (h : ∀ h' ks', (∀ b o, s.heap.get? b = some o -> h'.get? b = some o) -> SetT prog w V h' s.heap.objs.size ks' -> List.Perm ks' ks -> Q (.ref s.heap.objs.size) { s with heap := h' }) : wpAny (model prog w) A (Builtin.Frozenset.copyOf a) Q E s := by
 obtain ⟨oa, es, epa, ta, ha, hxa, hda, T, hp, X, hnd, hV⟩ := id S
 have hT : s.TypeIs (.ref a) "set" := ⟨oa, ha, hxa.1⟩
 have la := Heap.lt_size ha
 unfold Builtin.Frozenset.copyOf
 refine wpAny_bind (base_of hT (wpAny_bind (new_set ?_)))
 refine wpAny_bind (wpAny_pure ?_)
 have S' : SetT prog w V (s.heap.push (freshObj w)) a ks := S.moved fun b o e _ => Heap.get?_push_of_some _ e
 refine wpAny_bind (merge_fresh (s := { s with heap := s.heap.push (freshObj w) }) (r := s.heap.objs.size) (Nat.ne_of_gt la) (Heap.get?_push_size _ rfl) ⟨rfl, rfl, rfl⟩ rfl ⟨.inl rfl, rfl, rfl, rfl, rfl, rfl⟩ S' hn fun h' ks' sb S'' pk => ?_)
 exact wpAny_pure (h h' ks' (fun b o e => (sb.2 b (Nat.ne_of_lt (Heap.lt_size e))).trans (Heap.get?_push_of_some _ e)) S'' pk)
end
end ST
namespace ST
open PySem PySem.SetTable PyProof.Rows
section
variable {prog : Program} {w : World} {A : Around} {E : Value -> Shared -> Prop} {s : Shared} {V : Value -> Prop}
theorem walk_unseen {a : Addr} {o : Obj} {es : Array (Int × Value)} {ep : Nat} {t : SetTable} {others : List Addr} {filled : Option Addr} {Q : Array (Int × Value) -> Shared -> Prop} (S : SetAt w s.heap a o es ep t) (h : Q (ordW w a ep es) s) :
  wpAny (model prog w) A (setWalkUnseen a others filled) Q E s := by
 unfold setWalkUnseen
 refine wpAny_bind (wpAny_setState_of S.get S.data S.fits ?_)
 dsimp only
 refine wpAny_bind (by_text ?_)
 have c : (w.params.followText "set-order" || (t.led && t.plain) || decide (es.size <= 1)) = true := by
  rw [S.led, S.plain, ledW]
  cases w.params.followText "set-order" <;> rfl
 rw [c, if_pos rfl]
 exact walk_at S h
theorem unchanged_ok {id : String} {a : Addr} {o : Obj} {es : Array (Int × Value)} {ep : Nat} {t : SetTable} {Q : Unit -> Shared -> Prop} (ho : s.heap.get? a = some o) (hd : o.data = .set es ep t) (hf : t.fits es.size = true) (h : Q () s) : wpAny (model prog w) A (Builtin.Frozenset.unchanged id a ep) Q E s := by
 unfold Builtin.Frozenset.unchanged setEpoch
 refine wpAny_bind (wpAny_bind (wpAny_setState_of ho hd hf (wpAny_pure ?_)))
 rw [if_neg (by simp)]
 exact wpAny_pure h
theorem SetT.setAt {h : Heap} {a : Addr} {ks : List (List Int)} (S : SetT prog w V h a ks) : ∃ o es ep t, SetAt w h a o es ep t /\ TOk t (es.toList.map (·.1)) /\ Ents prog w h es.toList ks /\ ∀ e ∈ es.toList, V e.2 := by
 obtain ⟨o, es, ep, t, z1, z2, z3, z4, z5, z6, z7, z8⟩ := S
 exact ⟨o, es, ep, t, ⟨z1, z2, z3, z4.fits (by simp), z4.up, z5.1, z5.2⟩, z4, z6, z8⟩
theorem diff_ok {id : String} {a b : Addr} {ka kb : List (List Int)} {Q : Value -> Shared -> Prop} (hab : a ≠ b) (hu : A.units < cLine) (SA : SetT prog w V s.heap a ka) (SB : SetT prog w V s.heap b kb) (hna : ka.length <= 63)
  (h : ∀ h' r ks, s.heap.objs.size <= r -> (∀ b o, s.heap.get? b = some o -> h'.get? b = some o) -> SetD prog w V h' r ks -> (∀ k, k ∈ ks ↔ k ∈ ka /\ k ∉ kb) -> Q (.ref r) { s with heap := h' }) :
  wpAny (model prog w) A (Builtin.Frozenset.difference id a (.ref b)) Q E s := by
 obtain ⟨oa, ea, pa, ta, Sa, Ta, Xa, Va⟩ := SA.setAt
 obtain ⟨ob, eb, pb, tb, Sb, Tb, Xb, Vb⟩ := SB.setAt
 have hTa : s.TypeIs (.ref a) "set" := ⟨oa, Sa.get, Sa.ex.1⟩
 have hTb : s.TypeIs (.ref b) "set" := ⟨ob, Sb.get, Sb.ex.1⟩
 have nda := SA.nodup
 unfold Builtin.Frozenset.difference
 refine wpAny_bind (is_set hTb ?_)
 simp only [Bool.not_true, Bool.false_eq_true, if_false, Bool.false_and]
 unfold Builtin.Frozenset.addrOf
 refine wpAny_bind (wpAny_pure ?_)
 simp only [if_true]
 refine wpAny_bind (size_of Sb.get Sb.data Sb.fits ?_)
 refine wpAny_bind (size_of Sa.get Sa.data Sa.fits ?_)
 by_cases c : ea.size / 4 > eb.size
 ·rw [if_pos c]
  refine wpAny_bind (wpAny_rule ?_)
  refine wpAny_bind (copy_of SA (by lia) fun h1 kr kp1 SR pr => ?_)
  have lb := Heap.lt_size Sb.get
  have Sb1 := Sb.at (kp1 _ _ Sb.get)
  have hTb1 : ({ s with heap := h1 } : Shared).TypeIs (.ref b) "set" := ⟨ob, Sb1.get, Sb.ex.1⟩
  refine wpAny_bind (wpAny_pure ?_)
  refine wpAny_bind (wpAny_holding ?_)
  unfold Builtin.Frozenset.differenceUpdate
  rw [if_neg (by simpa using Nat.ne_of_lt lb)]
  refine wpAny_bind (is_set hTb1 ?_)
  rw [if_pos rfl]
  unfold Builtin.Frozenset.addrOf
  refine wpAny_bind (wpAny_pure ?_)
  refine wpAny_bind (size_of (s := { s with heap := h1 }) Sb1.get Sb1.data Sb1.fits ?_)
  obtain ⟨oR, eR, pR, tR, SatR, TR, XR, VR⟩ := SR.setAt
  refine wpAny_bind (size_of (s := { s with heap := h1 }) SatR.get SatR.data SatR.fits ?_)
  have sz1 : eR.size = ea.size := by rw [<- Array.length_toList, XR.length, pr.length_eq, <- Xa.length, Array.length_toList]
  rw [if_neg (by lia)]
  dsimp only
  refine wpAny_bind (wpAny_setEpoch_of (s := { s with heap := h1 }) Sb1.get Sb1.data Sb1.fits ?_)
  refine wpAny_bind (wpAny_holding (wpAny_bind (walk_unseen (s := { s with heap := h1 }) Sb1 ?_)))
  obtain ⟨ko, Xo, po⟩ := Xb.perm (ord_perm w b pb eb).symm
  rw [<- Array.forIn_toList]
  refine wpAny_bind (wpAny_forIn_list _ (fun rest _ s' => ∃ h' kc kd krest, s' = { s with heap := h' } /\ (∀ b o, s.heap.get? b = some o -> h'.get? b = some o) /\ SetD prog w V h' s.heap.objs.size kc /\ Ents prog w s.heap rest krest /\ List.Perm (kd ++ krest) kb /\ kc.length <= 63 /\ ∀ k, k ∈ kc ↔ k ∈ ka /\ k ∉ kd) _ ?_ ?_ _ _ ?_)
  ·rintro x rest _ s' ⟨h', kc, kd, krest, rfl, kp, SC, Xr, pk, lc, mk⟩
   cases Xr with
   | @cons k bx _ krest hk Xr =>
    have hk' : TK prog w h' k bx := hk.at fun o e => kp bx o e
    have pk' : List.Perm ((kd ++ [k]) ++ krest) kb := by rw [List.append_assoc]; exact pk
    dsimp only
    refine wpAny_bind (wpAny_holding (discard_tup (s := { s with heap := h' }) hu SC hk' (fun hn => ?_) (fun h2 kc2 sb S2 p2 => ?_) (by lia)))
    ·have Sb2 := Sb.at (kp _ _ Sb.get)
     refine wpAny_bind (unchanged_ok (s := { s with heap := h' }) Sb2.get Sb2.data Sb2.fits (wpAny_pure ?_))
     refine ⟨h', kc, kd ++ [k], krest, rfl, kp, SC, Xr, pk', lc, fun k' => ?_⟩
     rw [mk k', List.mem_append, List.mem_singleton]
     constructor
     ·rintro ⟨x1, x2⟩
      exact ⟨x1, fun z => z.elim x2 fun z => hn (z ▸ (mk k').mpr ⟨x1, x2⟩)⟩
     ·rintro ⟨x1, x2⟩
      exact ⟨x1, fun z => x2 (.inl z)⟩
    ·have kp2 : ∀ b o, s.heap.get? b = some o -> h2.get? b = some o := fun b o e => (sb.2 b (Nat.ne_of_lt (Heap.lt_size e))).trans (kp b o e)
     have Sb2 := Sb.at (kp2 _ _ Sb.get)
     refine wpAny_bind (unchanged_ok (s := { s with heap := h2 }) Sb2.get Sb2.data Sb2.fits (wpAny_pure ?_))
     have nd : (k :: kc2).Nodup := by
      obtain ⟨_, _, _, _, _, _, _, _, _, _, z7, _⟩ := SC
      exact p2.nodup_iff.mp z7
     have ll := p2.length_eq
     rw [List.length_cons] at ll
     refine ⟨h2, kc2, kd ++ [k], krest, rfl, kp2, S2, Xr, pk', by lia, fun k' => ?_⟩
     rw [List.mem_append, List.mem_singleton]
     have m1 : k' ∈ kc ↔ k' = k ∨ k' ∈ kc2 := by rw [p2.mem_iff, List.mem_cons]
     constructor
     ·intro hx
      have := (mk k').mp (m1.mpr (.inr hx))
      exact ⟨this.1, fun z => z.elim this.2 fun z => (List.nodup_cons.mp nd).1 (z ▸ hx)⟩
     ·rintro ⟨x1, x2⟩
      rcases m1.mp ((mk k').mpr ⟨x1, fun z => x2 (.inl z)⟩) with z | z
      ·exact absurd (.inr z) x2
      ·exact z
  ·rintro _ s' ⟨h', kc, kd, krest, rfl, kp, SC, Xr, pk, lc, mk⟩
   cases Xr
   rw [List.append_nil] at pk
   refine wpAny_pure ?_
   have fin : ∀ h2 kc2, (∀ b o, s.heap.get? b = some o -> h2.get? b = some o) -> SetD prog w V h2 s.heap.objs.size kc2 -> List.Perm kc2 kc -> wpAny (model prog w) A (pure (Value.ref s.heap.objs.size)) Q E { s with heap := h2 } := fun h2 kc2 kp2 S2 p2 =>
    wpAny_pure (h h2 _ kc2 (Nat.le_refl _) kp2 S2 fun k => by rw [p2.mem_iff, mk k, pk.mem_iff])
   obtain ⟨o, es, ep, t, ho, hex, hd, T, hp, X, hnd, hV⟩ := _root_.id SC
   have hfit : t.fits es.size = true := T.fits (by simp)
   have hes : es.size = kc.length := by rw [<- X.length, Array.length_toList]
   unfold setTidy
   refine wpAny_bind (wpAny_setState_of (s := { s with heap := h' }) ho hd hfit ?_)
   dsimp only
   by_cases td : t.tooManyDummies = true
   ·rw [if_pos td]
    obtain ⟨M, m1, m2, m3, m4⟩ := tidy_M (n := es.size) (by lia)
    refine relay_ok (s := { s with heap := h' }) (V := V) ho hex hd hfit hp X hnd hV m1 m2 m3 m4 (by rw [sizeLine_eq]; lia) fun h2 kc2 sb S2 p2 => ?_
    exact fin h2 kc2 (fun b o e => (sb.2 b (Nat.ne_of_lt (Heap.lt_size e))).trans (kp b o e)) S2.toD p2
   ·rw [if_neg td]
    exact wpAny_pure (fin h' kc kp SC (.refl _))
  ·exact ⟨h1, kr, [], ko, rfl, kp1, SR.toD, Xo, po, by rw [pr.length_eq]; exact hna, fun k => by rw [pr.mem_iff]; simp⟩
 ·rw [if_neg c]
  refine wpAny_bind (base_of hTa (wpAny_bind (new_set ?_)))
  refine wpAny_bind (wpAny_pure ?_)
  have kp0 : ∀ b o, s.heap.get? b = some o -> (s.heap.push (freshObj w)).get? b = some o := fun b o e => Heap.get?_push_of_some _ e
  have Sa0 := Sa.at (kp0 _ _ Sa.get)
  refine wpAny_bind (wpAny_setEpoch_of Sa0.get Sa0.data Sa0.fits ?_)
  refine wpAny_bind (wpAny_holding (wpAny_bind (walk_unseen (s := { s with heap := s.heap.push (freshObj w) }) Sa0 ?_)))
  obtain ⟨ko, Xo, po⟩ := Xa.perm (ord_perm w a pa ea).symm
  rw [<- Array.forIn_toList]
  refine wpAny_bind (wpAny_forIn_list _ (fun rest _ s' => ∃ h' kr kd krest, s' = { s with heap := h' } /\ (∀ b o, s.heap.get? b = some o -> h'.get? b = some o) /\ SetT prog w V h' s.heap.objs.size kr /\ Ents prog w s.heap rest krest /\ List.Perm (kd ++ krest) ka /\ (∀ k, k ∈ kr ↔ k ∈ kd /\ k ∉ kb) /\ ∀ e ∈ rest, V e.2) _ ?_ ?_ _ _ ?_)
  ·rintro x rest _ s' ⟨h', kr, kd, krest, rfl, kp, SR, Xr, pk, mk, vr⟩
   cases Xr with
   | @cons k bx _ krest hk Xr =>
    have hk' : TK prog w h' k bx := hk.at fun o e => kp bx o e
    have Sb' := Sb.at (kp _ _ Sb.get)
    have Sa' := Sa.at (kp _ _ Sa.get)
    have nin : k ∉ kd := by
     have := pk.nodup_iff.mpr nda
     have := List.perm_middle.nodup_iff.mp this
     exact fun hh => (List.nodup_cons.mp this).1 (List.mem_append_left _ hh)
    have pk' : List.Perm ((kd ++ [k]) ++ krest) ka := by rw [List.append_assoc]; exact pk
    refine wpAny_bind (wpAny_holding (wpAny_bind (find_tup (s := { s with heap := h' }) hu Sb'.get Sb'.data Tb.toD (Xb.mono fun k b x => x.at fun o e => kp b o e) hk' (fun i hi => ?_) fun hn => ?_)))
    ·refine wpAny_bind (wpAny_pure ?_)
     simp only [Option.isSome_some, Bool.not_true, Bool.false_eq_true, if_false]
     refine wpAny_pure ?_
     refine wpAny_bind (unchanged_ok (s := { s with heap := h' }) Sa'.get Sa'.data Sa'.fits (wpAny_pure ?_))
     refine ⟨h', kr, kd ++ [k], krest, rfl, kp, SR, Xr, pk', fun k' => ?_, fun e he => vr e (List.mem_cons_of_mem _ he)⟩
     rw [mk k', List.mem_append, List.mem_singleton]
     constructor
     ·rintro ⟨x1, x2⟩; exact ⟨.inl x1, x2⟩
     ·rintro ⟨x1 | x1, x2⟩
      ·exact ⟨x1, x2⟩
      ·exact absurd (x1 ▸ List.mem_of_getElem? hi) x2
    ·refine wpAny_bind (wpAny_pure ?_)
     simp only [Option.isSome_none, Bool.not_false, if_true]
     have lk : kr.length <= 63 := by
      have h1 : kr.length <= kd.length := List.Nodup.length_le_of_subset SR.nodup fun k hk => ((mk k).mp hk).1
      have h2 := pk.length_eq
      rw [List.length_append] at h2
      lia
     refine wpAny_bind (add_tup (s := { s with heap := h' }) hu SR hk' (vr _ List.mem_cons_self) (by lia) (fun hm => absurd ((mk k).mp hm).1 nin) fun _ h2 kr2 sb S2 p2 => ?_)
     have kp2 : ∀ b o, s.heap.get? b = some o -> h2.get? b = some o := fun b o e => (sb.2 b (Nat.ne_of_lt (Heap.lt_size e))).trans (kp b o e)
     have Sa2 := Sa.at (kp2 _ _ Sa.get)
     refine wpAny_pure (wpAny_bind (unchanged_ok (s := { s with heap := h2 }) Sa2.get Sa2.data Sa2.fits (wpAny_pure ?_)))
     refine ⟨h2, kr2, kd ++ [k], krest, rfl, kp2, S2, Xr, pk', fun k' => ?_, fun e he => vr e (List.mem_cons_of_mem _ he)⟩
     rw [p2.mem_iff, List.mem_cons, mk k', List.mem_append, List.mem_singleton]
     constructor
     ·rintro (x1 | ⟨x1, x2⟩)
      ·exact ⟨.inr x1, x1 ▸ hn⟩
      ·exact ⟨.inl x1, x2⟩
     ·rintro ⟨x1 | x1, x2⟩
      ·exact .inr ⟨x1, x2⟩
      ·exact .inl x1
  ·rintro _ s' ⟨h', kr, kd, krest, rfl, kp, SR, Xr, pk, mk, vr⟩
   cases Xr
   rw [List.append_nil] at pk
   refine wpAny_pure (wpAny_pure (h h' _ kr (Nat.le_refl _) kp SR.toD fun k => ?_))
   rw [mk k, pk.mem_iff]
  ·refine ⟨_, [], [], ko, rfl, kp0, ⟨_, #[], 0, _, Heap.get?_push_size _ rfl, ⟨rfl, rfl, rfl⟩, rfl, ⟨.inl rfl, rfl, rfl, List.Pairwise.nil, fun x hx => by simp [SetTable.fresh] at hx, (by show 0 * 5 < 7 * 3; decide), fun q hq => by simp at hq⟩, ⟨rfl, rfl⟩, .nil, List.nodup_nil, fun e he => by simp at he⟩, Xo, po, fun k => by simp, fun e he => Va e ((ord_perm w a pa ea).mem_iff.mp he)⟩
end
end ST
namespace ST
open PySem PySem.SetTable PyProof.Rows
section
variable {prog : Program} {w : World} {A : Around} {E : Value -> Shared -> Prop} {s : Shared} {V : Value -> Prop}
theorem sub_sets {a b : Addr} {ka kb : List (List Int)} {Q : Value -> Shared -> Prop} (hab : a ≠ b) (hu : A.units + 8 < cLine) (SA : SetT prog w V s.heap a ka) (SB : SetT prog w V s.heap b kb) (hna : ka.length <= 63)
  (h : ∀ h' r ks, s.heap.objs.size <= r -> (∀ b o, s.heap.get? b = some o -> h'.get? b = some o) -> SetD prog w V h' r ks -> (∀ k, k ∈ ks ↔ k ∈ ka /\ k ∉ kb) -> Q (.ref r) { s with heap := h' }) :
  wpAny (model prog w) A (binaryOp .Sub (.ref a) (.ref b)) Q E s := by
 obtain ⟨oa, ea, pa, ta, Sa, Ta, Xa, Va⟩ := SA.setAt
 obtain ⟨ob, eb, pb, tb, Sb, Tb, Xb, Vb⟩ := SB.setAt
 have hTa : s.TypeIs (.ref a) "set" := ⟨oa, Sa.get, Sa.ex.1⟩
 have hTb : s.TypeIs (.ref b) "set" := ⟨ob, Sb.get, Sb.ex.1⟩
 refine wpAny_binaryOp_same hTa hTb PySem.F.fills_set_sub PySem.F.slot_set_sub (wpAny_call_entry PySem.F.slot_set_sub hTa PySem.F.set_sub_entry ?_ (PySem.F.args_set_sub_2 _ _))
 unfold Builtin.«frozenset.__sub__»
 wp_delta
 refine wpAny_bind (wpAny_of_eq (a := (Value.ref a, Value.ref b)) (by rfl) ?_)
 simp only [Bool.false_eq_true, if_false]
 refine wpAny_bind ?_
 unfold andM
 refine wpAny_bind (is_set hTa ?_)
 show wpAny _ _ (Builtin.Frozenset.isAnySet (.ref b)) _ _ _
 refine is_set hTb ?_
 simp only [Bool.not_true, Bool.false_eq_true, if_false]
 unfold Builtin.Frozenset.addrOf
 refine wpAny_bind (wpAny_pure (wpAny_bind (diff_ok hab (by show A.units + 1 < cLine; lia) SA SB hna fun h' r ks hr kp S mk => ?_)))
 exact wpAny_pure ⟨_, rfl, (fun z => nomatch z), h h' r ks hr kp S mk⟩
end
end ST
namespace SL
open PySem PySem.Spec PyProof.Rows L2 CL DL SD ST
noncomputable def eDiff (g1 g2 : Rho -> Option (List (List Int))) : Rho -> Option (List (List Int)) := fun ρ => (g1 ρ).bind fun x => (g2 ρ).bind fun y => if x.length <= 63 then some (x.filter fun k => !y.contains k) else none
section
variable {X : Cx} {a b : Expr} {pos : Pos} {g1 g2 : Rho -> Option (List (List Int))}
theorem Ents.carry {pins pins' : List (Addr × Obj)} {σ σ' : L2.St} {H1 H2 : Hp} {s1 s2 : Shared} (I1 : Inv X pins σ H1 s1) (I2 : Inv X pins' σ' H2 s2) (sm : Same H1 H2) : ∀ {es : List (Int × Value)} {ks : List (List Int)}, Ents X.prog X.w s1.heap es ks -> (∀ e ∈ es, VT X.K H1 e.2) -> Ents X.prog X.w s2.heap es ks
 | _, _, .nil, _ => .nil
 | _, _, .cons (k := k) (b := bx) h1 r, hv => by
  obtain ⟨b', xs, e1, e2⟩ := hv _ List.mem_cons_self
  cases e1
  have : k = xs := h1.unique (tk_of I1 e2)
  subst this
  exact .cons (tk_of I2 (Same.sqT sm e2)) (Ents.carry I1 I2 sm r fun e he => hv e (List.mem_cons_of_mem _ he))
theorem dsv_diff (hc : X.calm = true) (hu : X.A.units + 66 < cLine) (ha : DSt X a g1) (hb : DSt X b g2) : DSv X (.BinOp a .Sub b pos) (eDiff g1 g2) := by
 intro pins s σ H Q I ⟨F, H₀, ρ, kl, S, q, k⟩
 obtain ⟨x, e1, q⟩ := bnd q
 obtain ⟨y, e2, q⟩ := bnd q
 by_cases c : x.length <= 63
 ·rw [if_pos c] at q
  cases q
  refine wpAny_BinOp (thn (ha pins s σ H (fun ks H1 => ks.Nodup /\ (∀ k, k ∈ ks ↔ k ∈ x) /\ ∃ F1, Ext F F1 H H1) I ⟨F, H₀, ρ, x, S, e1, fun F1 H1 ks E1 n1 m1 => ⟨n1, m1, F1, E1⟩⟩) fun u s1 zz => ?_)
  obtain ⟨a1, o1, ka, H1, eu, I1, S1, _, _, m1, F1, E1⟩ := zz
  refine thn (hb ((a1, o1) :: pins) s1 σ H1 (fun ks H2 => ks.Nodup /\ (∀ k, k ∈ ks ↔ k ∈ y) /\ ∃ F2, Ext F1 F2 H1 H2) I1 ⟨F1, H₀, ρ, y, S.ext E1, e2, fun F2 H2 ks E2 n2 m2 => ⟨n2, m2, F2, E2⟩⟩) fun v s2 zz => ?_
  obtain ⟨a2, o2, kb, H2, ev, I2, S2, ap, _, m2, F2, E2⟩ := zz
  subst eu
  subst ev
  have g1 : s2.heap.get? a1 = some o1 := (I2.pin (a1, o1) (List.mem_append_right _ (List.mem_cons_of_mem _ List.mem_cons_self))).1
  have hne : a1 ≠ a2 := ap (a1, o1) List.mem_cons_self
  have SA : SetT X.prog X.w (VT X.K H2) s2.heap a1 ka := by
   obtain ⟨o, es, ep, t, z1, z2, z3, z4, z5, z6, z7, z8⟩ := S1
   have : s1.heap.get? a1 = some o1 := (I1.pin (a1, o1) (List.mem_append_right _ List.mem_cons_self)).1
   rw [z1] at this
   cases this
   exact ⟨_, es, ep, t, g1, z2, z3, z4, z5, Ents.carry I1 I2 E2.same z6 z8, z7, fun e he => by
    obtain ⟨b', xs, e1, e2⟩ := z8 e he
    exact ⟨b', xs, e1, Same.sqT E2.same e2⟩⟩
  refine sub_sets hne (by lia) SA S2 ?_ fun h' r ks hr kp SD mk => ?_
  ·have : ka.length <= x.length := List.Nodup.length_le_of_subset SA.nodup fun k h => (m1 k).mp h
   lia
  ·obtain ⟨o, es, ep, t, z1, z2, z3, z4, z5, z6, z7, z8⟩ := SD
   have I3 : Inv X pins σ H2 s2 := I2.pins_of fun p hp => I2.pin p (List.mem_append_right _ (List.mem_cons_of_mem _ (List.mem_cons_of_mem _ hp)))
   have I4 : Inv X pins σ H2 { s2 with heap := h' } := I3.kept (t' := s2.toks) kp
   have I5 : Inv X ((r, o) :: pins) σ H2 { s2 with heap := h' } := by
    refine I4.pins_of fun p hp => ?_
    rcases List.mem_cons.mp hp with rfl | hp
    ·refine ⟨z1, I2.hok.fresh hr, Nat.ne_of_gt (Nat.lt_of_lt_of_le I2.lt hr), I2.nofs hr, fun v hv => ?_⟩
     rw [z3] at hv
     exact nomatch hv
    ·exact I4.pin p (List.mem_append_right _ hp)
   refine ⟨r, o, ks, H2, rfl, I5, ⟨es, ep, t, ⟨z1, z2, z3, z4.fits (by simp), z4.up, z5.1, z5.2⟩, z6, z7, z8⟩, k F2 H2 ks (E1.trans E2) z7 fun k => ?_⟩
   rw [mk k, m1 k, m2 k, List.mem_filter]
   simp
 ·rw [if_neg c] at q; cases q
end
theorem ds_never {X : Cx} {st : Stmt} : DS X st (fun _ => none) := fun pins s σ H W I q => by
 obtain ⟨F₀, H₀, F, ρ, o, E, S, q, k⟩ := q
 cases q
end SL
namespace DC
open PySem PyProof.Rows
theorem miss_keys : typeLookup (.type "list") "keys" = pure none := by rw [typeLookup_type, builtinLookup_eq_fast]; kernel_rfl
section
variable {prog : Program} {w : World} {A : Around} {E : Value -> Shared -> Prop} {s : Shared}
theorem keys_none {a : Addr} {o : Obj} {xs : Array Value} {k : Nat} {Q : Option Value -> Shared -> Prop} (hx : s.heap.get? a = some o) (hc : o.cls = .type "list") (hdat : o.data = .seq xs k) (hd : o.dict = none) (hA : A.handled = none)
  (h : ∀ h' tk, (∀ b ob, s.heap.get? b = some ob -> h'.get? b = some ob) -> Q none { s with heap := h', toks := tk }) : wpAny (model prog w) A (getAttr? (.ref a) "keys") Q E s := by
 obtain ⟨c, dct, dat, sl⟩ := o
 simp only at hc hdat hd
 subst hc hdat hd
 obtain ⟨hp, g, d, tk, os⟩ := s
 have hT : ∀ tk', (⟨hp, g, d, tk', os⟩ : Shared).TypeIs (.ref a) "list" := fun _ => ⟨_, hx, rfl⟩
 have f1 := sub_AttributeError
 have f3 := F.slot_list_getattribute.lookup
 have f4 := F.slot_list_getattribute.bind (.ref a)
 have f5 := am_list_getattr_none
 unfold getAttr? getAttrBy? getAttrBy
 repeat (any_goals (first | assumption | exact hT _ | ((with_reducible show wpAny _ _ (call (Value.builtin "list.__getattribute__") _ _) _ _ _); refine call_meets F.slot_list_getattribute (hT _) am_entry_list_getattribute (F.args_list_getattribute_2 _ _) (meets_getattribute_miss_list a xs k sl "keys" _ miss_keys (by decide +kernel)) ⟨hx, hA, fun h' tk' e hx' => ?_⟩) | wp_step))
 obtain ⟨t', u', he⟩ := hx'.there
 show wpAny _ _ (getattributeRaised _ _ _ _ _ _ _) _ _ _
 unfold getattributeRaised
 repeat (any_goals (first | assumption | wp_step))
 exact h _ _ hx'.keeps
end
theorem entry_loop : entryFor table "dict.update.loop" = some Builtin.«dict.update.loop» := entryFor_of_tree (by kernel_rfl)
theorem plain_loop : plainId "dict.update.loop" = true := by decide +kernel
section
variable {κ : Type} [DecidableEq κ]
noncomputable def built (key : Nat -> κ) (kad : Nat -> Addr) (val : Nat -> Value) : Nat -> List (κ × Addr × Value)
 | 0 => []
 | i + 1 => storedH (built key kad val i) (key i) (kad i) (val i)
variable {key : Nat -> κ} {kad : Nat -> Addr} {val : Nat -> Value}
theorem built_len : ∀ i, (built key kad val i).length <= i
 | 0 => Nat.le_refl _
 | i + 1 => by
  have := built_len i
  unfold built storedH
  split
  ·rw [List.length_map]; lia
  ·rw [List.length_append, List.length_singleton]; lia
theorem built_mem : ∀ i, ∀ x ∈ built key kad val i, ∃ j, j < i /\ x.1 = key j /\ x.2.1 = kad j
 | 0, x, h => nomatch h
 | i + 1, x, h => by
  unfold built storedH at h
  split at h
  ·obtain ⟨y, hy, rfl⟩ := List.mem_map.mp h
   obtain ⟨j, hj, e1, e2⟩ := built_mem i y hy
   refine ⟨j, by lia, ?_⟩
   unfold putAt
   split
   ·exact ⟨e1, e2⟩
   ·exact ⟨e1, e2⟩
  ·rcases List.mem_append.mp h with h | h
   ·obtain ⟨j, hj, e⟩ := built_mem i x h
    exact ⟨j, by lia, e⟩
   ·rw [List.mem_singleton] at h
    subst h
    exact ⟨i, by lia, rfl, rfl⟩
end
section
variable {prog : Program} {w : World} {κ : Type} [DecidableEq κ] {knd : HeapKind prog w κ} {A : Around} {R : Result -> Shared -> Prop} {I : Addr} {fp wr : List Addr} {G : Array GenState -> Array GenState -> Prop} {n : Nat} {Pv : Nat -> Value -> Prop} {St : Nat -> Shared -> Prop}
theorem dict_loop (W : WalksS prog w A.in1 I fp wr G n Pv St) (S : Addr) (hSf : S ∉ fp) (hu : knd.room A.in1) (key : Nat -> κ) (kad : Nat -> Addr) (val : Nat -> Value) (s0 : Heap) (res : Value)
  (hmono : ∀ (h h' : Heap) k b, knd.is h k b -> (∀ b o, h.get? b = some o -> h'.get? b = some o) -> knd.is h' k b)
  (hold : ∀ b o, s0.get? b = some o -> b ≠ S /\ b ∉ wr) (hval : ∀ i v, i < n -> Pv i v -> ∃ b, v = .ref b /\ s0.IsTuple b #[.ref (kad i), val i]) (hkey : ∀ i, i < n -> knd.is s0 (key i) (kad i)) (hb : n <= 1000) :
  ∀ (k i : Nat) (s : Shared) (c : Int) (t : Tok), n - i = k -> i <= n -> St i s -> (∀ b o, s0.get? b = some o -> s.heap.get? b = some o) ->
   s.heap.DictOfH knd S (built key kad val i) ->
   (∀ s', Moved (S :: wr) G s s' -> (∀ b o, s0.get? b = some o -> s'.heap.get? b = some o) -> s'.heap.DictOfH knd S (built key kad val n) -> R (.ok (.ret res)) s') ->
   codeAny (model prog w) A (.builtin "dict.update.loop" ⟨[.ref S, .ref I, .int c t, res], []⟩) R s := by
 have hSw : S ∉ wr := fun h => hSf (W.sub _ h)
 have hsub : ∀ b ∈ wr, b ∈ S :: wr := fun b hb => List.mem_cons_of_mem _ hb
 have hmv : ∀ (s s' : Shared) i, i <= n -> Moved wr G s s' -> (∀ b o, s0.get? b = some o -> s'.heap.get? b = some o) -> s.heap.DictOfH knd S (built key kad val i) -> s'.heap.DictOfH knd S (built key kad val i) := fun s s' i hi hm h0 hS => by
  obtain ⟨o, es, ep, ho, hex, hd, he, his, hnd⟩ := hS
  refine ⟨o, es, ep, hm.heap S _ hSw ho, hex, hd, he, fun x hx => ?_, hnd⟩
  obtain ⟨j, hj, e1, e2⟩ := built_mem i x hx
  rw [e1, e2]
  exact hmono _ _ _ _ (hkey j (by lia)) h0
 intro k
 induction k with
 | zero =>
  intro i s c t hk hi hst h0 hS hR
  have hin : i = n := by lia
  subst hin
  refine codeAny_builtin entry_loop ?_
  rw [Around.under_plainId plain_loop _]
  show wpAny _ A.in1 (pyNext (.ref I) >>= _) _ _ s
  refine wpAny_bind (W.done s _ _ hst fun s' hm => ?_)
  show wpAny _ A.in1 (Builtin.Dict.addKeywords S [] >>= fun _ => ret res) _ _ s'
  have h0' : ∀ b o, s0.get? b = some o -> s'.heap.get? b = some o := fun b o e => hm.heap b o (hold b o e).2 (h0 b o e)
  exact wpAny_bind (wpAny_pure (wpAny_pure (hR s' (hm.mono hsub) h0' (hmv s s' i (Nat.le_refl _) hm h0' hS))))
 | succ k ih =>
  intro i s c t hk hi hst h0 hS hR
  have hlt : i < n := by lia
  refine codeAny_builtin entry_loop ?_
  rw [Around.under_plainId plain_loop _]
  show wpAny _ A.in1 (pyNext (.ref I) >>= _) _ _ s
  refine wpAny_bind (W.item i s _ _ hlt hst fun v s' hP hst' hm => ?_)
  obtain ⟨b, rfl, ot, hot, hct, nt, hdt⟩ := hval i v hlt hP
  have h0' : ∀ b o, s0.get? b = some o -> s'.heap.get? b = some o := fun b o e => hm.heap b o (hold b o e).2 (h0 b o e)
  have hS' := hmv s s' i (by lia) hm h0' hS
  have hk1 : knd.is s'.heap (key i) (kad i) := hmono _ _ _ _ (hkey i hlt) h0'
  refine wpAny_bind (wpAny_holding (wpAny_bind (wpAny_tryCatch ?_)))
  unfold Builtin.Dict.pairItems
  refine wpAny_bind (wpAny_typeOf (T := "tuple") ⟨ot, h0' _ _ hot, hct⟩ ?_)
  rw [if_pos (by decide)]
  refine wpAny_bind (wpAny_seqItems (h0' _ _ hot) hdt (wpAny_pure ?_))
  show wpAny _ A.in1 (holding [Value.ref (kad i), val i] (dictSet S (.ref (kad i)) (val i))) _ _ s'
  refine wpAny_holding (wpAny_dictSet_heap hu hk1 hS' (fun h' hd' hsb => ?_) (Nat.le_trans (built_len i) (by rw [sizeLine]; lia)))
  have hmoved : Moved (S :: wr) G s { s' with heap := h', toks := s'.toks + knd.draws (key i) } :=
   (hm.mono hsub).then_heap (Nat.le_add_right _ _) fun b o hb e => by rw [hsb.2 b (fun h : b = S => hb (by rw [h]; exact List.mem_cons_self))]; exact e
  refine wpAny_pure ⟨plainId_quiet plain_loop _, ih (i + 1) _ (c + 1) 0 (by lia) hlt (W.frame _ s' _ _ hst' (Nat.le_add_right _ _) fun b hb o e => ?_) (fun b o e => ?_) hd' fun s'' hm'' h0'' hS'' => ?_⟩
  ·rw [hsb.2 b (fun h : b = S => hSf (by rw [<- h]; exact hb))]; exact e
  ·show h'.get? b = some o
   rw [hsb.2 b (hold b o e).1]; exact h0' b o e
  ·exact hR s'' (Moved.trans W.gtrans hmoved hm'') h0'' hS''
end
end DC
namespace DC
open PySem PyProof.Rows
section
variable {prog : Program} {w : World} {κ : Type} [DecidableEq κ] {knd : HeapKind prog w κ} {A : Around} {E : Value -> Shared -> Prop} {s : Shared}
theorem call_dict_pairs' {l : Addr} {items : Array Value} {nl : Nat} {sl : Array (Option Value)} {Q : Value -> Shared -> Prop} (key : Nat -> κ) (kad : Nat -> Addr) (val : Nat -> Value)
  (hmono : ∀ (h h' : Heap) k b, knd.is h k b -> (∀ b o, h.get? b = some o -> h'.get? b = some o) -> knd.is h' k b)
  (hh : A.handled = none) (hu : ∀ B : Around, B.units <= A.units + 8 -> knd.room B) (hl : s.heap.get? l = some { cls := .type "list", dict := none, data := .seq items nl, slots := sl })
  (hi : ∀ i v, items[i]? = some v -> ∃ b, v = .ref b /\ s.heap.IsTuple b #[.ref (kad i), val i]) (hk : ∀ i, i < items.size -> knd.is s.heap (key i) (kad i)) (hb : items.size <= 1000)
  (h : ∀ (h' : Heap) (tk : Nat), h'.DictOfH knd s.heap.objs.size (built key kad val items.size) -> (∀ b o, s.heap.get? b = some o -> h'.get? b = some o) -> Q (.ref s.heap.objs.size) { s with heap := h', toks := tk }) :
  wpAny (model prog w) A (call (.type "dict") [.ref l]) Q E s := by
 refine callType_codes (Q₁ := fun obj s₁ => obj = .ref s.heap.objs.size /\ s₁ = { s with heap := s.heap.push { cls := .type "dict", data := .dict #[] } }) F.kt_called_dict (F.kt_typeCall_dict_1 _) F.entry_dict_init (kt_code_dict_new _ ⟨rfl, rfl⟩) ?_
 rintro obj s₁ ⟨rfl, rfl⟩
 have hnew : (s.heap.push { cls := .type "dict", data := .dict #[] }).DictOfH knd s.heap.objs.size [] := Heap.DictOfH.new s.heap
 have hl' : (s.heap.push { cls := .type "dict", data := .dict #[] }).get? l = some { cls := .type "list", dict := none, data := .seq items nl, slots := sl } := Heap.get?_push_of_some _ hl
 refine ⟨hnew.typeIs, F.args_dict_init_2 _ _, ?_⟩
 unfold Builtin.«dict.__init__»
 refine wpAny_bind ?_
 unfold Builtin.Dict.selfAndRest
 refine wpAny_bind (wpAny_notOrdered_dict hnew.typeIs ?_)
 show wpAny _ _ (pure (s.heap.objs.size, [Value.ref l])) _ _ _
 refine wpAny_pure ?_
 show wpAny _ _ (Builtin.Dict.updateFrom "dict.__init__" s.heap.objs.size (.ref l) [] .none) _ _ _
 unfold Builtin.Dict.updateFrom
 refine wpAny_bind (wpAny_typeOf (T := "list") ⟨_, hl', rfl⟩ ?_)
 rw [if_pos (by decide)]
 refine wpAny_bind (keys_none hl' rfl rfl rfl (by first | exact hh | simp [hh]) fun h₂ tk₂ keep₂ => ?_)
 rw [if_pos (by decide)]
 have hl2 : h₂.IsList l items := ⟨_, keep₂ _ _ hl', rfl, nl, rfl⟩
 refine wpAny_bind (wpAny_rule (wpAny_bind (wpAny_pyIter_list (s := { s with heap := h₂, toks := tk₂ }) hl2 ?_)))
 refine wpAny_pure ⟨plainId_quiet plain_loop _, ?_⟩
 have hS2 : h₂.get? s.heap.objs.size = some { cls := .type "dict", data := .dict #[] } := keep₂ _ _ (Heap.get?_push_size _ rfl)
 have hSlt : s.heap.objs.size < h₂.objs.size := Heap.lt_size hS2
 have hlS : l < s.heap.objs.size := Heap.lt_size hl
 have hneI : l ≠ h₂.objs.size := Nat.ne_of_lt (Nat.lt_trans hlS hSlt)
 have hh2 : A.in1.in1.handled = none := by simp [hh]
 have hkeep : ∀ b o, s.heap.get? b = some o -> (h₂.push { cls := Value.type "list_iterator", data := Data.fields #[Value.ref l, Value.int 0 0] }).get? b = some o := fun b o e =>
  Heap.get?_push_of_some _ (keep₂ b o (Heap.get?_push_of_some _ e))
 refine dict_loop (knd := knd) ((Walks.list hh2 h₂.objs.size l hneI items).toS) s.heap.objs.size ?hSf (hu _ (by show A.units + 1 + 1 <= _; lia)) key kad val s.heap .none hmono ?hold (fun i v _ hv => hi i v hv) (fun i hi' => hk i hi') hb (items.size - 0) 0 _ 0 0 (by lia) (Nat.zero_le _)
  ⟨⟨_, Heap.get?_push_size _ rfl, rfl, rfl⟩, hl2.push _⟩ hkeep ?hS0 ?hR
 case hSf =>
  simp only [List.mem_cons, List.mem_singleton, List.not_mem_nil, or_false, not_or]
  exact ⟨Nat.ne_of_lt hSlt, Nat.ne_of_gt hlS⟩
 case hold =>
  intro b o e
  have hlt : b < s.heap.objs.size := Heap.lt_size e
  refine ⟨Nat.ne_of_lt hlt, fun hm => ?_⟩
  have hb' : b = h₂.objs.size := List.mem_singleton.mp hm
  rw [hb'] at hlt
  exact absurd (Nat.lt_trans hlt hSlt) (Nat.lt_irrefl _)
 case hS0 => exact ⟨_, #[], 0, Heap.get?_push_of_some _ hS2, ⟨rfl, rfl, rfl⟩, rfl, rfl, fun _ hx => by simp [built] at hx, List.nodup_nil⟩
 case hR =>
  intro s' hm h0 hS'
  obtain ⟨h', g', d', tk', os'⟩ := s'
  have eg : g' = s.gens := hm.gens
  have ed : d' = s.drawn := hm.drawn
  have eo : os' = s.os := hm.os
  subst eg; subst ed; subst eo
  exact ⟨rfl, h h' tk' hS' h0⟩
end
end DC
namespace DC
open PySem PySem.Spec PyProof.Rows L2 DL ST SL
noncomputable def decT : D -> Option (List Int)
 | .tuple ds => intsD ds
 | _ => none
theorem intsD_map : ∀ ks : List Int, intsD (ks.map PyData.int) = some ks
 | [] => rfl
 | k :: ks => by show (intsD (ks.map PyData.int)).bind _ = _; rw [intsD_map ks]; rfl
theorem decT_enc (ks : List Int) : decT (encT ks) = some ks := intsD_map ks
theorem decT_key {K : PySem.W.Frag} {H : Hp} {k : DKey} {b : Addr} {ks : List Int} (h : KeyOk K H k b) : decT (encK k) = some ks ↔ k = .inl ks := by
 cases k with
 | inl js =>
  show decT (encT js) = some ks ↔ _
  rw [decT_enc]
  constructor
  ·intro e; cases e; rfl
  ·intro e; cases e; rfl
 | inr kss =>
  obtain ⟨n, _⟩ := h
  cases kss with
  | nil => exact absurd rfl n
  | cons x xs =>
   constructor
   ·intro e; cases e
   ·intro e; cases e
theorem rep_key {K : PySem.W.Frag} {F : Addr -> Prop} {H : Hp} {d : D} {v : V} {ks : List Int} (r : Rep K F H d v) (h : decT d = some ks) : ∃ b, v = .ref b /\ SqT K H b (ks.map V.int) := by
 cases r with
 | @tup a vs ds h1 r1 =>
  rw [ints_rep r1 (show intsD ds = some ks from h)] at h1
  exact ⟨a, rfl, h1⟩
 | _ => cases h
noncomputable def hasD (kvs : List (D × D)) (k : List Int) : Bool := kvs.any fun p => decT p.1 == some k
noncomputable def putD (kvs : List (D × D)) (k : List Int) (v : D) : List (D × D) := if hasD kvs k = true then kvs.map fun p => if (decT p.1 == some k) = true then (p.1, v) else p else kvs ++ [(encT k, v)]
abbrev Ent := DKey × Addr × V
noncomputable def hasE (es : List Ent) (k : List Int) : Bool := es.any fun e => decide (e.1 = .inl k)
noncomputable def putE (es : List Ent) (k : List Int) (b : Addr) (v : V) : List Ent := if hasE es k = true then es.map fun e => if e.1 = .inl k then (e.1, e.2.1, v) else e else es ++ [(.inl k, b, v)]
theorem same_key {K : PySem.W.Frag} {H : Hp} {k : DKey} {b : Addr} {ks : List Int} (h : KeyOk K H k b) : (decT (encK k) == some ks) = decide (k = .inl ks) := by
 by_cases c : k = .inl ks
 ·rw [decide_eq_true c, (decT_key h).mpr c, beq_self_eq_true]
 ·rw [decide_eq_false c]
  exact beq_eq_false_iff_ne.mpr fun e => c ((decT_key h).mp e)
section
variable {K : PySem.W.Frag} {F : Addr -> Prop} {H : Hp}
theorem DReps.has : ∀ {kvs : List (D × D)} {es : List Ent} (k : List Int), DReps K F H kvs es -> hasD kvs k = hasE es k
 | _, _, _, .nil => rfl
 | _, _, k, .cons h r t => by
  have := DReps.has k t
  unfold hasD hasE at this ⊢
  rw [List.any_cons, List.any_cons, this, same_key h]
theorem DReps.append : ∀ {kvs kvs' : List (D × D)} {es es' : List Ent}, DReps K F H kvs es -> DReps K F H kvs' es' -> DReps K F H (kvs ++ kvs') (es ++ es')
 | _, _, _, _, .nil, s => s
 | _, _, _, _, .cons h r t, s => .cons h r (DReps.append t s)
theorem DReps.repl {k : List Int} {d : D} {v : V} (hv : Rep K F H d v) : ∀ {kvs : List (D × D)} {es : List Ent}, DReps K F H kvs es ->
  DReps K F H (kvs.map fun p => if (decT p.1 == some k) = true then (p.1, d) else p) (es.map fun e => if e.1 = .inl k then (e.1, e.2.1, v) else e)
 | _, _, .nil => .nil
 | _, _, @DReps.cons _ _ _ k' b d' v' _ _ h r t => by
  rw [List.map_cons, List.map_cons]
  by_cases c : k' = .inl k
  ·rw [if_pos (by rw [same_key h, decide_eq_true c]), if_pos c]
   exact .cons h hv (DReps.repl hv t)
  ·rw [if_neg (by rw [same_key h, decide_eq_false c]; decide), if_neg c]
   exact .cons h r (DReps.repl hv t)
theorem DReps.put {k : List Int} {b : Addr} {d : D} {v : V} {kvs : List (D × D)} {es : List Ent} (t : DReps K F H kvs es) (hk : SqT K H b (k.map V.int)) (hv : Rep K F H d v) : DReps K F H (putD kvs k d) (putE es k b v) := by
 unfold putD putE
 rw [DReps.has k t]
 by_cases c : hasE es k = true
 ·rw [if_pos c, if_pos c]; exact DReps.repl hv t
 ·rw [if_neg c, if_neg c]; exact DReps.append t (.cons (k := .inl k) hk hv .nil)
noncomputable def flatK (kvs : List (D × D)) : Bool := kvs.all fun p => (decT p.1).isSome
theorem DReps.flat : ∀ {kvs : List (D × D)} {es : List Ent}, DReps K F H kvs es -> flatK kvs = true -> ∀ e ∈ es, ∃ ks, e.1 = .inl ks /\ SqT K H e.2.1 (ks.map V.int)
 | _, _, .nil, _, e, he => nomatch he
 | _, _, .cons h r t, f, e, he => by
  unfold flatK at f
  rw [List.all_cons, Bool.and_eq_true] at f
  rcases List.mem_cons.mp he with rfl | he
  ·obtain ⟨ks, q⟩ := Option.isSome_iff_exists.mp f.1
   have := (decT_key h).mp q
   refine ⟨ks, this, ?_⟩
   dsimp only at this ⊢
   subst this
   exact h
  ·exact DReps.flat t f.2 e he
end
abbrev Raw := List Int × Addr × Value
abbrev ER : Ent -> Raw -> Prop := fun e x => e.1 = .inl x.1 /\ e.2.1 = x.2.1 /\ RelV e.2.2 x.2.2
theorem er_has (k : List Int) : ∀ {es : List Ent} {xs : List Raw}, Paired ER es xs -> hasE es k = (atKey xs k).isSome
 | _, _, .nil => rfl
 | _, _, @Paired.cons _ _ _ e x es xs h t => by
  have ih := er_has k t
  unfold hasE at ih ⊢
  rw [List.any_cons, ih]
  by_cases c : x.1 = k
  ·have a : atKey (x :: xs) k = some x.2 := by simp [atKey, List.find?_cons, c]
   rw [a, decide_eq_true (by rw [h.1, c])]; rfl
  ·have a : atKey (x :: xs) k = atKey xs k := by simp [atKey, List.find?_cons, c]
   rw [a, decide_eq_false (by rw [h.1]; intro z; cases z; exact c rfl)]; rfl
theorem er_map {k : List Int} {v : V} {u : Value} (hv : RelV v u) : ∀ {es : List Ent} {xs : List Raw}, Paired ER es xs -> Paired ER (es.map fun e => if e.1 = .inl k then (e.1, e.2.1, v) else e) (xs.map (putAt k u))
 | _, _, .nil => .nil
 | _, _, @Paired.cons _ _ _ e x es xs h t => by
  rw [List.map_cons, List.map_cons]
  refine .cons ?_ (er_map hv t)
  unfold putAt
  by_cases c : x.1 = k
  ·rw [if_pos c, if_pos (by rw [h.1, c])]; exact ⟨h.1, h.2.1, hv⟩
  ·rw [if_neg c, if_neg (by rw [h.1]; intro z; cases z; exact c rfl)]; exact h
theorem er_put {k : List Int} {b : Addr} {v : V} {u : Value} (hv : RelV v u) {es : List Ent} {xs : List Raw} (t : Paired ER es xs) : Paired ER (putE es k b v) (storedH xs k b u) := by
 unfold putE storedH
 rw [er_has k t]
 by_cases c : (atKey xs k).isSome = true
 ·rw [if_pos c, if_pos c]; exact er_map hv t
 ·rw [if_neg c, if_neg c]; exact Paired.snoc t ⟨rfl, rfl, hv⟩
theorem er_keys : ∀ {es : List Ent} {xs : List Raw}, Paired ER es xs -> es.map (·.1) = (xs.map (·.1)).map Sum.inl
 | _, _, .nil => rfl
 | _, _, .cons h t => by rw [List.map_cons, List.map_cons, List.map_cons, er_keys t, h.1]
theorem nodup_inl {l : List (List Int)} (h : l.Nodup) : (l.map (Sum.inl : List Int -> DKey)).Nodup := by
 rw [List.Nodup, List.pairwise_map]
 exact List.Pairwise.imp (fun n e => n (Sum.inl.inj e)) h
theorem nodup_of_inl {l : List (List Int)} (h : (l.map (Sum.inl : List Int -> DKey)).Nodup) : l.Nodup := by
 rw [List.Nodup, List.pairwise_map] at h
 exact List.Pairwise.imp (fun n e => n (by rw [e])) h
abbrev TKd (P : Program) (w : World) : HeapKind P w (List Int) := tupleKind (intKind P w)
theorem dct_raw {X : Cx} {pins : List (Addr × Obj)} {σ : L2.St} {H : Hp} {s : Shared} {a : Addr} {es : List Ent} {ep : Nat} (I : Inv X pins σ H s) (h : H a = some (DctO a es ep)) (hf : ∀ e ∈ es, ∃ ks, e.1 = .inl ks /\ SqT X.K H e.2.1 (ks.map V.int)) (hn : (es.map (·.1)).Nodup) :
  (a == sysModules) = false /\ ∃ xs : List Raw, s.heap.DictOfH (TKd X.prog X.w) a xs /\ Paired ER es xs := by
 obtain ⟨⟨lo, o, raw, h1, h2, h3, h4⟩, _⟩ := (show ObjOk X.prog X.w H s.heap a (DctO a es ep) from I.hok a _ h)
 have mk : ∀ {l : List Ent} {r : List DictEntry}, Paired (fun (e : DKey × Addr × V) (r : DictEntry) => r.hash = hashK e.1 /\ r.key = .ref e.2.1 /\ RelV e.2.2 r.val) l r -> (∀ e ∈ l, ∃ ks, e.1 = .inl ks /\ SqT X.K H e.2.1 (ks.map V.int)) ->
   ∃ xs : List Raw, r = xs.map (entryOfKey (TKd X.prog X.w)) /\ Paired ER l xs /\ ∀ x ∈ xs, (TKd X.prog X.w).is s.heap x.1 x.2.1 := by
  intro l r q
  induction q with
  | nil => exact fun _ => ⟨[], rfl, .nil, fun x hx => nomatch hx⟩
  | @cons e r l rs h t ih =>
   intro hf
   obtain ⟨xs, q1, q2, q3⟩ := ih fun e he => hf e (List.mem_cons_of_mem _ he)
   obtain ⟨ks, e1, e2⟩ := hf e List.mem_cons_self
   refine ⟨(ks, e.2.1, r.val) :: xs, ?_, .cons ⟨e1, rfl, h.2.2⟩ q2, fun x hx => ?_⟩
   ·rw [List.map_cons, <- q1]
    congr 1
    obtain ⟨rh, rk, rv⟩ := r
    obtain ⟨z1, z2, z3⟩ := h
    dsimp only at z1 z2 ⊢
    subst z1 z2
    rw [e1]
    rfl
   ·rcases List.mem_cons.mp hx with rfl | hx
    ·exact tk_of I e2
    ·exact q3 x hx
 obtain ⟨xs, q1, q2, q3⟩ := mk h4 hf
 refine ⟨lo, xs, ⟨o, raw, ep, h1, h2, h3, q1, q3, ?_⟩, q2⟩
 rw [er_keys q2] at hn
 exact nodup_of_inl hn
theorem dct_obj {P : Program} {w : World} {H : Hp} {h : Heap} {a : Addr} {es : List Ent} {xs : List Raw} (lo : (a == sysModules) = false) (d : h.DictOfH (TKd P w) a xs) (r : Paired ER es xs) : ∃ ep, ObjOk P w H h a (DctO a es ep) := by
 obtain ⟨o, raw, ep, h1, h2, h3, h4, h5, h6⟩ := d
 clear h5 h6
 refine ⟨ep, ⟨lo, o, raw, h1, h2, h3, ?_⟩, ⟨o, h1⟩, fun h1' h2' ⟨lo, o, raw, g1, g2⟩ k => ⟨lo, o, raw, k _ g1, g2⟩⟩
 rw [h4]
 clear h1 h2 h3 h4
 induction r with
 | nil => exact .nil
 | @cons e x es xs h t ih =>
  rw [List.map_cons]
  refine .cons ⟨?_, ?_, h.2.2⟩ ih
  ·rw [h.1]; rfl
  ·rw [h.2.1]; rfl
end DC
namespace DC
open PySem PySem.Spec PyProof.Rows L2 DL ST SL
section
variable {X : Cx}
noncomputable def dIn2 (neg : Bool) (d e : D) : Option D := match e with
 | .dict kvs => (decT d).bind fun k => if flatK kvs = true then some (.bool (if neg then !hasD kvs k else hasD kvs k)) else none
 | e => dIn neg d e
theorem dIn2_dict {neg : Bool} {d r : D} {kvs : List (D × D)} (h : dIn2 neg d (.dict kvs) = some r) : ∃ k, decT d = some k /\ flatK kvs = true /\ r = .bool (if neg then !hasD kvs k else hasD kvs k) := by
 obtain ⟨k, e1, q⟩ := bnd (show ((decT d).bind fun k => if flatK kvs = true then some (PyData.bool (if neg then !hasD kvs k else hasD kvs k)) else none) = some r from h)
 by_cases c : flatK kvs = true
 ·rw [if_pos c] at q; cases q; exact ⟨k, e1, c, rfl⟩
 ·rw [if_neg c] at q; cases q
theorem opd_in2 (hu : X.A.units + 65 < cLine) : OpR X (compareOp .In) (rD2 X.K (dIn2 false)) := fun pins s σ H x y v u Q I rx ry zz => by
 obtain ⟨F, d, e, q, z, R1, R2, hq, k⟩ := zz
 cases R2 with
 | @dct a es kvs ep f h n l t =>
  obtain ⟨ks, e1, fl, rfl⟩ := dIn2_dict hq
  obtain ⟨b, rfl, hb⟩ := rep_key R1 e1
  cases rx
  cases ry
  obtain ⟨lo, xs, dd, er⟩ := dct_raw I h (DReps.flat t fl) n
  refine wpAny_in_heap (knd := TKd X.prog X.w) (k := ks) (show X.A.in1.units < cLine from by show X.A.units + 1 < cLine; lia) (tk_of I hb) lo dd ?_
  rw [<- er_has ks er, <- DReps.has ks t]
  exact ⟨.bl _, H, I.tok _, rfl, k F H _ (Ext.refl F H) (.bl _)⟩
 | exn f h n =>
  obtain ⟨ks, e1, fl, _⟩ := dIn2_dict hq
  cases fl
 | tup h r => exact opd_in hu pins s σ H _ _ v u Q I rx ry ⟨F, d, _, q, z, R1, .tup h r, hq, k⟩
 | lst h r => exact opd_in hu pins s σ H _ _ v u Q I rx ry ⟨F, d, _, q, z, R1, .lst h r, hq, k⟩
 | non => cases hq
 | bl _ => cases hq
 | int _ => cases hq
 | str _ => cases hq
theorem opd_notin2 (hu : X.A.units + 65 < cLine) : OpR X (compareOp .NotIn) (rD2 X.K (dIn2 true)) := fun pins s σ H x y v u Q I rx ry zz => by
 obtain ⟨F, d, e, q, z, R1, R2, hq, k⟩ := zz
 cases R2 with
 | @dct a es kvs ep f h n l t =>
  obtain ⟨ks, e1, fl, rfl⟩ := dIn2_dict hq
  obtain ⟨b, rfl, hb⟩ := rep_key R1 e1
  cases rx
  cases ry
  obtain ⟨lo, xs, dd, er⟩ := dct_raw I h (DReps.flat t fl) n
  refine wpAny_notIn_heap (knd := TKd X.prog X.w) (k := ks) (show X.A.in1.units < cLine from by show X.A.units + 1 < cLine; lia) (tk_of I hb) lo dd ?_
  rw [<- er_has ks er, <- DReps.has ks t]
  exact ⟨.bl _, H, I.tok _, rfl, k F H _ (Ext.refl F H) (.bl _)⟩
 | exn f h n =>
  obtain ⟨ks, e1, fl, _⟩ := dIn2_dict hq
  cases fl
 | tup h r => exact opd_notin hu pins s σ H _ _ v u Q I rx ry ⟨F, d, _, q, z, R1, .tup h r, hq, k⟩
 | lst h r => exact opd_notin hu pins s σ H _ _ v u Q I rx ry ⟨F, d, _, q, z, R1, .lst h r, hq, k⟩
 | non => cases hq
 | bl _ => cases hq
 | int _ => cases hq
 | str _ => cases hq
end
end DC
namespace DC
open PySem PySem.Spec PyProof.Rows L2 DL ST SL
noncomputable def pairD : D -> Option (List Int × D)
 | .tuple [k, v] => (decT k).bind fun ks => some (ks, v)
 | _ => none
noncomputable def pairsD : List D -> Option (List (List Int × D))
 | [] => some []
 | d :: r => (pairD d).bind fun p => (pairsD r).bind fun ps => some (p :: ps)
noncomputable def dictD (ps : List (List Int × D)) : List (D × D) := ps.foldl (fun kvs p => putD kvs p.1 p.2) []
noncomputable def dDict : List D -> Option D
 | [.list ds] => if ds.length <= 1000 then (pairsD ds).bind fun ps => some (.dict (dictD ps)) else none
 | _ => none
structure Tr where
 k : List Int
 b : Addr
 v : V
 d : D
noncomputable def TrOk (K : PySem.W.Frag) (F : Addr -> Prop) (H : Hp) (x : V) (t : Tr) : Prop := ∃ b, x = .ref b /\ SqT K H b [.ref t.b, t.v] /\ SqT K H t.b (t.k.map V.int) /\ Rep K F H t.d t.v
theorem pair_rep {K : PySem.W.Frag} {F : Addr -> Prop} {H : Hp} {d : D} {x : V} {p : List Int × D} (r : Rep K F H d x) (h : pairD d = some p) : ∃ t, p = (t.k, t.d) /\ TrOk K F H x t := by
 cases r with
 | @tup a vs ds h1 r1 =>
  unfold pairD at h
  split at h
  ·rename_i k v e
   cases e
   obtain ⟨ks, e1, h⟩ := bnd h
   cases h
   cases r1 with
   | cons rk r2 =>
    cases r2 with
    | cons rv r3 =>
     cases r3
     obtain ⟨b, rfl, hb⟩ := rep_key rk e1
     exact ⟨⟨ks, b, _, v⟩, rfl, a, rfl, h1, hb, rv⟩
  ·cases h
 | _ => cases h
theorem pairs_rep {K : PySem.W.Frag} {F : Addr -> Prop} {H : Hp} : ∀ {ds : List D} {vs : List V} {ps : List (List Int × D)}, Reps K F H ds vs -> pairsD ds = some ps -> ∃ ts : List Tr, ps = ts.map (fun t => (t.k, t.d)) /\ Paired (TrOk K F H) vs ts
 | _, _, _, .nil, h => by cases h; exact ⟨[], rfl, .nil⟩
 | _, _, _, .cons r rs, h => by
  obtain ⟨p, e1, h⟩ := bnd h
  obtain ⟨ps, e2, h⟩ := bnd h
  cases h
  obtain ⟨t, rfl, q⟩ := pair_rep r e1
  obtain ⟨ts, rfl, q2⟩ := pairs_rep rs e2
  exact ⟨t :: ts, rfl, .cons q q2⟩
theorem Paired.atR {α β : Type} {R : α -> β -> Prop} : ∀ {l : List α} {m : List β} {i : Nat} {b : β}, Paired R l m -> m[i]? = some b -> ∃ a, l[i]? = some a /\ R a b
 | _, _, _, _, .nil, e => by simp at e
 | _, _, 0, _, .cons h _, e => by simp at e; subst e; exact ⟨_, rfl, h⟩
 | _, _, i + 1, _, .cons _ t, e => by
  obtain ⟨b, h1, h2⟩ := Paired.atR t (by simpa using e)
  exact ⟨b, by simpa using h1, h2⟩
theorem pick {P : Nat -> Value -> Prop} (n : Nat) (h : ∀ i, i < n -> ∃ u, P i u) : ∃ f : Nat -> Value, ∀ i, i < n -> P i (f i) := by
 classical
 refine ⟨fun i => if c : i < n then Classical.choose (h i c) else .none, fun i hi => ?_⟩
 show P i (if c : i < n then Classical.choose (h i c) else .none)
 rw [dif_pos hi]
 exact Classical.choose_spec (h i hi)
noncomputable def Tr0 : Tr := ⟨[], 0, .non, .none⟩
theorem fold_rep {K : PySem.W.Frag} {F : Addr -> Prop} {H : Hp} (ts : List Tr) (val : Nat -> Value) (hk : ∀ t ∈ ts, SqT K H t.b (t.k.map V.int) /\ Rep K F H t.d t.v) (hv : ∀ (i : Nat) t, ts[i]? = some t -> RelV t.v (val i)) :
  ∀ i, i <= ts.length -> ∃ es, DReps K F H (dictD ((ts.map fun t => (t.k, t.d)).take i)) es /\ Paired ER es (built (fun i => (ts.getD i Tr0).k) (fun i => (ts.getD i Tr0).b) val i)
 | 0, _ => ⟨[], .nil, .nil⟩
 | i + 1, hi => by
  obtain ⟨es, h1, h2⟩ := fold_rep ts val hk hv i (by lia)
  have hlt : i < ts.length := hi
  have hg : ts[i]? = some ts[i] := by simp [hlt]
  have hD : ts.getD i Tr0 = ts[i] := by simp [List.getD, hlt]
  have hm := hk ts[i] (List.getElem_mem hlt)
  refine ⟨putE es ts[i].k ts[i].b ts[i].v, ?_, ?_⟩
  ·have e : (ts.map fun t => (t.k, t.d)).take (i + 1) = (ts.map fun t => (t.k, t.d)).take i ++ [(ts[i].k, ts[i].d)] := by
    rw [List.take_succ, List.getElem?_map, hg]; rfl
   rw [e]
   unfold dictD
   rw [List.foldl_append]
   exact DReps.put h1 hm.1 hm.2
  ·show Paired ER _ (storedH _ (ts.getD i Tr0).k (ts.getD i Tr0).b (val i))
   rw [hD]
   exact er_put (hv i _ hg) h2
section
variable {X : Cx}
theorem boot_dict : bootBuiltins "dict" = some (.type "dict") := by decide +kernel
theorem tk_mono {P : Program} {w : World} (h h' : Heap) (k : List Int) (b : Addr) (x : (TKd P w).is h k b) (e : ∀ b o, h.get? b = some o -> h'.get? b = some o) : (TKd P w).is h' k b := TK.at x fun o ho => e b o ho
theorem big_of {pins : List (Addr × Obj)} {σ : L2.St} {H : Hp} {s : Shared} (I : Inv X pins σ H s) : sysModules < s.heap.objs.size := by
 have h : mainGlobals < s.heap.objs.size := (I.mod.glob.keeps I.bk).lt
 exact Nat.lt_trans (by decide) h
noncomputable def rDict (K : PySem.W.Frag) : List V -> Hp -> VK -> Prop := fun xs H Q => ∃ (F : Addr -> Prop) (ds : List D) (ps : List (List Int × D)), (∀ a, F a -> H a ≠ none) /\ Reps K F H [.list ds] xs /\ ds.length <= 1000 /\ pairsD ds = some ps /\
 ∀ p es ep, H p = none -> DReps K F H (dictD ps) es -> (es.map (·.1)).Nodup -> es.length <= 1000 -> Q (.ref p) (upd H p (DctO p es ep))
theorem cr_dict (hc : X.calm = true) (hu : X.A.units + 66 < cLine) : CallR X (.type "dict") (rDict X.K) := fun pins s σ H xs us Q I rv zz => by
 obtain ⟨F, ds, ps, z, R, hl, e1, k⟩ := zz
 cases R with
 | cons R1 R2 =>
  cases R2
  cases R1 with
  | @lst a vs _ h1 r1 =>
   obtain ⟨u, rfl, ru⟩ := vals1 rv
   cases ru
   obtain ⟨its, rvs, ⟨o, nl, g1, g2, g3, g4⟩, _⟩ := I.list h1.sq
   obtain ⟨ts, rfl, pr⟩ := pairs_rep r1 e1
   have hlen : its.length = ts.length := by rw [<- rvs.length]; exact Paired.length pr
   have hts : ts.length <= 1000 := by rw [<- Paired.length pr, <- r1.length]; exact hl
   obtain ⟨val, hval⟩ := pick (P := fun i u => ∀ t, ts[i]? = some t -> RelV t.v u /\ ∀ v, its[i]? = some v -> ∃ b, v = .ref b /\ s.heap.IsTuple b #[.ref t.b, u]) ts.length fun i hi => by
    have hg : ts[i]? = some ts[i] := by simp [hi]
    obtain ⟨x, hx, b, rfl, t1, t2, t3⟩ := Paired.atR pr hg
    obtain ⟨jts, rj, itp, _⟩ := I.tuple t1
    cases rj with
    | @cons _ u1 _ us1 ra rb =>
     cases rb with
     | @cons _ u2 _ us2 rc rd =>
      cases rd
      cases ra
      refine ⟨u2, fun t ht => ?_⟩
      rw [hg] at ht; cases ht
      refine ⟨rc, fun v hv => ?_⟩
      obtain ⟨w', ew, rw'⟩ := rvs.get hx
      rw [hv] at ew; cases ew
      cases rw'
      exact ⟨b, rfl, itp⟩
   obtain ⟨oc, od, odt, osl⟩ := o
   have hob : s.heap.get? a = some { cls := .type "list", dict := none, data := .seq its.toArray nl, slots := osl } := by
    rw [g1]; simp only at g2 g3 g4; rw [g2, g3, g4]
   refine call_dict_pairs' (knd := TKd X.prog X.w) (fun i => (ts.getD i Tr0).k) (fun i => (ts.getD i Tr0).b) val tk_mono (I.ok.hd hc) (fun B hB => show B.units < cLine by lia) hob (fun i v hv => ?_) (fun i hi => ?_) (by rw [List.size_toArray, hlen]; exact hts) fun h' tk dd keep => ?_
   ·have hv' : its[i]? = some v := by simpa using hv
    have hi : i < ts.length := by rw [<- hlen]; exact (List.getElem?_eq_some_iff.mp hv').1
    have hg : ts[i]? = some ts[i] := by simp [hi]
    have hD : ts.getD i Tr0 = ts[i] := by simp [List.getD, hi]
    obtain ⟨b, e, it⟩ := (hval i hi _ hg).2 v hv'
    exact ⟨b, e, by rw [hD]; exact it⟩
   ·have hi' : i < ts.length := by rw [<- hlen]; simpa using hi
    have hg : ts[i]? = some ts[i] := by simp [hi']
    have hD : ts.getD i Tr0 = ts[i] := by simp [List.getD, hi']
    obtain ⟨x, hx, b, _, t1, t2, t3⟩ := Paired.atR pr hg
    show TK X.prog X.w s.heap (ts.getD i Tr0).k (ts.getD i Tr0).b
    rw [hD]
    exact tk_of I t2
   ·obtain ⟨es, f1, f2⟩ := fold_rep (K := X.K) (F := F) (H := H) ts val (fun t ht => by
     obtain ⟨i, hi⟩ := List.mem_iff_getElem?.mp ht
     obtain ⟨x, hx, b, _, t1, t2, t3⟩ := Paired.atR pr hi
     exact ⟨t2, t3⟩) (fun i t ht => (hval i (List.getElem?_eq_some_iff.mp ht).1 t ht).1) ts.length (Nat.le_refl _)
    rw [List.take_of_length_le (by simp)] at f1
    have hsz : its.toArray.size = ts.length := by rw [List.size_toArray, hlen]
    rw [hsz] at dd
    have lo : (s.heap.objs.size == sysModules) = false := beq_eq_false_iff_ne.mpr (Ne.symm (Nat.ne_of_lt (big_of I)))
    have hp : H s.heap.objs.size = none := I.hok.fresh (Nat.le_refl _)
    obtain ⟨ep, oo⟩ := dct_obj (H := H) lo dd f2
    refine ⟨.ref s.heap.objs.size, upd H s.heap.objs.size (DctO s.heap.objs.size es ep), I.laid keep (Nat.le_refl _) oo, rfl, k _ es ep hp f1 ?_ ?_⟩
    ·obtain ⟨_, _, _, _, _, _, _, _, hn⟩ := dd
     rw [er_keys f2]; exact nodup_inl hn
    ·rw [Paired.length f2]; exact Nat.le_trans (built_len _) hts
theorem cd_dict (hc : X.calm = true) (hu : X.A.units + 66 < cLine) : CallR X (.type "dict") (rDA X.K dDict) := callr_mono (cr_dict hc hu) fun xs H Q zz => by
 obtain ⟨F, ds, q, z, R, hq, k⟩ := zz
 unfold dDict at hq
 split at hq
 ·rename_i ds'
  by_cases hl : ds'.length <= 1000
  ·rw [if_pos hl] at hq
   obtain ⟨ps, e1, hq⟩ := bnd hq
   cases hq
   exact ⟨F, ds', ps, z, R, hl, e1, fun p es ep hp r n l => k _ _ _ (Ext.frozen hp) (.dct (.inr rfl) upd_same n l (r.stay (Ext.frozen hp).stay))⟩
  ·rw [if_neg hl] at hq; cases hq
 ·cases hq
end
end DC
namespace DC
open PySem PySem.Spec PyProof.Rows L2 DL ST SL EL
noncomputable def iSeq (ga : Rho -> Option D) : Rho -> Option (List D) := fun ρ => (ga ρ).bind seqD
noncomputable def iRng1 (gr : Rho -> Option (List D)) : Rho -> Option (List D) := fun ρ => (gr ρ).bind rng1
noncomputable def iZip (gr : Rho -> Option (List D)) : Rho -> Option (List D) := fun ρ => (gr ρ).bind zipD
noncomputable def iEnum (gr : Rho -> Option (List D)) : Rho -> Option (List D) := fun ρ => (gr ρ).bind enumD
section
variable {X : Cx} {tg e a b : Expr} {es : List Expr} {ga : Rho -> Option D} {gr : Rho -> Option (List D)} {p pos : Pos}
theorem di_iseq (ha : DE X e ga) : DI X tg e (iSeq ga) := di_val ha
theorem di_irng1 (hg : Gl X "range") (hm : X.mg "range" = none) (ha : DA X [a] gr) (hs : starEach [a] X.env = [(false, eval a X.env)] := by rfl) : DI X tg (.Call (.Name "range" p) [a] [] pos) (iRng1 gr) := di_range1 hg hm ha hs
theorem di_izip {elts : List Expr} {x1} {tpos : Pos} (hg : Gl X "zip") (hm : X.mg "zip" = none) (ha : DA X [a, b] gr) (hs : starEach [a, b] X.env = [(false, eval a X.env), (false, eval b X.env)] := by rfl) (hs2 : starEach [b] X.env = [(false, eval b X.env)] := by rfl) :
  DI X (.Tuple elts x1 tpos) (.Call (.Name "zip" p) [a, b] [] pos) (iZip gr) := di_zip hg hm ha hs hs2
theorem di_ienum {elts : List Expr} {x1} {tpos : Pos} (hg : Gl X "enumerate") (hm : X.mg "enumerate" = none) (ha : DA X [a] gr) (hs : starEach [a] X.env = [(false, eval a X.env)] := by rfl) :
  DI X (.Tuple elts x1 tpos) (.Call (.Name "enumerate" p) [a] [] pos) (iEnum gr) := di_enum hg hm ha hs
end
end DC
namespace DL
open PySem PySem.Spec PyProof.Rows L2
end DL
namespace DC
open PySem PySem.Spec PyProof.Rows L2 DL ST SL EL
section
variable {X : Cx} {e k v : Expr} {es : List Expr} {gr : Rho -> Option (List D)} {gk gv : Rho -> Option D} {p pos : Pos}
end
end DC
namespace DC
open PySem PySem.Spec PyProof.Rows L2 DL ST SL EL
section
variable {P : Program} {w : World} {A : Around} {E : Value -> Shared -> Prop} {s : Shared} {d it : Addr} {raw : Array DictEntry} {ep i : Nat}
end
end DC
namespace DC
open PySem PySem.Spec PyProof.Rows L2 DL ST SL EL
noncomputable def dInt : List D -> Option D
 | [.bool b] => some (.int (if b = true then 1 else 0))
 | _ => none
theorem boot_int' : bootBuiltins "int" = some (.type "int") := by decide +kernel
theorem cd_int {X : Cx} : CallR X (.type "int") (rDA X.K dInt) := fun pins s σ H xs us Q I rv zz => by
 obtain ⟨F, ds, q, z, R, hq, k⟩ := zz
 unfold dInt at hq
 split at hq
 ·cases hq
  cases R with
  | cons R1 R2 =>
   cases R2
   cases R1
   cases rv with
   | cons r1 r2 =>
    cases r2
    cases r1
    exact call_int_bool ⟨.int _, H, I.tok _, ⟨_, rfl⟩, k F H _ (Ext.refl F H) (.int _)⟩
 ·cases hq
end DC
namespace DL
open PySem PySem.Spec PyProof.Rows L2
section
variable {X : Cx} {a b : Expr} {ga : Rho -> Option (List D)} {pos : Pos}
end
end DL
namespace TX
open PySem PySem.Spec PyProof.Rows L2 DL
open Builtin Builtin.Str
section
variable {X : Cx}
end
end TX
namespace TX
open PySem PySem.Spec PyProof.Rows L2 DL
open Builtin Builtin.Str
noncomputable def strsD : List D -> Option (List Str)
 | [] => some []
 | .str x :: r => (strsD r).bind fun xs => some (x :: xs)
 | _ => none
theorem reps_strs {K : PySem.W.Frag} {F : Addr -> Prop} {H : Hp} : ∀ {ds : List D} {vs : List V} {xs : List Str}, Reps K F H ds vs -> strsD ds = some xs -> vs = xs.map V.str := by
 intro ds
 induction ds with
 | nil => intro vs xs r h; cases r; cases h; rfl
 | cons d ds ih =>
  intro vs xs r h
  cases r with
  | cons r rs =>
   cases d with
   | str x =>
    obtain ⟨ys, e1, q⟩ := bnd h
    cases q
    cases r
    rw [ih rs e1]
    rfl
   | _ => cases h
theorem strs_reps {K : PySem.W.Frag} {F : Addr -> Prop} {H : Hp} : ∀ xs : List Str, Reps K F H (xs.map PyData.str) (xs.map V.str)
 | [] => .nil
 | x :: xs => .cons (.str x) (strs_reps xs)
section
variable {X : Cx} {o e : Expr} {go ge : Rho -> Option D} {apos cpos : Pos}
end
end TX
namespace TX
open PySem PySem.Spec PyProof.Rows L2 DL ZL EL
open Builtin Builtin.Str
end TX
namespace TB
open PySem PySem.Spec PyProof.Rows L2 DL TX
inductive TEnt (K : PySem.W.Frag) (w : World) : List (Str × D) -> List DictEntry -> Prop
 | nil : TEnt K w [] []
 | cons {x : Str} {d : D} {h : Int} {t : Tok} {v : V} {u : Value} {tb : List (Str × D)} {es : List DictEntry} : h = PySem.hashStr w x -> RelV v u -> (∀ F H, Rep K F H d v) -> TEnt K w tb es -> TEnt K w ((x, d) :: tb) (⟨h, .str x t, u⟩ :: es)
noncomputable def Tab (K : PySem.W.Frag) (w : World) (a : Addr) (tb : List (Str × D)) : Prop := ∃ es ep, K.lookup a = some ⟨.type "dict", none, .dict es ep, #[]⟩ /\ TEnt K w tb es.toList
noncomputable def eTab (tb : List (Str × D)) (ga : Rho -> Option D) : Rho -> Option D := fun ρ => (ga ρ).bind fun k => match k with
 | .str x => tb.lookup x
 | _ => none
theorem tent_keys {prog : Program} {K : PySem.W.Frag} {w : World} : ∀ {tb : List (Str × D)} {es : List DictEntry}, TEnt K w tb es -> ∀ e ∈ es, ∃ k, (PySem.strKind prog w).is k e.key = true /\ e.hash = (PySem.strKind prog w).hash k := by
 intro tb es h
 induction h with
 | nil => intro e he; cases he
 | cons hh r rp _ ih =>
  intro e he
  rcases List.mem_cons.mp he with rfl | he
  ·exact ⟨_, by simp [PySem.strKind, Value.isStrOf], hh⟩
  ·exact ih e he
theorem tent_find {prog : Program} {K : PySem.W.Frag} {w : World} {x : Str} {d : D} : ∀ {tb : List (Str × D)} {es : List DictEntry}, TEnt K w tb es -> tb.lookup x = some d -> ∃ e v, es.find? (fun e => (PySem.strKind prog w).is x e.key) = some e /\ RelV v e.val /\ ∀ F H, Rep K F H d v := by
 intro tb es h
 induction h with
 | nil => intro e; cases e
 | @cons y d' hh t v u tb es h1 h2 h3 _ ih =>
  intro e
  rw [List.lookup_cons] at e
  by_cases z : x = y
  ·subst z
   rw [beq_self_eq_true] at e
   cases e
   exact ⟨_, v, by rw [List.find?_cons_of_pos (by simp [PySem.strKind, Value.isStrOf])], h2, h3⟩
  ·rw [show (x == y) = false from by simpa using z] at e
   obtain ⟨e', v', q1, q2, q3⟩ := ih e
   refine ⟨e', v', ?_, q2, q3⟩
   rw [List.find?_cons_of_neg (by simp [PySem.strKind, Value.isStrOf]; first | exact z | exact fun q => z q.symm)]
   exact q1
section
variable {X : Cx} {e : Expr} {ga gb : Rho -> Option D} {p pos : Pos}
noncomputable def rTab (K : PySem.W.Frag) (w : World) : R2 := fun x y H Q => ∃ a k tb d, x = .ref a /\ y = .str k /\ Tab K w a tb /\ tb.lookup k = some d /\ ∀ v, (∀ F, Rep K F H d v) -> Q v H
theorem ix_tab : IxR X (rTab X.K X.w) := fun value slice pins s σ H x y v u Q I rx ry ⟨a, k, tb, d, ex, ey, ⟨es, ep, lk, T⟩, hd, kk⟩ hs => by
 subst ex ey
 cases rx
 obtain ⟨t, rfl⟩ := ry
 obtain ⟨en, v', g1, g2, g3⟩ := tent_find (prog := X.prog) T hd
 have ho := I.kIn a _ lk
 have hm : s.heap.MapOf (PySem.strKind X.prog X.w) a (findBy (PySem.strKind X.prog X.w).is es) := ⟨_, es, ep, ho, ⟨rfl, rfl, rfl⟩, rfl, fun e he => tent_keys T e (by simpa using he), fun _ => rfl⟩
 have hf : findBy (PySem.strKind X.prog X.w).is es k = some en.val := by
  unfold findBy
  rw [<- Array.find?_toList, g1]
  rfl
 have hT := hm.typeIs
 unfold subscriptTail
 refine wpAny_bind ?_
 rw [getitemInPython_of_ne hT.not_modules]
 refine wpAny_bind (wpAny_specialOf hT PySem.F.slot_dict_getitem.lookup ?_)
 have fin : wpAny (model X.prog X.w) X.A (subscripted slice false (.ref a) (.str k t)) (fun r s₃ => wpAny (model X.prog X.w) X.A (letTemporaryGo value (.ref a) r >>= fun _ => pure r) (EP X pins σ Q) X.xe s₃) X.xe s := by
  rw [hs]
  refine wpAny_operating ?_
  refine wpAny_getItem_of (knd := PySem.strKind X.prog X.w) (k := k) (by simp [PySem.strKind, Value.isStrOf]) hm hf ?_
  exact wpAny_bind (wpAny_letTemporaryGo (wpAny_pure ⟨v', H, I.tok _, g2, kk v' fun F => g3 F H⟩))
 first
  | exact wpAny_pure (wpAny_bind fin)
  | exact wpAny_bind (wpAny_pure (wpAny_bind fin))
  | exact wpAny_bind fin
theorem de_tab {x : Str} {a : Addr} {tb : List (Str × D)} (hg : Gl X x) (hm : X.mg x = some (.ref a)) (T : Tab X.K X.w a tb) (ha : DE X e ga) (hd : (x == ("__debug__" : Str)) = false := by decide) (hs : PlainIx e := by exact fun _ _ => rfl) : DE X (.Subscript (.Name x p) e pos) (eTab tb ga) :=
 pe_mono (pe_ix ix_tab (pe_glob (v := .ref a) hg hm rfl hd) ha hs) fun σ H Q zz => by
  obtain ⟨F, H₀, ρ, d, S, q, k⟩ := zz
  obtain ⟨kd, e1, q⟩ := bnd q
  refine ⟨F, H₀, ρ, kd, S, e1, fun F1 H1 v E1 R1 => ?_⟩
  split at q
  ·cases R1
   exact ⟨a, _, tb, d, rfl, rfl, T, q, fun v R => k F1 H1 v E1 (R F1)⟩
  ·cases q
noncomputable def dIxS : D -> D -> Option D
 | .str x, .int i => if decide (x.length <= 1000000) then (atI x.cps.toList i).bind fun c => some (.str ⟨#[c]⟩) else none
 | _, _ => none
theorem ixdS : IxR X (rD2 X.K dIxS) := ixr_mono ix_str fun x y H Q zz => by
 obtain ⟨F, d, e, q, z, R1, R2, hq, k⟩ := zz
 unfold dIxS at hq
 split at hq
 ·split at hq
  next c =>
   obtain ⟨c', e1, hq⟩ := bnd hq
   cases hq
   cases R1
   cases R2
   exact ⟨_, _, c', rfl, rfl, by rw [sizeLine_eq]; have := of_decide_eq_true c; lia, e1, k F H _ (Ext.refl F H) (.str _)⟩
  next => cases hq
 ·cases hq
end
mutual
noncomputable def noL : D -> Bool
 | .none => true
 | .bool _ => true
 | .int _ => true
 | .str _ => true
 | .tuple ds => noLs ds
 | _ => false
noncomputable def noLs : List D -> Bool
 | [] => true
 | d :: ds => noL d && noLs ds
end
mutual
theorem noL_rep {K : PySem.W.Frag} {F F2 : Addr -> Prop} {H : Hp} : ∀ {d : D} {v : V}, Rep K F H d v -> noL d = true -> Rep K F2 H d v
 | _, _, .non, _ => .non
 | _, _, .bl b, _ => .bl b
 | _, _, .int i, _ => .int i
 | _, _, .str x, _ => .str x
 | _, _, .tup h r, q => .tup h (noLs_rep r (by unfold noL at q; exact q))
 | _, _, .lst h r, q => by unfold noL at q; cases q
 | _, _, .dct f h n l r, q => by unfold noL at q; cases q
 | _, _, .exn f h n, q => by unfold excD noL at q; cases q
theorem noLs_rep {K : PySem.W.Frag} {F F2 : Addr -> Prop} {H : Hp} : ∀ {ds : List D} {vs : List V}, Reps K F H ds vs -> noLs ds = true -> Reps K F2 H ds vs
 | _, _, .nil, _ => .nil
 | _, _, .cons h r, q => by
  unfold noLs at q
  rw [Bool.and_eq_true] at q
  exact .cons (noL_rep h q.1) (noLs_rep r q.2)
end
noncomputable def sAppB (i : Nat) (ga : Rho -> Option D) : Rho -> Option Out := fun ρ => match ρ[i]? with
 | some (.own ds) => (ga (ρ.map frz)).bind fun d => if (noL d && decide (ds.length < 1000)) = true then some (.nx (ρ.set i (.own (ds ++ [d])))) else none
 | _ => none
section
variable {X : Cx} {e : Expr} {ga : Rho -> Option D} {p pos : Pos}
theorem ds_appB {i : Nat} {x : Str} {apos pos' : Pos} (ha : DE X e ga) (hN : X.N[i]? = some x := by rfl) (hv : Vis X.env.scope x := by first | exact Or.inl rfl | exact Or.inr (Or.inl rfl) | exact Or.inr (Or.inr rfl)) (hd : (x == ("__debug__" : Str)) = false := by decide)
  (hcd : (x == ("__classdict__" : Str)) = false := by decide) (hse : starEach [e] X.env = (false, eval e X.env) :: starEach [] X.env := by rfl)
  (hbase : attributeBase (.Name x p) "append" X.env (eval (.Name x p) X.env) = eval (.Name x p) X.env := by rfl)
  (hfew : ((backTo pos' (starEach [e] X.env)).all (fun x => !x.1) && (backToKw pos' (keywordEach [] X.env)).all (fun x => x.1.isSome)
   && decide ([e].length + ([] : List Keyword).length + (if ([] : List Keyword).isEmpty then 0 else 1) < 30)) = true := by rfl)
  (hline : (apos.endLine == pos'.line) = true := by rfl) (hplain : (backTo pos' (starEach [] X.env)).any (·.1) = false := by rfl) (hsw : swapsWith (.Call (.Attribute (.Name x p) "append" apos) [e] [] pos') none pos.line X.env = pure false := by rfl) :
  DS X (.Expr (.Call (.Attribute (.Name x p) "append" apos) [e] [] pos') pos) (sAppB i ga) :=
 ps_mono (ps_expr (pe_bm PySem.F.plainAttrs_list PySem.F.slot_list_append PySem.F.type_list_append mt_append (pe_var hN hv hd hcd) (pa_cons ha pa_nil hse) hbase hfew hline hse hplain) hsw) fun W σ H zz => by
 obtain ⟨F₀, H₀, F, ρ, o, E, S, q, k⟩ := zz
 unfold sAppB at q
 split at q
 ·rename_i ds e0
  obtain ⟨d, e1, q⟩ := bnd q
  by_cases hl : (noL d && decide (ds.length < 1000)) = true
  ·rw [if_pos hl] at q
   cases q
   rw [Bool.and_eq_true, decide_eq_true_eq] at hl
   obtain ⟨l, vs, q1, q2, q3, q4, q5⟩ := S.own e0
   refine ⟨_, q1, .inl ⟨rfl, _, SqL.of q2⟩, _, H₀, ρ.map frz, d, S.frz, e1, fun F' H' v E' R' => ?_⟩
   have E2 := E'.lend S
   have S' := S.ext E2
   obtain ⟨l', vs', g1, g2, g3, g4, g5⟩ := S'.own e0
   rw [q1] at g1; cases g1
   refine ⟨l, vs', v, rfl, rfl, g2, small1000 (by rw [<- g5.length]; lia), ?_⟩
   obtain ⟨S2, T⟩ := S'.turn e0 q1 g2 g3 (g5.append (.cons (noL_rep R' hl.1) .nil))
   exact k _ _ σ ((E.trans E2).turn q4) (E2.stay.trans T) S2
  ·rw [if_neg hl] at q; cases q
 ·cases q
end
end TB
namespace TB
open PySem PySem.Spec PyProof.Rows L2 DL TX
noncomputable def leS (a b : Str) : Prop := ltCps b.cps.toList a.cps.toList = false
theorem leS_iff (a b : Str) : leS a b ↔ ¬ b.cps.toList < a.cps.toList := by unfold leS; rw [ltCps_eq]; simp
theorem leS_trans {a b c : Str} (h1 : leS a b) (h2 : leS b c) : leS a c := by
 rw [leS_iff] at *
 intro h
 by_cases z : c.cps.toList < b.cps.toList
 ·exact h2 z
 ·exact h1 (List.lt_of_le_of_lt (List.not_lt.mp z) h)
theorem leS_total (a b : Str) : leS a b ∨ leS b a := by
 rw [leS_iff, leS_iff]
 by_cases z : b.cps.toList < a.cps.toList
 ·exact .inr fun q => List.lt_irrefl _ (List.lt_trans z q)
 ·exact .inl z
theorem leS_anti {a b : Str} (h1 : leS a b) (h2 : leS b a) : a = b := by
 rw [leS_iff] at h1 h2
 exact Str.ext' (Array.toList_inj.mp (List.le_antisymm (List.not_lt.mp h1) (List.not_lt.mp h2)))
noncomputable def insS (x : Str) : List Str -> List Str
 | [] => [x]
 | y :: r => if ltCps y.cps.toList x.cps.toList = true then y :: insS x r else x :: y :: r
noncomputable def sortS : List Str -> List Str
 | [] => []
 | x :: r => insS x (sortS r)
theorem insS_perm (x : Str) : ∀ l : List Str, (insS x l).Perm (x :: l)
 | [] => .refl _
 | y :: r => by
  unfold insS
  split
  ·exact ((insS_perm x r).cons y).trans (.swap x y r)
  ·exact .refl _
theorem sortS_perm : ∀ l : List Str, (sortS l).Perm l
 | [] => .refl _
 | x :: r => (insS_perm x (sortS r)).trans ((sortS_perm r).cons x)
theorem insS_sorted (x : Str) : ∀ {l : List Str}, l.Pairwise leS -> (insS x l).Pairwise leS
 | [], _ => List.pairwise_singleton _ _
 | y :: r, h => by
  rw [List.pairwise_cons] at h
  unfold insS
  split
  ·rename_i c
   refine List.pairwise_cons.mpr ⟨fun z hz => ?_, insS_sorted x h.2⟩
   rcases List.mem_cons.mp ((insS_perm x r).mem_iff.mp hz) with rfl | hz
   ·rcases leS_total y z with q | q
    ·exact q
    ·unfold leS at q; rw [q] at c; cases c
   ·exact h.1 z hz
  ·rename_i c
   have q : leS x y := by unfold leS; simpa using c
   refine List.pairwise_cons.mpr ⟨fun z hz => ?_, List.pairwise_cons.mpr h⟩
   rcases List.mem_cons.mp hz with rfl | hz
   ·exact q
   ·exact leS_trans q (h.1 z hz)
theorem sortS_sorted : ∀ l : List Str, (sortS l).Pairwise leS
 | [] => .nil
 | x :: r => insS_sorted x (sortS_sorted r)
theorem sorted_uniq : ∀ {a b : List Str}, a.Perm b -> a.Pairwise leS -> b.Pairwise leS -> a = b
 | [], b, p, _, _ => (List.nil_perm.mp p).symm
 | x :: a, [], p, _, _ => absurd p.length_eq (by simp)
 | x :: a, y :: b, p, h1, h2 => by
  rw [List.pairwise_cons] at h1 h2
  have e : x = y := by
   have m1 : x ∈ y :: b := p.mem_iff.mp List.mem_cons_self
   have m2 : y ∈ x :: a := p.mem_iff.mpr List.mem_cons_self
   rcases List.mem_cons.mp m1 with e | m1
   ·exact e
   ·rcases List.mem_cons.mp m2 with e | m2
    ·exact e.symm
    ·exact leS_anti (h1.1 y m2) (h2.1 x m1)
  subst e
  rw [sorted_uniq p.cons_inv h1.2 h2.2]
theorem rise_pair : ∀ {l : List Str} {p : Str}, risingS p l = true -> (p :: l).Pairwise leS
 | [], p, _ => List.pairwise_singleton _ _
 | x :: r, p, h => by
  have h' : (!ltCps x.cps.toList p.cps.toList && risingS x r) = true := h
  rw [Bool.and_eq_true, Bool.not_eq_true'] at h'
  have ih := rise_pair h'.2
  refine List.pairwise_cons.mpr ⟨fun z hz => ?_, ih⟩
  rcases List.mem_cons.mp hz with rfl | hz
  ·exact h'.1
  ·exact leS_trans h'.1 ((List.pairwise_cons.mp ih).1 z hz)
theorem sorted_pair {l : List Str} (h : sortedS l = true) : l.Pairwise leS := by
 cases l with
 | nil => exact .nil
 | cons x r => exact rise_pair h
noncomputable def dSortS : List D -> Option D
 | [.list ds] => (strsD ds).bind fun xs => if decide (xs.length < 64) then some (.list ((sortS xs).map .str)) else none
 | _ => none
theorem vals_are : ∀ {xs : List Str} {us : List Value}, Vals (xs.map V.str) us -> StrsAre us xs
 | [], _, .nil => .nil
 | x :: xs, _, .cons r t => by
  obtain ⟨u, rfl⟩ := r
  exact .cons x u (vals_are t)
theorem are_vals : ∀ {xs : List Str} {us : List Value}, StrsAre us xs -> Vals (xs.map V.str) us
 | _, _, .nil => .nil
 | _, _, .cons y t h => .cons ⟨t, rfl⟩ (are_vals h)
theorem cd_sortS {X : Cx} : CallR X (.builtin "sorted") (rDA X.K dSortS) := fun pins s σ H xs us Q I rx zz => by
 obtain ⟨F, ds, q, z, R, hq, k⟩ := zz
 unfold dSortS at hq
 split at hq
 ·obtain ⟨ys, e1, hq⟩ := bnd hq
  split at hq
  next c =>
   cases hq
   have c' := of_decide_eq_true c
   cases R with
   | cons r rs =>
    cases rs
    cases r with
    | @lst a vs _ h1 r1 =>
     obtain ⟨u, rfl, ru⟩ := rx.one
     cases ru
     obtain ⟨its, rv, pl, _⟩ := I.list h1.sq
     rw [reps_strs r1 e1] at rv
     have sa := vals_are rv
     have ln : its.length = ys.length := by rw [<- rv.length, List.length_map]
     refine sorted_strs pl.isList sa (by lia) fun out ss' a1 a2 a3 => ?_
     have e : ss' = sortS ys := sorted_uniq (a2.trans (sortS_perm ys).symm) (sorted_pair a3) (sortS_sorted ys)
     subst e
     obtain ⟨ep, he⟩ := sortedAll_at s.heap its out
     have fr : H (s.heap.objs.size + 1) = none := I.hok.fresh (Nat.le_succ _)
     have lo : (sortS ys).length <= 1000 := by rw [(sortS_perm ys).length_eq]; lia
     have old : ∀ b o, s.heap.get? b = some o -> (sortedAll s.heap its out).get? b = some o := fun b o hb => sortedAll_old hb
     refine ⟨.ref (s.heap.objs.size + 1), upd H (s.heap.objs.size + 1) (.lst ((sortS ys).map V.str)), I.laid (t' := s.toks) old (Nat.le_succ _) ?_, rfl, k _ _ _ (Ext.frozen fr) (Rep.newLst fr (strs_reps _))⟩
     exact ⟨line1000 (by rw [List.length_map]; exact lo), out.toList, ep, are_vals a1, by rw [he]⟩
  next => cases hq
 ·cases hq
end TB
namespace My
open PySem PySem.Spec PySem.SeqAt PyProof.Rows L2 CL DL SD ZL SL EL DC TB TX
noncomputable def top (i : Nat) : Stmt := PySem.Challenge.pw_lampfloor_k81_whole_eyes.main.body.getD i (.Pass ⟨0, 0, 0, 0⟩)
abbrev s_qj : Stmt := top 5
abbrev s_qf : Stmt := top 11
abbrev s_qr : Stmt := top 13
abbrev s_qo : Stmt := top 15
abbrev s_q4 : Stmt := top 16
abbrev s_q5 : Stmt := top 22
abbrev s_qq : Stmt := top 25
abbrev s_qp : Stmt := top 28
abbrev s_qc : Stmt := top 36
abbrev s_q9 : Stmt := top 39
abbrev s_q2 : Stmt := top 6
abbrev s_qb : Stmt := top 12
abbrev s_qk : Stmt := top 18
abbrev s_qi : Stmt := top 30
abbrev s_qa : Stmt := top 37
abbrev s_qe : Stmt := top 40
abbrev s_qm : Stmt := top 7
abbrev s_q3 : Stmt := top 19
abbrev s_q8 : Stmt := top 38
abbrev s_q0 : Stmt := top 8
abbrev s_qd : Stmt := top 31
abbrev s_qh : Stmt := top 9
abbrev s_q7 : Stmt := top 32
abbrev s_q1 : Stmt := top 10
abbrev s_qg : Stmt := top 20
abbrev s_q6 : Stmt := top 29
abbrev s_qn : Stmt := top 33
abbrev s_ql : Stmt := top 34
abbrev s_qs : Stmt := top 42
noncomputable def tb_STEPS : List (Str × D) := [("n", .tuple [.int 0, .int (-1)]), ("e", .tuple [.int 1, .int 0]), ("s", .tuple [.int 0, .int 1]), ("w", .tuple [.int (-1), .int 0])]
noncomputable def tb_RIGHT_OF : List (Str × D) := [("n", .str "e"), ("e", .str "s"), ("s", .str "w"), ("w", .str "n")]
noncomputable def N_qj : List Str := ["thing"]
theorem sc_qj : FnScope N_qj ["thing"] (defScope s_qj) := ⟨rfl, rfl, rfl, by decide +kernel, rfl, by decide +kernel, by decide +kernel⟩
noncomputable def gis_whole : Rho -> Option Out :=
  (sRet (eAndV (eIs "int" (eV 0)) (eNotV (eIs "bool" (eV 0)))))
noncomputable def Gis_whole : List D -> Option D := fnD 1 gis_whole
noncomputable def N_qf : List Str := ["floor", "cells", "x"]
theorem sc_qf : FnScope N_qf ["floor"] (defScope s_qf) := ⟨rfl, rfl, rfl, by decide +kernel, rfl, by decide +kernel, by decide +kernel⟩
noncomputable def N_qf_c1 : List Str := ["y", "x"]
theorem nd_qf_c1 : N_qf_c1.Nodup := by decide +kernel
noncomputable def gall_cells : Rho -> Option Out :=
  (sSeq (sOwn 1 eNil)
  (sSeq (sFor (iRng1 (eCons (eOp dIx (eV 0) (eC (.int 0))) eNil)) (uName 2) (sExt 1 (eLc (eComp (iRng1 (eCons (eOp dIx (eV 0) (eC (.int 1))) eNil)) (uName 0) eT (eTup (eCons (eV 1) (eCons (eV 0) eNil))) [none, some 2]))))
  (sRet (eV 1))))
noncomputable def Gall_cells : List D -> Option D := fnD 3 gall_cells
noncomputable def N_qr : List Str := ["things"]
theorem sc_qr : FnScope N_qr ["things"] (defScope s_qr) := ⟨rfl, rfl, rfl, by decide +kernel, rfl, by decide +kernel, by decide +kernel⟩
noncomputable def N_qr_c1 : List Str := ["thing"]
theorem nd_qr_c1 : N_qr_c1.Nodup := by decide +kernel
noncomputable def gmarked : Rho -> Option Out :=
  (sRet (eCall dDict (eCons (eLc (eComp (iSeq (eV 0)) (uName 0) eT (eTup (eCons (eV 0) (eCons (eC (.bool true)) eNil))) [none])) eNil)))
noncomputable def Gmarked : List D -> Option D := fnD 1 gmarked
noncomputable def N_qo : List Str := ["one", "other", "far_x", "far_y", "way_x", "way_y", "gone_x", "gone_y", "cells", "border_x", "border_y"]
theorem sc_qo : FnScope N_qo ["one", "other"] (defScope s_qo) := ⟨rfl, rfl, rfl, by decide +kernel, rfl, by decide +kernel, by decide +kernel⟩
noncomputable def gcrossed : Rho -> Option Out :=
  (sSeq (sSet 2 (eCall dAbs (eCons (eOp dSub (eOp dIx (eV 1) (eC (.int 0))) (eOp dIx (eV 0) (eC (.int 0)))) eNil)))
  (sSeq (sSet 3 (eCall dAbs (eCons (eOp dSub (eOp dIx (eV 1) (eC (.int 1))) (eOp dIx (eV 0) (eC (.int 1)))) eNil)))
  (sSeq (sSet 4 (eIf (eB (eOp dGt (eOp dIx (eV 1) (eC (.int 0))) (eOp dIx (eV 0) (eC (.int 0))))) (eC (.int 1)) (eUn dNeg (eC (.int 1)))))
  (sSeq (sSet 5 (eIf (eB (eOp dGt (eOp dIx (eV 1) (eC (.int 1))) (eOp dIx (eV 0) (eC (.int 1))))) (eC (.int 1)) (eUn dNeg (eC (.int 1)))))
  (sSeq (sSet 6 (eC (.int 0)))
  (sSeq (sSet 7 (eC (.int 0)))
  (sSeq (sOwn 8 (eCons (eV 0) eNil))
  (sSeq (whileN (eOr (eB (eOp dLt2 (eV 6) (eV 2))) (eB (eOp dLt2 (eV 7) (eV 3)))) (sSeq (sSet 9 (eOp dMul2 (eOp dAdd2 (eOp dMul2 (eC (.int 2)) (eV 6)) (eC (.int 1))) (eV 3)))
  (sSeq (sSet 10 (eOp dMul2 (eOp dAdd2 (eOp dMul2 (eC (.int 2)) (eV 7)) (eC (.int 1))) (eV 2)))
  (sSeq (sIf (eB (eOp dLe (eV 9) (eV 10))) (sSet 6 (eOp dAdd2 (eV 6) (eC (.int 1)))) sSkip)
  (sSeq (sIf (eB (eOp dLe (eV 10) (eV 9))) (sSet 7 (eOp dAdd2 (eV 7) (eC (.int 1)))) sSkip)
  (sApp 8 (eTup (eCons (eOp dAdd2 (eOp dIx (eV 0) (eC (.int 0))) (eOp dMul2 (eV 4) (eV 6))) (eCons (eOp dAdd2 (eOp dIx (eV 0) (eC (.int 1))) (eOp dMul2 (eV 5) (eV 7))) eNil)))))))) 900)
  (sRet (eV 8))))))))))
noncomputable def Gcrossed : List D -> Option D := fnD 11 gcrossed
noncomputable def N_q4 : List Str := ["cells", "couples", "here", "there"]
theorem sc_q4 : FnScope N_q4 ["cells"] (defScope s_q4) := ⟨rfl, rfl, rfl, by decide +kernel, rfl, by decide +kernel, by decide +kernel⟩
noncomputable def gcouples_beside : Rho -> Option Out :=
  (sSeq (sOwn 1 eNil)
  (sSeq (sFor (iZip (eCons (eV 0) (eCons (eSl2 (eV 0) (oE (eC (.int 1))) oNo) eNil))) (uTup 2 (uCons (uName 2) (uCons (uName 3) uNil))) (sIf (eAnd (eB (eOp dNe (eOp dIx (eV 2) (eC (.int 0))) (eOp dIx (eV 3) (eC (.int 0))))) (eB (eOp dNe (eOp dIx (eV 2) (eC (.int 1))) (eOp dIx (eV 3) (eC (.int 1)))))) (sApp 1 (eCall dTuple (eCons (eCall dSorted (eCons (eLst (eCons (eTup (eCons (eOp dIx (eV 2) (eC (.int 0))) (eCons (eOp dIx (eV 3) (eC (.int 1))) eNil))) (eCons (eTup (eCons (eOp dIx (eV 3) (eC (.int 0))) (eCons (eOp dIx (eV 2) (eC (.int 1))) eNil))) eNil))) eNil)) eNil))) sSkip))
  (sRet (eV 1))))
noncomputable def Gcouples_beside : List D -> Option D := fnD 4 gcouples_beside
noncomputable def N_q5 : List Str := ["one", "other"]
theorem sc_q5 : FnScope N_q5 ["one", "other"] (defScope s_q5) := ⟨rfl, rfl, rfl, by decide +kernel, rfl, by decide +kernel, by decide +kernel⟩
noncomputable def gsquare_apart : Rho -> Option Out :=
  (sRet (eOp dAdd2 (eOp dPow (eOp dSub (eOp dIx (eV 0) (eC (.int 0))) (eOp dIx (eV 1) (eC (.int 0)))) (eC (.int 2))) (eOp dPow (eOp dSub (eOp dIx (eV 0) (eC (.int 1))) (eOp dIx (eV 1) (eC (.int 1)))) (eC (.int 2)))))
noncomputable def Gsquare_apart : List D -> Option D := fnD 2 gsquare_apart
noncomputable def N_qq : List Str := ["cell", "word"]
theorem sc_qq : FnScope N_qq ["cell", "word"] (defScope s_qq) := ⟨rfl, rfl, rfl, by decide +kernel, rfl, by decide +kernel, by decide +kernel⟩
noncomputable def gbeside : Rho -> Option Out :=
  (sRet (eTup (eCons (eOp dAdd2 (eOp dIx (eV 0) (eC (.int 0))) (eOp dIx (eTab tb_STEPS (eV 1)) (eC (.int 0)))) (eCons (eOp dAdd2 (eOp dIx (eV 0) (eC (.int 1))) (eOp dIx (eTab tb_STEPS (eV 1)) (eC (.int 1)))) eNil))))
noncomputable def Gbeside : List D -> Option D := fnD 2 gbeside
noncomputable def N_qp : List Str := ["eye"]
theorem sc_qp : FnScope N_qp ["eye"] (defScope s_qp) := ⟨rfl, rfl, rfl, by decide +kernel, rfl, by decide +kernel, by decide +kernel⟩
noncomputable def gturned : Rho -> Option Out :=
  (sRet (eTup (eCons (eOp dIx (eV 0) (eC (.int 0))) (eCons (eTab tb_RIGHT_OF (eOp dIx (eV 0) (eC (.int 1)))) (eCons (eOp dIx (eV 0) (eC (.int 2))) eNil)))))
noncomputable def Gturned : List D -> Option D := fnD 1 gturned
noncomputable def N_qc : List Str := ["_law_script", "_law_k"]
theorem sc_qc : FnScope N_qc ["_law_script", "_law_k"] (defScope s_qc) := ⟨rfl, rfl, rfl, by decide +kernel, rfl, by decide +kernel, by decide +kernel⟩
noncomputable def g_law_cell : Rho -> Option Out :=
  (sSeq (sIf (eB (eOp dEq (eV 0) (eLst eNil))) (sRet (eOp dMul2 (eC (.int 7)) (eV 1))) sSkip)
  (sRet (eOp dAdd2 (eOp dIx (eV 0) (eOp dMod (eV 1) (eCall dLen (eCons (eV 0) eNil)))) (eOp dMul2 (eC (.int 6553)) (eOp dFdiv (eV 1) (eCall dLen (eCons (eV 0) eNil)))))))
noncomputable def G_law_cell : List D -> Option D := fnD 2 g_law_cell
noncomputable def N_q9 : List Str := ["_law_floor_here"]
theorem sc_q9 : FnScope N_q9 ["_law_floor_here"] (defScope s_q9) := ⟨rfl, rfl, rfl, by decide +kernel, rfl, by decide +kernel, by decide +kernel⟩
noncomputable def N_q9_c1 : List Str := ["_law_at", "_law_floor_here"]
theorem nd_q9_c1 : N_q9_c1.Nodup := by decide +kernel
noncomputable def g_law_cells : Rho -> Option Out :=
  (sRet (eLc (eComp (iRng1 (eCons (eOp dMul2 (eOp dIx (eV 0) (eC (.int 0))) (eOp dIx (eV 0) (eC (.int 1)))) eNil)) (uName 0) eT (eTup (eCons (eOp dFdiv (eV 0) (eOp dIx (eV 1) (eC (.int 1)))) (eCons (eOp dMod (eV 0) (eOp dIx (eV 1) (eC (.int 1)))) eNil))) [none, some 0])))
noncomputable def G_law_cells : List D -> Option D := fnD 1 g_law_cells
noncomputable def N_q2 : List Str := ["thing"]
theorem sc_q2 : FnScope N_q2 ["thing"] (defScope s_q2) := ⟨rfl, rfl, rfl, by decide +kernel, rfl, by decide +kernel, by decide +kernel⟩
noncomputable def gis_whole_couple : Rho -> Option Out :=
  (sSeq (sIf (eOr (eNot (eB (eIs "tuple" (eV 0)))) (eB (eOp dNe (eCall dLen (eCons (eV 0) eNil)) (eC (.int 2))))) (sRet (eC (.bool false))) sSkip)
  (sRet (eAndV (eCall Gis_whole (eCons (eOp dIx (eV 0) (eC (.int 0))) eNil)) (eCall Gis_whole (eCons (eOp dIx (eV 0) (eC (.int 1))) eNil)))))
noncomputable def Gis_whole_couple : List D -> Option D := fnD 1 gis_whole_couple
noncomputable def N_qb : List Str := ["floor"]
theorem sc_qb : FnScope N_qb ["floor"] (defScope s_qb) := ⟨rfl, rfl, rfl, by decide +kernel, rfl, by decide +kernel, by decide +kernel⟩
noncomputable def gopen_cells : Rho -> Option Out :=
  (sRet (eSortSet (eDiff (eSet (eCons (eCall Gall_cells (eCons (eV 0) eNil)) eNil)) (eSet (eCons (eOp dIx (eV 0) (eC (.int 2))) eNil)))))
noncomputable def Gopen_cells : List D -> Option D := fnD 1 gopen_cells
noncomputable def N_qk : List Str := ["solids", "one", "other", "cells", "cell", "first", "second"]
theorem sc_qk : FnScope N_qk ["solids", "one", "other"] (defScope s_qk) := ⟨rfl, rfl, rfl, by decide +kernel, rfl, by decide +kernel, by decide +kernel⟩
noncomputable def glets_see : Rho -> Option Out :=
  (sSeq (sSet 3 (eCall Gcrossed (eCons (eV 1) (eCons (eV 2) eNil))))
  (sSeq (sFor (iSeq (eSl2 (eV 3) oNo (oE (eUn dNeg (eC (.int 1)))))) (uName 4) (sIf (eB (eOp (dIn2 false) (eV 4) (eV 0))) (sRet (eC (.bool false))) sSkip))
  (sSeq (sFor (iSeq (eCall Gcouples_beside (eCons (eV 3) eNil))) (uTup 2 (uCons (uName 5) (uCons (uName 6) uNil))) (sIf (eAnd (eB (eOp (dIn2 false) (eV 5) (eV 0))) (eB (eOp (dIn2 false) (eV 6) (eV 0)))) (sRet (eC (.bool false))) sSkip))
  (sRet (eC (.bool true))))))
noncomputable def Glets_see : List D -> Option D := fnD 7 glets_see
noncomputable def N_qi : List Str := ["eye", "cell", "step", "x", "y"]
theorem sc_qi : FnScope N_qi ["eye", "cell"] (defScope s_qi) := ⟨rfl, rfl, rfl, by decide +kernel, rfl, by decide +kernel, by decide +kernel⟩
noncomputable def gis_ahead : Rho -> Option Out :=
  (sSeq (sSet 2 (eCall Gbeside (eCons (eTup (eCons (eC (.int 0)) (eCons (eC (.int 0)) eNil))) (eCons (eOp dIx (eV 0) (eC (.int 1))) eNil))))
  (sSeq (sSet 3 (eOp dSub (eOp dIx (eV 1) (eC (.int 0))) (eOp dIx (eOp dIx (eV 0) (eC (.int 0))) (eC (.int 0)))))
  (sSeq (sSet 4 (eOp dSub (eOp dIx (eV 1) (eC (.int 1))) (eOp dIx (eOp dIx (eV 0) (eC (.int 0))) (eC (.int 1)))))
  (sRet (eOp dLe (eCall dAbs (eCons (eOp dSub (eOp dMul2 (eV 3) (eOp dIx (eV 2) (eC (.int 1)))) (eOp dMul2 (eV 4) (eOp dIx (eV 2) (eC (.int 0))))) eNil)) (eOp dAdd2 (eOp dMul2 (eV 3) (eOp dIx (eV 2) (eC (.int 0)))) (eOp dMul2 (eV 4) (eOp dIx (eV 2) (eC (.int 1))))))))))
noncomputable def Gis_ahead : List D -> Option D := fnD 5 gis_ahead
noncomputable def N_qa : List Str := ["_law_script", "_law_k", "_law_many", "_law_cell_here"]
theorem sc_qa : FnScope N_qa ["_law_script", "_law_k", "_law_many"] (defScope s_qa) := ⟨rfl, rfl, rfl, by decide +kernel, rfl, by decide +kernel, by decide +kernel⟩
noncomputable def g_law_drawn : Rho -> Option Out :=
  (sSeq (sSet 3 (eOp dMod (eOp dAdd2 (eOp dMul2 (eOp dMod (eCall G_law_cell (eCons (eV 0) (eCons (eV 1) eNil))) (eC (.int 2147483563))) (eC (.int 69069))) (eOp dMul2 (eC (.int 104723)) (eOp dAdd2 (eV 1) (eC (.int 1))))) (eC (.int 2147483563))))
  (sSeq (sSet 3 (eOp dMod (eOp dAdd2 (eOp dMul2 (eV 3) (eV 3)) (eOp dFdiv (eV 3) (eC (.int 3)))) (eC (.int 2147483399))))
  (sRet (eOp dMod (eOp dFdiv (eOp dMod (eOp dAdd2 (eOp dMul2 (eV 3) (eV 3)) (eOp dFdiv (eV 3) (eC (.int 7)))) (eC (.int 2147483647))) (eC (.int 11))) (eV 2)))))
noncomputable def G_law_drawn : List D -> Option D := fnD 4 g_law_drawn
noncomputable def N_qe : List Str := ["_law_floor_here"]
theorem sc_qe : FnScope N_qe ["_law_floor_here"] (defScope s_qe) := ⟨rfl, rfl, rfl, by decide +kernel, rfl, by decide +kernel, by decide +kernel⟩
noncomputable def N_qe_c1 : List Str := ["_law_cell_here", "_law_floor_here"]
theorem nd_qe_c1 : N_qe_c1.Nodup := by decide +kernel
noncomputable def g_law_open : Rho -> Option Out :=
  (sRet (eLc (eComp (iSeq (eCall G_law_cells (eCons (eV 0) eNil))) (uName 0) (eB (eOp (dIn true) (eV 0) (eOp dIx (eV 1) (eC (.int 2))))) (eV 0) [none, some 0])))
noncomputable def G_law_open : List D -> Option D := fnD 1 g_law_open
noncomputable def N_qm : List Str := ["floor", "thing"]
theorem sc_qm : FnScope N_qm ["floor", "thing"] (defScope s_qm) := ⟨rfl, rfl, rfl, by decide +kernel, rfl, by decide +kernel, by decide +kernel⟩
noncomputable def gis_cell : Rho -> Option Out :=
  (sSeq (sIf (eNot (eB (eCall Gis_whole_couple (eCons (eV 1) eNil)))) (sRet (eC (.bool false))) sSkip)
  (sRet (eAndV (eChain dLe dLt2 (eC (.int 0)) (eOp dIx (eV 1) (eC (.int 0))) (eOp dIx (eV 0) (eC (.int 0)))) (eChain dLe dLt2 (eC (.int 0)) (eOp dIx (eV 1) (eC (.int 1))) (eOp dIx (eV 0) (eC (.int 1)))))))
noncomputable def Gis_cell : List D -> Option D := fnD 2 gis_cell
noncomputable def N_q3 : List Str := ["solids", "one", "other"]
theorem sc_q3 : FnScope N_q3 ["solids", "one", "other"] (defScope s_q3) := ⟨rfl, rfl, rfl, by decide +kernel, rfl, by decide +kernel, by decide +kernel⟩
noncomputable def gsee_each_other : Rho -> Option Out :=
  (sRet (eAndV (eOp (dIn2 true) (eV 2) (eV 0)) (eCall Glets_see (eCons (eV 0) (eCons (eV 1) (eCons (eV 2) eNil))))))
noncomputable def Gsee_each_other : List D -> Option D := fnD 3 gsee_each_other
noncomputable def N_q8 : List Str := ["_law_script", "_law_at", "_law_most", "_law_wide", "_law_high", "_law_rate", "_law_shuts", "_law_x"]
theorem sc_q8 : FnScope N_q8 ["_law_script", "_law_at", "_law_most"] (defScope s_q8) := ⟨rfl, rfl, rfl, by decide +kernel, rfl, by decide +kernel, by decide +kernel⟩
noncomputable def N_q8_c1 : List Str := ["_law_y", "_law_x", "_law_script", "_law_rate", "_law_at"]
theorem nd_q8_c1 : N_q8_c1.Nodup := by decide +kernel
noncomputable def g_law_floor : Rho -> Option Out :=
  (sSeq (sSet 3 (eOp dAdd2 (eC (.int 1)) (eCall G_law_drawn (eCons (eV 0) (eCons (eV 1) (eCons (eV 2) eNil))))))
  (sSeq (sSet 4 (eOp dAdd2 (eC (.int 1)) (eCall G_law_drawn (eCons (eV 0) (eCons (eOp dAdd2 (eV 1) (eC (.int 1))) (eCons (eV 2) eNil))))))
  (sSeq (sSet 5 (eOp dIx (eLst (eCons (eC (.int 2)) (eCons (eC (.int 3)) (eCons (eC (.int 3)) (eCons (eC (.int 5)) (eCons (eC (.int 9)) eNil)))))) (eCall G_law_drawn (eCons (eV 0) (eCons (eOp dAdd2 (eV 1) (eC (.int 2))) (eCons (eC (.int 5)) eNil))))))
  (sSeq (sOwn 6 eNil)
  (sSeq (sFor (iRng1 (eCons (eV 3) eNil)) (uName 7) (sExt 6 (eLc (eComp (iRng1 (eCons (eV 4) eNil)) (uName 0) (eB (eOp dEq (eCall G_law_drawn (eCons (eV 2) (eCons (eOp dAdd2 (eOp dAdd2 (eOp dAdd2 (eV 4) (eC (.int 3))) (eOp dMul2 (eC (.int 8)) (eV 1))) (eV 0)) (eCons (eV 3) eNil)))) (eC (.int 0)))) (eTup (eCons (eV 1) (eCons (eV 0) eNil))) [none, some 7, some 0, some 5, some 1]))))
  (sRet (eTup (eCons (eV 3) (eCons (eV 4) (eCons (eCall dTuple (eCons (eV 6) eNil)) eNil))))))))))
noncomputable def G_law_floor : List D -> Option D := fnD 8 g_law_floor
noncomputable def N_q0 : List Str := ["floor", "cell"]
theorem sc_q0 : FnScope N_q0 ["floor", "cell"] (defScope s_q0) := ⟨rfl, rfl, rfl, by decide +kernel, rfl, by decide +kernel, by decide +kernel⟩
noncomputable def grefuse_off_floor : Rho -> Option Out :=
  (sIf (eNot (eB (eCall Gis_cell (eCons (eV 0) (eCons (eV 1) eNil))))) (fun _ => none) sSkip)
noncomputable def Grefuse_off_floor : List D -> Option D := fnD 2 grefuse_off_floor
noncomputable def N_qd : List Str := ["solids", "eye", "cell"]
theorem sc_qd : FnScope N_qd ["solids", "eye", "cell"] (defScope s_qd) := ⟨rfl, rfl, rfl, by decide +kernel, rfl, by decide +kernel, by decide +kernel⟩
noncomputable def gdoes_spot : Rho -> Option Out :=
  (sSeq (sIf (eOr (eNot (eB (eCall Gis_ahead (eCons (eV 1) (eCons (eV 2) eNil))))) (eB (eOp dGt (eCall Gsquare_apart (eCons (eOp dIx (eV 1) (eC (.int 0))) (eCons (eV 2) eNil))) (eOp dMul2 (eOp dIx (eV 1) (eC (.int 2))) (eOp dIx (eV 1) (eC (.int 2))))))) (sRet (eC (.bool false))) sSkip)
  (sRet (eCall Gsee_each_other (eCons (eV 0) (eCons (eOp dIx (eV 1) (eC (.int 0))) (eCons (eV 2) eNil))))))
noncomputable def Gdoes_spot : List D -> Option D := fnD 3 gdoes_spot
noncomputable def N_qh : List Str := ["floor", "cell"]
theorem sc_qh : FnScope N_qh ["floor", "cell"] (defScope s_qh) := ⟨rfl, rfl, rfl, by decide +kernel, rfl, by decide +kernel, by decide +kernel⟩
noncomputable def gis_solid : Rho -> Option Out :=
  (sSeq (sDrop (eCall Grefuse_off_floor (eCons (eV 0) (eCons (eV 1) eNil))))
  (sRet (eOp (dIn false) (eV 1) (eOp dIx (eV 0) (eC (.int 2))))))
noncomputable def Gis_solid : List D -> Option D := fnD 2 gis_solid
noncomputable def N_q7 : List Str := ["solids", "eyes", "cell"]
theorem sc_q7 : FnScope N_q7 ["solids", "eyes", "cell"] (defScope s_q7) := ⟨rfl, rfl, rfl, by decide +kernel, rfl, by decide +kernel, by decide +kernel⟩
noncomputable def N_q7_c1 : List Str := ["number", "eye", "solids", "cell"]
theorem nd_q7_c1 : N_q7_c1.Nodup := by decide +kernel
noncomputable def gnumbers_on : Rho -> Option Out :=
  (sRet (eLc (eComp (iEnum (eCons (eV 1) eNil)) (uTup 2 (uCons (uName 0) (uCons (uName 1) uNil))) (eB (eCall Gdoes_spot (eCons (eV 2) (eCons (eV 1) (eCons (eV 3) eNil))))) (eV 0) [none, none, some 0, some 2])))
noncomputable def Gnumbers_on : List D -> Option D := fnD 3 gnumbers_on
noncomputable def N_q1 : List Str := ["floor", "cell"]
theorem sc_q1 : FnScope N_q1 ["floor", "cell"] (defScope s_q1) := ⟨rfl, rfl, rfl, by decide +kernel, rfl, by decide +kernel, by decide +kernel⟩
noncomputable def grefuse_not_open : Rho -> Option Out :=
  (sIf (eB (eCall Gis_solid (eCons (eV 0) (eCons (eV 1) eNil)))) (fun _ => none) sSkip)
noncomputable def Grefuse_not_open : List D -> Option D := fnD 2 grefuse_not_open
noncomputable def N_qg : List Str := ["floor", "cell", "solids"]
theorem sc_qg : FnScope N_qg ["floor", "cell"] (defScope s_qg) := ⟨rfl, rfl, rfl, by decide +kernel, rfl, by decide +kernel, by decide +kernel⟩
noncomputable def N_qg_c1 : List Str := ["other", "solids", "cell"]
theorem nd_qg_c1 : N_qg_c1.Nodup := by decide +kernel
noncomputable def gfield_of : Rho -> Option Out :=
  (sSeq (sDrop (eCall Grefuse_not_open (eCons (eV 0) (eCons (eV 1) eNil))))
  (sSeq (sSet 2 (eCall Gmarked (eCons (eOp dIx (eV 0) (eC (.int 2))) eNil)))
  (sRet (eLc (eComp (iSeq (eCall Gopen_cells (eCons (eV 0) eNil))) (uName 0) (eB (eCall Glets_see (eCons (eV 1) (eCons (eV 2) (eCons (eV 0) eNil))))) (eV 0) [none, some 2, some 1])))))
noncomputable def Gfield_of : List D -> Option D := fnD 3 gfield_of
noncomputable def N_q6 : List Str := ["floor", "eyes", "eye"]
theorem sc_q6 : FnScope N_q6 ["floor", "eyes"] (defScope s_q6) := ⟨rfl, rfl, rfl, by decide +kernel, rfl, by decide +kernel, by decide +kernel⟩
noncomputable def grefuse_eyes : Rho -> Option Out :=
  (sFor (iSeq (eV 1)) (uName 2) (sDrop (eCall Grefuse_not_open (eCons (eV 0) (eCons (eOp dIx (eV 2) (eC (.int 0))) eNil)))))
noncomputable def Grefuse_eyes : List D -> Option D := fnD 3 grefuse_eyes
noncomputable def N_qn : List Str := ["floor", "eye", "solids"]
theorem sc_qn : FnScope N_qn ["floor", "eye"] (defScope s_qn) := ⟨rfl, rfl, rfl, by decide +kernel, rfl, by decide +kernel, by decide +kernel⟩
noncomputable def N_qn_c1 : List Str := ["cell", "solids", "eye"]
theorem nd_qn_c1 : N_qn_c1.Nodup := by decide +kernel
noncomputable def gseen_by : Rho -> Option Out :=
  (sSeq (sDrop (eCall Grefuse_eyes (eCons (eV 0) (eCons (eLst (eCons (eV 1) eNil)) eNil))))
  (sSeq (sSet 2 (eCall Gmarked (eCons (eOp dIx (eV 0) (eC (.int 2))) eNil)))
  (sRet (eLc (eComp (iSeq (eCall Gopen_cells (eCons (eV 0) eNil))) (uName 0) (eB (eCall Gdoes_spot (eCons (eV 1) (eCons (eV 2) (eCons (eV 0) eNil))))) (eV 0) [none, some 2, some 1])))))
noncomputable def Gseen_by : List D -> Option D := fnD 3 gseen_by
noncomputable def N_ql : List Str := ["floor", "eyes", "cell"]
theorem sc_ql : FnScope N_ql ["floor", "eyes", "cell"] (defScope s_ql) := ⟨rfl, rfl, rfl, by decide +kernel, rfl, by decide +kernel, by decide +kernel⟩
noncomputable def geyes_on : Rho -> Option Out :=
  (sSeq (sDrop (eCall Grefuse_eyes (eCons (eV 0) (eCons (eV 1) eNil))))
  (sSeq (sDrop (eCall Grefuse_off_floor (eCons (eV 0) (eCons (eV 2) eNil))))
  (sRet (eCall Gnumbers_on (eCons (eCall Gmarked (eCons (eOp dIx (eV 0) (eC (.int 2))) eNil)) (eCons (eV 1) (eCons (eV 2) eNil)))))))
noncomputable def Geyes_on : List D -> Option D := fnD 3 geyes_on
noncomputable def N_qs : List Str := ["_law_script", "_law_floor_here", "_law_cells_here", "_law_own", "_law_far", "_law_eyes", "_law_turn", "_law_fields", "_law_cell_here", "_law_across", "_law_down", "_law_many", "_law_eye", "_law_field", "_law_farther", "_law_back"]
theorem sc_qs : FnScope N_qs ["_law_script"] (defScope s_qs) := ⟨rfl, rfl, rfl, by decide +kernel, rfl, by decide +kernel, by decide +kernel⟩
noncomputable def N_qs_c1 : List Str := ["_law_eye"]
theorem nd_qs_c1 : N_qs_c1.Nodup := by decide +kernel
noncomputable def N_qs_c2 : List Str := ["_law_eye", "_law_floor_here"]
theorem nd_qs_c2 : N_qs_c2.Nodup := by decide +kernel
noncomputable def N_qs_c3 : List Str := ["_law_field", "_law_cell_here"]
theorem nd_qs_c3 : N_qs_c3.Nodup := by decide +kernel
noncomputable def N_qs_c4 : List Str := ["_law_number", "_law_cell_here", "_law_fields"]
theorem nd_qs_c4 : N_qs_c4.Nodup := by decide +kernel
noncomputable def N_qs_c5 : List Str := ["_law_cell_here", "_law_farther"]
theorem nd_qs_c5 : N_qs_c5.Nodup := by decide +kernel
noncomputable def N_qs_c6 : List Str := ["_law_cell_here", "_law_own", "_law_floor_here", "_law_back", "_law_far"]
theorem nd_qs_c6 : N_qs_c6.Nodup := by decide +kernel
noncomputable def glaw : Rho -> Option Out :=
  (sSeq (sSet 1 (eCall G_law_floor (eCons (eV 0) (eCons (eC (.int 0)) (eCons (eC (.int 4)) eNil)))))
  (sSeq (sSet 2 (eCall G_law_open (eCons (eV 1) eNil)))
  (sSeq (sIf (eB (eOp dEq (eV 2) (eLst eNil))) (sRet (eC (.bool true))) sSkip)
  (sSeq (sSet 3 (eOp dIx (eV 2) (eCall G_law_drawn (eCons (eV 0) (eCons (eC (.int 60)) (eCons (eCall dLen (eCons (eV 2) eNil)) eNil))))))
  (sSeq (sSet 4 (eOp dAdd2 (eC (.int 1)) (eCall G_law_drawn (eCons (eV 0) (eCons (eC (.int 61)) (eCons (eC (.int 6)) eNil))))))
  (sSeq (sOwn 5 (eCons (eTup (eCons (eV 3) (eCons (eOp dIxS (eC (.str "nesw")) (eCall G_law_drawn (eCons (eV 0) (eCons (eC (.int 62)) (eCons (eC (.int 4)) eNil))))) (eCons (eV 4) eNil)))) eNil))
  (sSeq (sFor (iRng1 (eCons (eC (.int 3)) eNil)) (uName 6) (sAppB 5 (eCall Gturned (eCons (eOp dIx (eV 5) (eUn dNeg (eC (.int 1)))) eNil))))
  (sSeq (sIf (eOr (eB (eOp dNe (eCall Gturned (eCons (eOp dIx (eV 5) (eUn dNeg (eC (.int 1)))) eNil)) (eOp dIx (eV 5) (eC (.int 0))))) (eB (eOp dNe (eCall dSortS (eCons (eLc (eComp (iSeq (eV 5)) (uName 0) eT (eOp dIx (eV 0) (eC (.int 1))) [none])) eNil)) (eLst (eCons (eC (.str "e")) (eCons (eC (.str "n")) (eCons (eC (.str "s")) (eCons (eC (.str "w")) eNil)))))))) (sRet (eC (.bool false))) sSkip)
  (sFrz 5 (sSeq (sSet 7 (eLc (eComp (iSeq (eV 5)) (uName 0) eT (eCall Gseen_by (eCons (eV 1) (eCons (eV 0) eNil))) [none, some 1])))
  (sSeq (sFor (iSeq (eV 2)) (uName 8) (sSeq (sSet 9 (eCall dAbs (eCons (eOp dSub (eOp dIx (eV 8) (eC (.int 0))) (eOp dIx (eV 3) (eC (.int 0)))) eNil)))
  (sSeq (sSet 10 (eCall dAbs (eCons (eOp dSub (eOp dIx (eV 8) (eC (.int 1))) (eOp dIx (eV 3) (eC (.int 1)))) eNil)))
  (sSeq (sSet 11 (eC (.int 0)))
  (sSeq (sIf (eAnd (eB (eOp (dIn false) (eV 8) (eCall Gfield_of (eCons (eV 1) (eCons (eV 3) eNil))))) (eB (eOp dLe (eOp dAdd2 (eOp dMul2 (eV 9) (eV 9)) (eOp dMul2 (eV 10) (eV 10))) (eOp dMul2 (eV 4) (eV 4))))) (sSet 11 (eOp dAdd2 (eOp dAdd2 (eC (.int 1)) (eCall dInt (eCons (eOp dEq (eV 9) (eV 10)) eNil))) (eOp dMul2 (eC (.int 2)) (eCall dInt (eCons (eOp dEq (eV 8) (eV 3)) eNil))))) sSkip)
  (sSeq (sIf (eB (eOp dNe (eCall dLen (eCons (eLc (eComp (iSeq (eV 7)) (uName 0) (eB (eOp (dIn false) (eV 1) (eV 0))) (eV 0) [none, some 8])) eNil)) (eV 11))) (sRet (eC (.bool false))) sSkip)
  (sIf (eB (eOp dNe (eCall Geyes_on (eCons (eV 1) (eCons (eV 5) (eCons (eV 8) eNil)))) (eLc (eComp (iRng1 (eCons (eC (.int 4)) eNil)) (uName 0) (eB (eOp (dIn false) (eV 1) (eOp dIx (eV 2) (eV 0)))) (eV 0) [none, some 8, some 7])))) (sRet (eC (.bool false))) sSkip)))))))
  (sFrz 5 (sSeq (sFor (iZip (eCons (eV 5) (eCons (eV 7) eNil))) (uTup 2 (uCons (uName 12) (uCons (uName 13) uNil))) (sSeq (sSet 14 (eCall Gseen_by (eCons (eV 1) (eCons (eTup (eCons (eV 3) (eCons (eOp dIx (eV 12) (eC (.int 1))) (eCons (eOp dAdd2 (eV 4) (eC (.int 1))) eNil)))) eNil))))
  (sSeq (sIf (eB (eOp dNe (eLc (eComp (iSeq (eV 13)) (uName 0) (eB (eOp (dIn true) (eV 0) (eV 1))) (eV 0) [none, some 14])) (eLst eNil))) (sRet (eC (.bool false))) sSkip)
  (sSeq (sSet 15 (eOp dIx (eCall Gturned (eCons (eCall Gturned (eCons (eV 12) eNil)) eNil)) (eC (.int 1))))
  (sIf (eB (eOp dNe (eLc (eComp (iSeq (eV 13)) (uName 0) (eB (eOp (dIn true) (eV 1) (eCall Gseen_by (eCons (eV 2) (eCons (eTup (eCons (eV 0) (eCons (eV 3) (eCons (eV 4) eNil)))) eNil))))) (eV 0) [none, some 3, some 1, some 15, some 4])) (eLst eNil))) (sRet (eC (.bool false))) sSkip)))))
  (sRet (eC (.bool true))))))))))))))))
noncomputable def Glaw : List D -> Option D := fnD 16 glaw
structure Txt (K : PySem.W.Frag) (mg : Str -> Option Value) (f_qj : Addr) (fd_qj : FuncData) (f_qf : Addr) (fd_qf : FuncData) (f_qr : Addr) (fd_qr : FuncData) (f_qo : Addr) (fd_qo : FuncData) (f_q4 : Addr) (fd_q4 : FuncData) (f_q5 : Addr) (fd_q5 : FuncData) (f_qq : Addr) (fd_qq : FuncData) (f_qp : Addr) (fd_qp : FuncData) (f_qc : Addr) (fd_qc : FuncData) (f_q9 : Addr) (fd_q9 : FuncData) (f_q2 : Addr) (fd_q2 : FuncData) (f_qb : Addr) (fd_qb : FuncData) (f_qk : Addr) (fd_qk : FuncData) (f_qi : Addr) (fd_qi : FuncData) (f_qa : Addr) (fd_qa : FuncData) (f_qe : Addr) (fd_qe : FuncData) (f_qm : Addr) (fd_qm : FuncData) (f_q3 : Addr) (fd_q3 : FuncData) (f_q8 : Addr) (fd_q8 : FuncData) (f_q0 : Addr) (fd_q0 : FuncData) (f_qd : Addr) (fd_qd : FuncData) (f_qh : Addr) (fd_qh : FuncData) (f_q7 : Addr) (fd_q7 : FuncData) (f_q1 : Addr) (fd_q1 : FuncData) (f_qg : Addr) (fd_qg : FuncData) (f_q6 : Addr) (fd_q6 : FuncData) (f_qn : Addr) (fd_qn : FuncData) (f_ql : Addr) (fd_ql : FuncData) (f_qs : Addr) (fd_qs : FuncData) (w : World)  (ta_STEPS : Addr) (ta_RIGHT_OF : Addr) : Prop where
 F_qj : Fun K "is_whole" "is_whole" s_qj f_qj fd_qj
 m_qj : mg "is_whole" = some (.ref f_qj)
 b_qj : L2.Binds K fd_qj ["thing"] []
 F_qf : Fun K "all_cells" "all_cells" s_qf f_qf fd_qf
 m_qf : mg "all_cells" = some (.ref f_qf)
 b_qf : L2.Binds K fd_qf ["floor"] []
 F_qr : Fun K "marked" "marked" s_qr f_qr fd_qr
 m_qr : mg "marked" = some (.ref f_qr)
 b_qr : L2.Binds K fd_qr ["things"] []
 F_qo : Fun K "crossed" "crossed" s_qo f_qo fd_qo
 m_qo : mg "crossed" = some (.ref f_qo)
 b_qo : L2.Binds K fd_qo ["one", "other"] []
 F_q4 : Fun K "couples_beside" "couples_beside" s_q4 f_q4 fd_q4
 m_q4 : mg "couples_beside" = some (.ref f_q4)
 b_q4 : L2.Binds K fd_q4 ["cells"] []
 F_q5 : Fun K "square_apart" "square_apart" s_q5 f_q5 fd_q5
 m_q5 : mg "square_apart" = some (.ref f_q5)
 b_q5 : L2.Binds K fd_q5 ["one", "other"] []
 F_qq : Fun K "beside" "beside" s_qq f_qq fd_qq
 m_qq : mg "beside" = some (.ref f_qq)
 b_qq : L2.Binds K fd_qq ["cell", "word"] []
 F_qp : Fun K "turned" "turned" s_qp f_qp fd_qp
 m_qp : mg "turned" = some (.ref f_qp)
 b_qp : L2.Binds K fd_qp ["eye"] []
 F_qc : Fun K "_law_cell" "_law_cell" s_qc f_qc fd_qc
 m_qc : mg "_law_cell" = some (.ref f_qc)
 b_qc : L2.Binds K fd_qc ["_law_script", "_law_k"] []
 F_q9 : Fun K "_law_cells" "_law_cells" s_q9 f_q9 fd_q9
 m_q9 : mg "_law_cells" = some (.ref f_q9)
 b_q9 : L2.Binds K fd_q9 ["_law_floor_here"] []
 F_q2 : Fun K "is_whole_couple" "is_whole_couple" s_q2 f_q2 fd_q2
 m_q2 : mg "is_whole_couple" = some (.ref f_q2)
 b_q2 : L2.Binds K fd_q2 ["thing"] []
 F_qb : Fun K "open_cells" "open_cells" s_qb f_qb fd_qb
 m_qb : mg "open_cells" = some (.ref f_qb)
 b_qb : L2.Binds K fd_qb ["floor"] []
 F_qk : Fun K "lets_see" "lets_see" s_qk f_qk fd_qk
 m_qk : mg "lets_see" = some (.ref f_qk)
 b_qk : L2.Binds K fd_qk ["solids", "one", "other"] []
 F_qi : Fun K "is_ahead" "is_ahead" s_qi f_qi fd_qi
 m_qi : mg "is_ahead" = some (.ref f_qi)
 b_qi : L2.Binds K fd_qi ["eye", "cell"] []
 F_qa : Fun K "_law_drawn" "_law_drawn" s_qa f_qa fd_qa
 m_qa : mg "_law_drawn" = some (.ref f_qa)
 b_qa : L2.Binds K fd_qa ["_law_script", "_law_k", "_law_many"] []
 F_qe : Fun K "_law_open" "_law_open" s_qe f_qe fd_qe
 m_qe : mg "_law_open" = some (.ref f_qe)
 b_qe : L2.Binds K fd_qe ["_law_floor_here"] []
 F_qm : Fun K "is_cell" "is_cell" s_qm f_qm fd_qm
 m_qm : mg "is_cell" = some (.ref f_qm)
 b_qm : L2.Binds K fd_qm ["floor", "thing"] []
 F_q3 : Fun K "see_each_other" "see_each_other" s_q3 f_q3 fd_q3
 m_q3 : mg "see_each_other" = some (.ref f_q3)
 b_q3 : L2.Binds K fd_q3 ["solids", "one", "other"] []
 F_q8 : Fun K "_law_floor" "_law_floor" s_q8 f_q8 fd_q8
 m_q8 : mg "_law_floor" = some (.ref f_q8)
 b_q8 : L2.Binds K fd_q8 ["_law_script", "_law_at", "_law_most"] []
 F_q0 : Fun K "refuse_off_floor" "refuse_off_floor" s_q0 f_q0 fd_q0
 m_q0 : mg "refuse_off_floor" = some (.ref f_q0)
 b_q0 : L2.Binds K fd_q0 ["floor", "cell"] []
 F_qd : Fun K "does_spot" "does_spot" s_qd f_qd fd_qd
 m_qd : mg "does_spot" = some (.ref f_qd)
 b_qd : L2.Binds K fd_qd ["solids", "eye", "cell"] []
 F_qh : Fun K "is_solid" "is_solid" s_qh f_qh fd_qh
 m_qh : mg "is_solid" = some (.ref f_qh)
 b_qh : L2.Binds K fd_qh ["floor", "cell"] []
 F_q7 : Fun K "numbers_on" "numbers_on" s_q7 f_q7 fd_q7
 m_q7 : mg "numbers_on" = some (.ref f_q7)
 b_q7 : L2.Binds K fd_q7 ["solids", "eyes", "cell"] []
 F_q1 : Fun K "refuse_not_open" "refuse_not_open" s_q1 f_q1 fd_q1
 m_q1 : mg "refuse_not_open" = some (.ref f_q1)
 b_q1 : L2.Binds K fd_q1 ["floor", "cell"] []
 F_qg : Fun K "field_of" "field_of" s_qg f_qg fd_qg
 m_qg : mg "field_of" = some (.ref f_qg)
 b_qg : L2.Binds K fd_qg ["floor", "cell"] []
 F_q6 : Fun K "refuse_eyes" "refuse_eyes" s_q6 f_q6 fd_q6
 m_q6 : mg "refuse_eyes" = some (.ref f_q6)
 b_q6 : L2.Binds K fd_q6 ["floor", "eyes"] []
 F_qn : Fun K "seen_by" "seen_by" s_qn f_qn fd_qn
 m_qn : mg "seen_by" = some (.ref f_qn)
 b_qn : L2.Binds K fd_qn ["floor", "eye"] []
 F_ql : Fun K "eyes_on" "eyes_on" s_ql f_ql fd_ql
 m_ql : mg "eyes_on" = some (.ref f_ql)
 b_ql : L2.Binds K fd_ql ["floor", "eyes", "cell"] []
 F_qs : Fun K "law" "law" s_qs f_qs fd_qs
 m_qs : mg "law" = some (.ref f_qs)
 b_qs : L2.Binds K fd_qs ["_law_script"] []
 z_isinstance : mg "isinstance" = none
 z_int : mg "int" = none
 z_bool : mg "bool" = none
 z_range : mg "range" = none
 z_dict : mg "dict" = none
 z_abs : mg "abs" = none
 z_zip : mg "zip" = none
 z_sorted : mg "sorted" = none
 z_tuple : mg "tuple" = none
 z_len : mg "len" = none
 z_set : mg "set" = none
 z_enumerate : mg "enumerate" = none
 tm_STEPS : mg "STEPS" = some (.ref ta_STEPS)
 tt_STEPS : Tab K w ta_STEPS tb_STEPS
 tm_RIGHT_OF : mg "RIGHT_OF" = some (.ref ta_RIGHT_OF)
 tt_RIGHT_OF : Tab K w ta_RIGHT_OF tb_RIGHT_OF
section
variable {P : Program} {w : World} {K : PySem.W.Frag} {mg : Str -> Option Value} {base : Heap} {f_qj : Addr} {fd_qj : FuncData} {f_qf : Addr} {fd_qf : FuncData} {f_qr : Addr} {fd_qr : FuncData} {f_qo : Addr} {fd_qo : FuncData} {f_q4 : Addr} {fd_q4 : FuncData} {f_q5 : Addr} {fd_q5 : FuncData} {f_qq : Addr} {fd_qq : FuncData} {f_qp : Addr} {fd_qp : FuncData} {f_qc : Addr} {fd_qc : FuncData} {f_q9 : Addr} {fd_q9 : FuncData} {f_q2 : Addr} {fd_q2 : FuncData} {f_qb : Addr} {fd_qb : FuncData} {f_qk : Addr} {fd_qk : FuncData} {f_qi : Addr} {fd_qi : FuncData} {f_qa : Addr} {fd_qa : FuncData} {f_qe : Addr} {fd_qe : FuncData} {f_qm : Addr} {fd_qm : FuncData} {f_q3 : Addr} {fd_q3 : FuncData} {f_q8 : Addr} {fd_q8 : FuncData} {f_q0 : Addr} {fd_q0 : FuncData} {f_qd : Addr} {fd_qd : FuncData} {f_qh : Addr} {fd_qh : FuncData} {f_q7 : Addr} {fd_q7 : FuncData} {f_q1 : Addr} {fd_q1 : FuncData} {f_qg : Addr} {fd_qg : FuncData} {f_q6 : Addr} {fd_q6 : FuncData} {f_qn : Addr} {fd_qn : FuncData} {f_ql : Addr} {fd_ql : FuncData} {f_qs : Addr} {fd_qs : FuncData}  {ta_STEPS : Addr} {ta_RIGHT_OF : Addr}
variable (T : Txt K mg f_qj fd_qj f_qf fd_qf f_qr fd_qr f_qo fd_qo f_q4 fd_q4 f_q5 fd_q5 f_qq fd_qq f_qp fd_qp f_qc fd_qc f_q9 fd_q9 f_q2 fd_q2 f_qb fd_qb f_qk fd_qk f_qi fd_qi f_qa fd_qa f_qe fd_qe f_qm fd_qm f_q3 fd_q3 f_q8 fd_q8 f_q0 fd_q0 f_qd fd_qd f_qh fd_qh f_q7 fd_q7 f_q1 fd_q1 f_qg fd_qg f_q6 fd_q6 f_qn fd_qn f_ql fd_ql f_qs fd_qs w  ta_STEPS ta_RIGHT_OF)
include T
theorem ok_qj  : FnOk P w K mg base CX0 1 f_qj fd_qj ["thing"] (spD K 1 Gis_whole) := by
 refine fn_D2 (g := gis_whole) (G := Gis_whole) (N := N_qj) (k := 0) rfl rfl rfl T.F_qj sc_qj fun cdv A outer s H E hr => ?_
 exact (dss_one (ds_ret (de_and (de_isinst (T := "int") (.inr (.inr (.inl rfl))) rfl T.z_isinstance rfl T.z_int boot_int (by decide) (de_var 0)) (de_one (de_not (de_isinst (T := "bool") (.inr (.inr (.inr (.inl rfl)))) rfl T.z_isinstance rfl T.z_bool boot_bool (by decide) (de_var 0)))))))
theorem ok_qf  : FnOk P w K mg base CX0 1 f_qf fd_qf ["floor"] (spD K 1 Gall_cells) := by
 refine fn_D2 (g := gall_cells) (G := Gall_cells) (N := N_qf) (k := 0) rfl rfl rfl T.F_qf sc_qf fun cdv A outer s H E hr => ?_
 exact (dss_cons (ds_own (i := 1) sc_qf.nd da_nil)
  (dss_cons (ds_for PassesOwn.never rfl (di_irng1 rfl T.z_range (@da_cons2 _ _ _ _ _ (de_ix ixd (de_var 0) de_int) da_nil rfl)) (dg_name (i := 2) sc_qf.nd) (dss_one (ds_ext (i := 1) (de_comp rfl (compScope_mk (N' := N_qf_c1) (inner := [none, some 2]) (defScope s_qf) N_qf rfl rfl (by decide +kernel)) (kp_name 0) (di_irng1 rfl T.z_range (@da_cons2 _ _ _ _ _ (de_ix ixd (de_var 0) de_int) da_nil rfl)) (fun _ _ _ _ _ => (dg_name (i := 0) nd_qf_c1)) (fun _ _ _ _ _ => dts_nil) (fun _ _ _ _ _ => (@de_tup _ _ _ _ _ (@da_cons2 _ _ _ _ _ (de_var 1) (@da_cons2 _ _ _ _ _ (de_var 0) da_nil rfl) rfl)))))))
  (dss_one (ds_ret (de_var 1)))))
theorem ok_qr  : FnOk P w K mg base CX0 1 f_qr fd_qr ["things"] (spD K 1 Gmarked) := by
 refine fn_D2 (g := gmarked) (G := Gmarked) (N := N_qr) (k := 0) rfl rfl rfl T.F_qr sc_qr fun cdv A outer s H E hr => ?_
 exact (dss_one (ds_ret (de_callTy (cd_dict rfl (u66 hr)) rfl T.z_dict DC.boot_dict (@da_cons2 _ _ _ _ _ (de_comp rfl (compScope_mk (N' := N_qr_c1) (inner := [none]) (defScope s_qr) N_qr rfl rfl (by decide +kernel)) (kp_name 0) (di_iseq (de_var 0)) (fun _ _ _ _ _ => (dg_name (i := 0) nd_qr_c1)) (fun _ _ _ _ _ => dts_nil) (fun _ _ _ _ _ => (@de_tup _ _ _ _ _ (@da_cons2 _ _ _ _ _ (de_var 0) (@da_cons2 _ _ _ _ _ de_bl da_nil rfl) rfl)))) da_nil rfl))))
theorem ok_qo  : FnOk P w K mg base CX0 1 f_qo fd_qo ["one", "other"] (spD K 2 Gcrossed) := by
 refine fn_D2 (g := gcrossed) (G := Gcrossed) (N := N_qo) (k := 0) rfl rfl rfl T.F_qo sc_qo fun cdv A outer s H E hr => ?_
 exact (dss_cons (ds_set (i := 2) sc_qo.nd (de_callB cd_abs rfl T.z_abs boot_abs (@da_cons2 _ _ _ _ _ (de_op opd_sub (de_ix ixd (de_var 1) de_int) (de_ix ixd (de_var 0) de_int)) da_nil rfl)))
  (dss_cons (ds_set (i := 3) sc_qo.nd (de_callB cd_abs rfl T.z_abs boot_abs (@da_cons2 _ _ _ _ _ (de_op opd_sub (de_ix ixd (de_var 1) de_int) (de_ix ixd (de_var 0) de_int)) da_nil rfl)))
  (dss_cons (ds_set (i := 4) sc_qo.nd (de_if (dt_cmp opd_gt (de_ix ixd (de_var 1) de_int) (de_ix ixd (de_var 0) de_int) (nomark _)) de_int (de_un und_neg de_int)))
  (dss_cons (ds_set (i := 5) sc_qo.nd (de_if (dt_cmp opd_gt (de_ix ixd (de_var 1) de_int) (de_ix ixd (de_var 0) de_int) (nomark _)) de_int (de_un und_neg de_int)))
  (dss_cons (ds_set (i := 6) sc_qo.nd de_int)
  (dss_cons (ds_set (i := 7) sc_qo.nd de_int)
  (dss_cons (ds_own (i := 8) sc_qo.nd (@da_cons2 _ _ _ _ _ (de_var 0) da_nil rfl))
  (dss_cons (ds_while 900 PassesOwn.never (dw_t (dw_or (dt_cmp (opd_lt2 (u64 hr)) (de_var 6) (de_var 2) (nomark _)) (dw_or1 (dt_cmp (opd_lt2 (u64 hr)) (de_var 7) (de_var 3) (nomark _))))) (dss_cons (ds_set (i := 9) sc_qo.nd (de_op opd_mul2 (de_op opd_add2 (de_op opd_mul2 de_int (de_var 6)) de_int) (de_var 3)))
  (dss_cons (ds_set (i := 10) sc_qo.nd (de_op opd_mul2 (de_op opd_add2 (de_op opd_mul2 de_int (de_var 7)) de_int) (de_var 2)))
  (dss_cons (ds_if (dt_cmp opd_le (de_var 9) (de_var 10) (nomark _)) (dss_one (ds_set (i := 6) sc_qo.nd (de_op opd_add2 (de_var 6) de_int))) dss_nil)
  (dss_cons (ds_if (dt_cmp opd_le (de_var 10) (de_var 9) (nomark _)) (dss_one (ds_set (i := 7) sc_qo.nd (de_op opd_add2 (de_var 7) de_int))) dss_nil)
  (dss_one (ds_app (i := 8) (@de_tup _ _ _ _ _ (@da_cons2 _ _ _ _ _ (de_op opd_add2 (de_ix ixd (de_var 0) de_int) (de_op opd_mul2 (de_var 4) (de_var 6))) (@da_cons2 _ _ _ _ _ (de_op opd_add2 (de_ix ixd (de_var 0) de_int) (de_op opd_mul2 (de_var 5) (de_var 7))) da_nil rfl) rfl)))))))))
  (dss_one (ds_ret (de_var 8)))))))))))
theorem ok_q4  : FnOk P w K mg base CX0 1 f_q4 fd_q4 ["cells"] (spD K 1 Gcouples_beside) := by
 refine fn_D2 (g := gcouples_beside) (G := Gcouples_beside) (N := N_q4) (k := 0) rfl rfl rfl T.F_q4 sc_q4 fun cdv A outer s H E hr => ?_
 exact (dss_cons (ds_own (i := 1) sc_q4.nd da_nil)
  (dss_cons (ds_for PassesOwn.never rfl (di_izip rfl T.z_zip (@da_cons2 _ _ _ _ _ (de_var 0) (@da_cons2 _ _ _ _ _ (de_slice2 (de_var 0) (do_some de_int) do_none) da_nil rfl) rfl)) (dg_tup rfl (dgs_cons (dg_name (i := 2) sc_q4.nd) (dgs_cons (dg_name (i := 3) sc_q4.nd) dgs_nil))) (dss_one (ds_if (dw_t (dw_and (dt_cmp (opd_ne (u64 hr)) (de_ix ixd (de_var 2) de_int) (de_ix ixd (de_var 3) de_int) (nomark _)) (dw_and1 (dt_cmp (opd_ne (u64 hr)) (de_ix ixd (de_var 2) de_int) (de_ix ixd (de_var 3) de_int) (nomark _))))) (dss_one (ds_app (i := 1) (de_callTy cd_tuple rfl T.z_tuple boot_tuple (@da_cons2 _ _ _ _ _ (de_callB (cd_sorted (u66 hr)) rfl T.z_sorted boot_sorted (@da_cons2 _ _ _ _ _ (@de_lst _ _ _ _ (@da_cons2 _ _ _ _ _ (@de_tup _ _ _ _ _ (@da_cons2 _ _ _ _ _ (de_ix ixd (de_var 2) de_int) (@da_cons2 _ _ _ _ _ (de_ix ixd (de_var 3) de_int) da_nil rfl) rfl)) (@da_cons2 _ _ _ _ _ (@de_tup _ _ _ _ _ (@da_cons2 _ _ _ _ _ (de_ix ixd (de_var 3) de_int) (@da_cons2 _ _ _ _ _ (de_ix ixd (de_var 2) de_int) da_nil rfl) rfl)) da_nil rfl) rfl)) da_nil rfl)) da_nil rfl)))) dss_nil)))
  (dss_one (ds_ret (de_var 1)))))
theorem ok_q5  : FnOk P w K mg base CX0 1 f_q5 fd_q5 ["one", "other"] (spD K 2 Gsquare_apart) := by
 refine fn_D2 (g := gsquare_apart) (G := Gsquare_apart) (N := N_q5) (k := 0) rfl rfl rfl T.F_q5 sc_q5 fun cdv A outer s H E hr => ?_
 exact (dss_one (ds_ret (de_op opd_add2 (de_op opd_pow (de_op opd_sub (de_ix ixd (de_var 0) de_int) (de_ix ixd (de_var 1) de_int)) de_int) (de_op opd_pow (de_op opd_sub (de_ix ixd (de_var 0) de_int) (de_ix ixd (de_var 1) de_int)) de_int))))
theorem ok_qq  : FnOk P w K mg base CX0 1 f_qq fd_qq ["cell", "word"] (spD K 2 Gbeside) := by
 refine fn_D2 (g := gbeside) (G := Gbeside) (N := N_qq) (k := 0) rfl rfl rfl T.F_qq sc_qq fun cdv A outer s H E hr => ?_
 exact (dss_one (ds_ret (@de_tup _ _ _ _ _ (@da_cons2 _ _ _ _ _ (de_op opd_add2 (de_ix ixd (de_var 0) de_int) (de_ix ixd (de_tab rfl T.tm_STEPS T.tt_STEPS (de_var 1)) de_int)) (@da_cons2 _ _ _ _ _ (de_op opd_add2 (de_ix ixd (de_var 0) de_int) (de_ix ixd (de_tab rfl T.tm_STEPS T.tt_STEPS (de_var 1)) de_int)) da_nil rfl) rfl))))
theorem ok_qp  : FnOk P w K mg base CX0 1 f_qp fd_qp ["eye"] (spD K 1 Gturned) := by
 refine fn_D2 (g := gturned) (G := Gturned) (N := N_qp) (k := 0) rfl rfl rfl T.F_qp sc_qp fun cdv A outer s H E hr => ?_
 exact (dss_one (ds_ret (@de_tup _ _ _ _ _ (@da_cons2 _ _ _ _ _ (de_ix ixd (de_var 0) de_int) (@da_cons2 _ _ _ _ _ (de_tab rfl T.tm_RIGHT_OF T.tt_RIGHT_OF (de_ix ixd (de_var 0) de_int)) (@da_cons2 _ _ _ _ _ (de_ix ixd (de_var 0) de_int) da_nil rfl) rfl) rfl))))
theorem ok_qc  : FnOk P w K mg base CX0 1 f_qc fd_qc ["_law_script", "_law_k"] (spD K 2 G_law_cell) := by
 refine fn_D2 (g := g_law_cell) (G := G_law_cell) (N := N_qc) (k := 0) rfl rfl rfl T.F_qc sc_qc fun cdv A outer s H E hr => ?_
 exact (dss_cons (ds_if (dt_cmp (opd_eq (u64 hr)) (de_var 0) (@de_lst _ _ _ _ da_nil) (nomark _)) (dss_one (ds_ret (de_op opd_mul2 de_int (de_var 1)))) dss_nil)
  (dss_one (ds_ret (de_op opd_add2 (de_ix ixd (de_var 0) (de_op opd_mod (de_var 1) (de_callB cd_len rfl T.z_len PySem.boot_len (@da_cons2 _ _ _ _ _ (de_var 0) da_nil rfl)))) (de_op opd_mul2 de_int (de_op opd_fdiv (de_var 1) (de_callB cd_len rfl T.z_len PySem.boot_len (@da_cons2 _ _ _ _ _ (de_var 0) da_nil rfl))))))))
theorem ok_q9  : FnOk P w K mg base CX0 1 f_q9 fd_q9 ["_law_floor_here"] (spD K 1 G_law_cells) := by
 refine fn_D2 (g := g_law_cells) (G := G_law_cells) (N := N_q9) (k := 0) rfl rfl rfl T.F_q9 sc_q9 fun cdv A outer s H E hr => ?_
 exact (dss_one (ds_ret (de_comp rfl (compScope_mk (N' := N_q9_c1) (inner := [none, some 0]) (defScope s_q9) N_q9 rfl rfl (by decide +kernel)) (kp_name 0) (di_irng1 rfl T.z_range (@da_cons2 _ _ _ _ _ (de_op opd_mul2 (de_ix ixd (de_var 0) de_int) (de_ix ixd (de_var 0) de_int)) da_nil rfl)) (fun _ _ _ _ _ => (dg_name (i := 0) nd_q9_c1)) (fun _ _ _ _ _ => dts_nil) (fun _ _ _ _ _ => (@de_tup _ _ _ _ _ (@da_cons2 _ _ _ _ _ (de_op opd_fdiv (de_var 0) (de_ix ixd (de_var 1) de_int)) (@da_cons2 _ _ _ _ _ (de_op opd_mod (de_var 0) (de_ix ixd (de_var 1) de_int)) da_nil rfl) rfl))))))
theorem ok_q2 (G_qj : FnOk P w K mg base CX0 1 f_qj fd_qj ["thing"] (spD K 1 Gis_whole)) : FnOk P w K mg base CX0 2 f_q2 fd_q2 ["thing"] (spD K 1 Gis_whole_couple) := by
 refine fn_D2 (g := gis_whole_couple) (G := Gis_whole_couple) (N := N_q2) (k := 1) rfl rfl rfl T.F_q2 sc_q2 fun cdv A outer s H E hr => ?_
 exact (dss_cons (ds_if (dw_t (dw_or (dt_not (dt_val (de_isinst (T := "tuple") (.inr (.inl rfl)) rfl T.z_isinstance rfl T.z_tuple boot_tuple (by decide) (de_var 0)))) (dw_or1 (dt_cmp (opd_ne (u64 hr)) (de_callB cd_len rfl T.z_len PySem.boot_len (@da_cons2 _ _ _ _ _ (de_var 0) da_nil rfl)) de_int (nomark _))))) (dss_one (ds_ret de_bl)) dss_nil)
  (dss_one (ds_ret (de_and (de_call G_qj (hr.mono (by decide)) rfl T.m_qj T.F_qj.kp T.b_qj (@da_cons2 _ _ _ _ _ (de_ix ixd (de_var 0) de_int) da_nil rfl) (eCons_len (fun _ _ h => eNil_len h))) (de_one (de_call G_qj (hr.mono (by decide)) rfl T.m_qj T.F_qj.kp T.b_qj (@da_cons2 _ _ _ _ _ (de_ix ixd (de_var 0) de_int) da_nil rfl) (eCons_len (fun _ _ h => eNil_len h))))))))
theorem ok_qb (G_qf : FnOk P w K mg base CX0 1 f_qf fd_qf ["floor"] (spD K 1 Gall_cells)) : FnOk P w K mg base CX0 2 f_qb fd_qb ["floor"] (spD K 1 Gopen_cells) := by
 refine fn_D2 (g := gopen_cells) (G := Gopen_cells) (N := N_qb) (k := 1) rfl rfl rfl T.F_qb sc_qb fun cdv A outer s H E hr => ?_
 exact (dss_one (ds_ret (de_sortset rfl (u66 hr) rfl T.z_sorted boot_sorted (dsv_diff rfl (u66 hr) (dst_set rfl (u64 hr) rfl T.z_set boot_set (@da_cons2 _ _ _ _ _ (de_call G_qf (hr.mono (by decide)) rfl T.m_qf T.F_qf.kp T.b_qf (@da_cons2 _ _ _ _ _ (de_var 0) da_nil rfl) (eCons_len (fun _ _ h => eNil_len h))) da_nil rfl)) (dst_set rfl (u64 hr) rfl T.z_set boot_set (@da_cons2 _ _ _ _ _ (de_ix ixd (de_var 0) de_int) da_nil rfl))))))
theorem ok_qk (G_qo : FnOk P w K mg base CX0 1 f_qo fd_qo ["one", "other"] (spD K 2 Gcrossed)) (G_q4 : FnOk P w K mg base CX0 1 f_q4 fd_q4 ["cells"] (spD K 1 Gcouples_beside)) : FnOk P w K mg base CX0 2 f_qk fd_qk ["solids", "one", "other"] (spD K 3 Glets_see) := by
 refine fn_D2 (g := glets_see) (G := Glets_see) (N := N_qk) (k := 1) rfl rfl rfl T.F_qk sc_qk fun cdv A outer s H E hr => ?_
 exact (dss_cons (ds_set (i := 3) sc_qk.nd (de_call G_qo (hr.mono (by decide)) rfl T.m_qo T.F_qo.kp T.b_qo (@da_cons2 _ _ _ _ _ (de_var 1) (@da_cons2 _ _ _ _ _ (de_var 2) da_nil rfl) rfl) (eCons_len (eCons_len (fun _ _ h => eNil_len h)))))
  (dss_cons (ds_for PassesOwn.never rfl (di_iseq (de_slice2 (de_var 3) do_none (do_some (de_un und_neg de_int)))) (dg_name (i := 4) sc_qk.nd) (dss_one (ds_if (dt_cmp (opd_in2 (u65 hr)) (de_var 4) (de_var 0) (by with_unfolding_all rfl)) (dss_one (ds_ret de_bl)) dss_nil)))
  (dss_cons (ds_for PassesOwn.never rfl (di_iseq (de_call G_q4 (hr.mono (by decide)) rfl T.m_q4 T.F_q4.kp T.b_q4 (@da_cons2 _ _ _ _ _ (de_var 3) da_nil rfl) (eCons_len (fun _ _ h => eNil_len h)))) (dg_tup rfl (dgs_cons (dg_name (i := 5) sc_qk.nd) (dgs_cons (dg_name (i := 6) sc_qk.nd) dgs_nil))) (dss_one (ds_if (dw_t (dw_and (dt_cmp (opd_in2 (u65 hr)) (de_var 5) (de_var 0) (by with_unfolding_all rfl)) (dw_and1 (dt_cmp (opd_in2 (u65 hr)) (de_var 6) (de_var 0) (by with_unfolding_all rfl))))) (dss_one (ds_ret de_bl)) dss_nil)))
  (dss_one (ds_ret de_bl)))))
theorem ok_qi (G_qq : FnOk P w K mg base CX0 1 f_qq fd_qq ["cell", "word"] (spD K 2 Gbeside)) : FnOk P w K mg base CX0 2 f_qi fd_qi ["eye", "cell"] (spD K 2 Gis_ahead) := by
 refine fn_D2 (g := gis_ahead) (G := Gis_ahead) (N := N_qi) (k := 1) rfl rfl rfl T.F_qi sc_qi fun cdv A outer s H E hr => ?_
 exact (dss_cons (ds_set (i := 2) sc_qi.nd (de_call G_qq (hr.mono (by decide)) rfl T.m_qq T.F_qq.kp T.b_qq (@da_cons2 _ _ _ _ _ (@de_tup _ _ _ _ _ (@da_cons2 _ _ _ _ _ de_int (@da_cons2 _ _ _ _ _ de_int da_nil rfl) rfl)) (@da_cons2 _ _ _ _ _ (de_ix ixd (de_var 0) de_int) da_nil rfl) rfl) (eCons_len (eCons_len (fun _ _ h => eNil_len h)))))
  (dss_cons (ds_set (i := 3) sc_qi.nd (de_op opd_sub (de_ix ixd (de_var 1) de_int) (de_ix ixd (de_ix ixd (de_var 0) de_int) de_int)))
  (dss_cons (ds_set (i := 4) sc_qi.nd (de_op opd_sub (de_ix ixd (de_var 1) de_int) (de_ix ixd (de_ix ixd (de_var 0) de_int) de_int)))
  (dss_one (ds_ret (de_cmp opd_le (de_callB cd_abs rfl T.z_abs boot_abs (@da_cons2 _ _ _ _ _ (de_op opd_sub (de_op opd_mul2 (de_var 3) (de_ix ixd (de_var 2) de_int)) (de_op opd_mul2 (de_var 4) (de_ix ixd (de_var 2) de_int))) da_nil rfl)) (de_op opd_add2 (de_op opd_mul2 (de_var 3) (de_ix ixd (de_var 2) de_int)) (de_op opd_mul2 (de_var 4) (de_ix ixd (de_var 2) de_int))) (nomark _)))))))
theorem ok_qa (G_qc : FnOk P w K mg base CX0 1 f_qc fd_qc ["_law_script", "_law_k"] (spD K 2 G_law_cell)) : FnOk P w K mg base CX0 2 f_qa fd_qa ["_law_script", "_law_k", "_law_many"] (spD K 3 G_law_drawn) := by
 refine fn_D2 (g := g_law_drawn) (G := G_law_drawn) (N := N_qa) (k := 1) rfl rfl rfl T.F_qa sc_qa fun cdv A outer s H E hr => ?_
 exact (dss_cons (ds_set (i := 3) sc_qa.nd (de_op opd_mod (de_op opd_add2 (de_op opd_mul2 (de_op opd_mod (de_call G_qc (hr.mono (by decide)) rfl T.m_qc T.F_qc.kp T.b_qc (@da_cons2 _ _ _ _ _ (de_var 0) (@da_cons2 _ _ _ _ _ (de_var 1) da_nil rfl) rfl) (eCons_len (eCons_len (fun _ _ h => eNil_len h)))) de_int) de_int) (de_op opd_mul2 de_int (de_op opd_add2 (de_var 1) de_int))) de_int))
  (dss_cons (ds_set (i := 3) sc_qa.nd (de_op opd_mod (de_op opd_add2 (de_op opd_mul2 (de_var 3) (de_var 3)) (de_op opd_fdiv (de_var 3) de_int)) de_int))
  (dss_one (ds_ret (de_op opd_mod (de_op opd_fdiv (de_op opd_mod (de_op opd_add2 (de_op opd_mul2 (de_var 3) (de_var 3)) (de_op opd_fdiv (de_var 3) de_int)) de_int) de_int) (de_var 2))))))
theorem ok_qe (G_q9 : FnOk P w K mg base CX0 1 f_q9 fd_q9 ["_law_floor_here"] (spD K 1 G_law_cells)) : FnOk P w K mg base CX0 2 f_qe fd_qe ["_law_floor_here"] (spD K 1 G_law_open) := by
 refine fn_D2 (g := g_law_open) (G := G_law_open) (N := N_qe) (k := 1) rfl rfl rfl T.F_qe sc_qe fun cdv A outer s H E hr => ?_
 exact (dss_one (ds_ret (de_comp rfl (compScope_mk (N' := N_qe_c1) (inner := [none, some 0]) (defScope s_qe) N_qe rfl rfl (by decide +kernel)) (kp_name 0) (di_iseq (de_call G_q9 (hr.mono (by decide)) rfl T.m_q9 T.F_q9.kp T.b_q9 (@da_cons2 _ _ _ _ _ (de_var 0) da_nil rfl) (eCons_len (fun _ _ h => eNil_len h)))) (fun _ _ _ _ _ => (dg_name (i := 0) nd_qe_c1)) (fun _ _ _ _ _ => (dts_one (dt_cmp (opd_notin (u65 hr)) (de_var 0) (de_ix ixd (de_var 1) de_int) (by with_unfolding_all rfl)))) (fun _ _ _ _ _ => (de_var 0)))))
theorem ok_qm (G_q2 : FnOk P w K mg base CX0 2 f_q2 fd_q2 ["thing"] (spD K 1 Gis_whole_couple)) : FnOk P w K mg base CX0 3 f_qm fd_qm ["floor", "thing"] (spD K 2 Gis_cell) := by
 refine fn_D2 (g := gis_cell) (G := Gis_cell) (N := N_qm) (k := 2) rfl rfl rfl T.F_qm sc_qm fun cdv A outer s H E hr => ?_
 exact (dss_cons (ds_if (dt_not (dt_val (de_call G_q2 (hr.mono (by decide)) rfl T.m_q2 T.F_q2.kp T.b_q2 (@da_cons2 _ _ _ _ _ (de_var 1) da_nil rfl) (eCons_len (fun _ _ h => eNil_len h))))) (dss_one (ds_ret de_bl)) dss_nil)
  (dss_one (ds_ret (de_and (de_chain opd_le (opd_lt2 (u64 hr)) de_int (de_ix ixd (de_var 1) de_int) (de_ix ixd (de_var 0) de_int)) (de_one (de_chain opd_le (opd_lt2 (u64 hr)) de_int (de_ix ixd (de_var 1) de_int) (de_ix ixd (de_var 0) de_int)))))))
theorem ok_q3 (G_qk : FnOk P w K mg base CX0 2 f_qk fd_qk ["solids", "one", "other"] (spD K 3 Glets_see)) : FnOk P w K mg base CX0 3 f_q3 fd_q3 ["solids", "one", "other"] (spD K 3 Gsee_each_other) := by
 refine fn_D2 (g := gsee_each_other) (G := Gsee_each_other) (N := N_q3) (k := 2) rfl rfl rfl T.F_q3 sc_q3 fun cdv A outer s H E hr => ?_
 exact (dss_one (ds_ret (de_and (de_cmp (opd_notin2 (u65 hr)) (de_var 2) (de_var 0) (by with_unfolding_all rfl)) (de_one (de_call G_qk (hr.mono (by decide)) rfl T.m_qk T.F_qk.kp T.b_qk (@da_cons2 _ _ _ _ _ (de_var 0) (@da_cons2 _ _ _ _ _ (de_var 1) (@da_cons2 _ _ _ _ _ (de_var 2) da_nil rfl) rfl) rfl) (eCons_len (eCons_len (eCons_len (fun _ _ h => eNil_len h)))))))))
theorem ok_q8 (G_qa : FnOk P w K mg base CX0 2 f_qa fd_qa ["_law_script", "_law_k", "_law_many"] (spD K 3 G_law_drawn)) : FnOk P w K mg base CX0 3 f_q8 fd_q8 ["_law_script", "_law_at", "_law_most"] (spD K 3 G_law_floor) := by
 refine fn_D2 (g := g_law_floor) (G := G_law_floor) (N := N_q8) (k := 2) rfl rfl rfl T.F_q8 sc_q8 fun cdv A outer s H E hr => ?_
 exact (dss_cons (ds_set (i := 3) sc_q8.nd (de_op opd_add2 de_int (de_call G_qa (hr.mono (by decide)) rfl T.m_qa T.F_qa.kp T.b_qa (@da_cons2 _ _ _ _ _ (de_var 0) (@da_cons2 _ _ _ _ _ (de_var 1) (@da_cons2 _ _ _ _ _ (de_var 2) da_nil rfl) rfl) rfl) (eCons_len (eCons_len (eCons_len (fun _ _ h => eNil_len h)))))))
  (dss_cons (ds_set (i := 4) sc_q8.nd (de_op opd_add2 de_int (de_call G_qa (hr.mono (by decide)) rfl T.m_qa T.F_qa.kp T.b_qa (@da_cons2 _ _ _ _ _ (de_var 0) (@da_cons2 _ _ _ _ _ (de_op opd_add2 (de_var 1) de_int) (@da_cons2 _ _ _ _ _ (de_var 2) da_nil rfl) rfl) rfl) (eCons_len (eCons_len (eCons_len (fun _ _ h => eNil_len h)))))))
  (dss_cons (ds_set (i := 5) sc_q8.nd (de_ix ixd (@de_lst _ _ _ _ (@da_cons2 _ _ _ _ _ de_int (@da_cons2 _ _ _ _ _ de_int (@da_cons2 _ _ _ _ _ de_int (@da_cons2 _ _ _ _ _ de_int (@da_cons2 _ _ _ _ _ de_int da_nil rfl) rfl) rfl) rfl) rfl)) (de_call G_qa (hr.mono (by decide)) rfl T.m_qa T.F_qa.kp T.b_qa (@da_cons2 _ _ _ _ _ (de_var 0) (@da_cons2 _ _ _ _ _ (de_op opd_add2 (de_var 1) de_int) (@da_cons2 _ _ _ _ _ de_int da_nil rfl) rfl) rfl) (eCons_len (eCons_len (eCons_len (fun _ _ h => eNil_len h)))))))
  (dss_cons (ds_own (i := 6) sc_q8.nd da_nil)
  (dss_cons (ds_for PassesOwn.never rfl (di_irng1 rfl T.z_range (@da_cons2 _ _ _ _ _ (de_var 3) da_nil rfl)) (dg_name (i := 7) sc_q8.nd) (dss_one (ds_ext (i := 6) (de_comp rfl (compScope_mk (N' := N_q8_c1) (inner := [none, some 7, some 0, some 5, some 1]) (defScope s_q8) N_q8 rfl rfl (by decide +kernel)) (kp_name 0) (di_irng1 rfl T.z_range (@da_cons2 _ _ _ _ _ (de_var 4) da_nil rfl)) (fun _ _ _ _ _ => (dg_name (i := 0) nd_q8_c1)) (fun _ _ _ _ _ => (dts_one (dt_cmp (opd_eq (u64 hr)) (de_call G_qa (hr.mono (by decide)) rfl T.m_qa T.F_qa.kp T.b_qa (@da_cons2 _ _ _ _ _ (de_var 2) (@da_cons2 _ _ _ _ _ (de_op opd_add2 (de_op opd_add2 (de_op opd_add2 (de_var 4) de_int) (de_op opd_mul2 de_int (de_var 1))) (de_var 0)) (@da_cons2 _ _ _ _ _ (de_var 3) da_nil rfl) rfl) rfl) (eCons_len (eCons_len (eCons_len (fun _ _ h => eNil_len h))))) de_int (nomark _)))) (fun _ _ _ _ _ => (@de_tup _ _ _ _ _ (@da_cons2 _ _ _ _ _ (de_var 1) (@da_cons2 _ _ _ _ _ (de_var 0) da_nil rfl) rfl)))))))
  (dss_one (ds_ret (@de_tup _ _ _ _ _ (@da_cons2 _ _ _ _ _ (de_var 3) (@da_cons2 _ _ _ _ _ (de_var 4) (@da_cons2 _ _ _ _ _ (de_callTy cd_tuple rfl T.z_tuple boot_tuple (@da_cons2 _ _ _ _ _ (de_var 6) da_nil rfl)) da_nil rfl) rfl) rfl)))))))))
theorem ok_q0 (G_qm : FnOk P w K mg base CX0 3 f_qm fd_qm ["floor", "thing"] (spD K 2 Gis_cell)) : FnOk P w K mg base CX0 4 f_q0 fd_q0 ["floor", "cell"] (spD K 2 Grefuse_off_floor) := by
 refine fn_D2 (g := grefuse_off_floor) (G := Grefuse_off_floor) (N := N_q0) (k := 3) rfl rfl rfl T.F_q0 sc_q0 fun cdv A outer s H E hr => ?_
 exact (dss_one (ds_if (dt_not (dt_val (de_call G_qm (hr.mono (by decide)) rfl T.m_qm T.F_qm.kp T.b_qm (@da_cons2 _ _ _ _ _ (de_var 0) (@da_cons2 _ _ _ _ _ (de_var 1) da_nil rfl) rfl) (eCons_len (eCons_len (fun _ _ h => eNil_len h)))))) (dss_one ds_never) dss_nil))
theorem ok_qd (G_q3 : FnOk P w K mg base CX0 3 f_q3 fd_q3 ["solids", "one", "other"] (spD K 3 Gsee_each_other)) (G_qi : FnOk P w K mg base CX0 2 f_qi fd_qi ["eye", "cell"] (spD K 2 Gis_ahead)) (G_q5 : FnOk P w K mg base CX0 1 f_q5 fd_q5 ["one", "other"] (spD K 2 Gsquare_apart)) : FnOk P w K mg base CX0 4 f_qd fd_qd ["solids", "eye", "cell"] (spD K 3 Gdoes_spot) := by
 refine fn_D2 (g := gdoes_spot) (G := Gdoes_spot) (N := N_qd) (k := 3) rfl rfl rfl T.F_qd sc_qd fun cdv A outer s H E hr => ?_
 exact (dss_cons (ds_if (dw_t (dw_or (dt_not (dt_val (de_call G_qi (hr.mono (by decide)) rfl T.m_qi T.F_qi.kp T.b_qi (@da_cons2 _ _ _ _ _ (de_var 1) (@da_cons2 _ _ _ _ _ (de_var 2) da_nil rfl) rfl) (eCons_len (eCons_len (fun _ _ h => eNil_len h)))))) (dw_or1 (dt_cmp opd_gt (de_call G_q5 (hr.mono (by decide)) rfl T.m_q5 T.F_q5.kp T.b_q5 (@da_cons2 _ _ _ _ _ (de_ix ixd (de_var 1) de_int) (@da_cons2 _ _ _ _ _ (de_var 2) da_nil rfl) rfl) (eCons_len (eCons_len (fun _ _ h => eNil_len h)))) (de_op opd_mul2 (de_ix ixd (de_var 1) de_int) (de_ix ixd (de_var 1) de_int)) (nomark _))))) (dss_one (ds_ret de_bl)) dss_nil)
  (dss_one (ds_ret (de_call G_q3 (hr.mono (by decide)) rfl T.m_q3 T.F_q3.kp T.b_q3 (@da_cons2 _ _ _ _ _ (de_var 0) (@da_cons2 _ _ _ _ _ (de_ix ixd (de_var 1) de_int) (@da_cons2 _ _ _ _ _ (de_var 2) da_nil rfl) rfl) rfl) (eCons_len (eCons_len (eCons_len (fun _ _ h => eNil_len h))))))))
theorem ok_qh (G_q0 : FnOk P w K mg base CX0 4 f_q0 fd_q0 ["floor", "cell"] (spD K 2 Grefuse_off_floor)) : FnOk P w K mg base CX0 5 f_qh fd_qh ["floor", "cell"] (spD K 2 Gis_solid) := by
 refine fn_D2 (g := gis_solid) (G := Gis_solid) (N := N_qh) (k := 4) rfl rfl rfl T.F_qh sc_qh fun cdv A outer s H E hr => ?_
 exact (dss_cons (ds_drop (de_call G_q0 (hr.mono (by decide)) rfl T.m_q0 T.F_q0.kp T.b_q0 (@da_cons2 _ _ _ _ _ (de_var 0) (@da_cons2 _ _ _ _ _ (de_var 1) da_nil rfl) rfl) (eCons_len (eCons_len (fun _ _ h => eNil_len h)))))
  (dss_one (ds_ret (de_cmp (opd_in (u65 hr)) (de_var 1) (de_ix ixd (de_var 0) de_int) (by with_unfolding_all rfl)))))
theorem ok_q7 (G_qd : FnOk P w K mg base CX0 4 f_qd fd_qd ["solids", "eye", "cell"] (spD K 3 Gdoes_spot)) : FnOk P w K mg base CX0 5 f_q7 fd_q7 ["solids", "eyes", "cell"] (spD K 3 Gnumbers_on) := by
 refine fn_D2 (g := gnumbers_on) (G := Gnumbers_on) (N := N_q7) (k := 4) rfl rfl rfl T.F_q7 sc_q7 fun cdv A outer s H E hr => ?_
 exact (dss_one (ds_ret (de_comp rfl (compScope_mk (N' := N_q7_c1) (inner := [none, none, some 0, some 2]) (defScope s_q7) N_q7 rfl rfl (by decide +kernel)) (kp_tup (kp_cons (kp_name 0) (kp_cons (kp_name 1) kp_nil))) (di_ienum rfl T.z_enumerate (@da_cons2 _ _ _ _ _ (de_var 1) da_nil rfl)) (fun _ _ _ _ _ => (dg_tup rfl (dgs_cons (dg_name (i := 0) nd_q7_c1) (dgs_cons (dg_name (i := 1) nd_q7_c1) dgs_nil)))) (fun _ _ _ _ _ => (dts_one (dt_val (de_call G_qd (hr.mono (by decide)) rfl T.m_qd T.F_qd.kp T.b_qd (@da_cons2 _ _ _ _ _ (de_var 2) (@da_cons2 _ _ _ _ _ (de_var 1) (@da_cons2 _ _ _ _ _ (de_var 3) da_nil rfl) rfl) rfl) (eCons_len (eCons_len (eCons_len (fun _ _ h => eNil_len h)))))))) (fun _ _ _ _ _ => (de_var 0)))))
theorem ok_q1 (G_qh : FnOk P w K mg base CX0 5 f_qh fd_qh ["floor", "cell"] (spD K 2 Gis_solid)) : FnOk P w K mg base CX0 6 f_q1 fd_q1 ["floor", "cell"] (spD K 2 Grefuse_not_open) := by
 refine fn_D2 (g := grefuse_not_open) (G := Grefuse_not_open) (N := N_q1) (k := 5) rfl rfl rfl T.F_q1 sc_q1 fun cdv A outer s H E hr => ?_
 exact (dss_one (ds_if (dt_val (de_call G_qh (hr.mono (by decide)) rfl T.m_qh T.F_qh.kp T.b_qh (@da_cons2 _ _ _ _ _ (de_var 0) (@da_cons2 _ _ _ _ _ (de_var 1) da_nil rfl) rfl) (eCons_len (eCons_len (fun _ _ h => eNil_len h))))) (dss_one ds_never) dss_nil))
theorem ok_qg (G_q1 : FnOk P w K mg base CX0 6 f_q1 fd_q1 ["floor", "cell"] (spD K 2 Grefuse_not_open)) (G_qr : FnOk P w K mg base CX0 1 f_qr fd_qr ["things"] (spD K 1 Gmarked)) (G_qb : FnOk P w K mg base CX0 2 f_qb fd_qb ["floor"] (spD K 1 Gopen_cells)) (G_qk : FnOk P w K mg base CX0 2 f_qk fd_qk ["solids", "one", "other"] (spD K 3 Glets_see)) : FnOk P w K mg base CX0 7 f_qg fd_qg ["floor", "cell"] (spD K 2 Gfield_of) := by
 refine fn_D2 (g := gfield_of) (G := Gfield_of) (N := N_qg) (k := 6) rfl rfl rfl T.F_qg sc_qg fun cdv A outer s H E hr => ?_
 exact (dss_cons (ds_drop (de_call G_q1 (hr.mono (by decide)) rfl T.m_q1 T.F_q1.kp T.b_q1 (@da_cons2 _ _ _ _ _ (de_var 0) (@da_cons2 _ _ _ _ _ (de_var 1) da_nil rfl) rfl) (eCons_len (eCons_len (fun _ _ h => eNil_len h)))))
  (dss_cons (ds_set (i := 2) sc_qg.nd (de_call G_qr (hr.mono (by decide)) rfl T.m_qr T.F_qr.kp T.b_qr (@da_cons2 _ _ _ _ _ (de_ix ixd (de_var 0) de_int) da_nil rfl) (eCons_len (fun _ _ h => eNil_len h))))
  (dss_one (ds_ret (de_comp rfl (compScope_mk (N' := N_qg_c1) (inner := [none, some 2, some 1]) (defScope s_qg) N_qg rfl rfl (by decide +kernel)) (kp_name 0) (di_iseq (de_call G_qb (hr.mono (by decide)) rfl T.m_qb T.F_qb.kp T.b_qb (@da_cons2 _ _ _ _ _ (de_var 0) da_nil rfl) (eCons_len (fun _ _ h => eNil_len h)))) (fun _ _ _ _ _ => (dg_name (i := 0) nd_qg_c1)) (fun _ _ _ _ _ => (dts_one (dt_val (de_call G_qk (hr.mono (by decide)) rfl T.m_qk T.F_qk.kp T.b_qk (@da_cons2 _ _ _ _ _ (de_var 1) (@da_cons2 _ _ _ _ _ (de_var 2) (@da_cons2 _ _ _ _ _ (de_var 0) da_nil rfl) rfl) rfl) (eCons_len (eCons_len (eCons_len (fun _ _ h => eNil_len h)))))))) (fun _ _ _ _ _ => (de_var 0)))))))
theorem ok_q6 (G_q1 : FnOk P w K mg base CX0 6 f_q1 fd_q1 ["floor", "cell"] (spD K 2 Grefuse_not_open)) : FnOk P w K mg base CX0 7 f_q6 fd_q6 ["floor", "eyes"] (spD K 2 Grefuse_eyes) := by
 refine fn_D2 (g := grefuse_eyes) (G := Grefuse_eyes) (N := N_q6) (k := 6) rfl rfl rfl T.F_q6 sc_q6 fun cdv A outer s H E hr => ?_
 exact (dss_one (ds_for PassesOwn.never rfl (di_iseq (de_var 1)) (dg_name (i := 2) sc_q6.nd) (dss_one (ds_drop (de_call G_q1 (hr.mono (by decide)) rfl T.m_q1 T.F_q1.kp T.b_q1 (@da_cons2 _ _ _ _ _ (de_var 0) (@da_cons2 _ _ _ _ _ (de_ix ixd (de_var 2) de_int) da_nil rfl) rfl) (eCons_len (eCons_len (fun _ _ h => eNil_len h))))))))
theorem ok_qn (G_q6 : FnOk P w K mg base CX0 7 f_q6 fd_q6 ["floor", "eyes"] (spD K 2 Grefuse_eyes)) (G_qr : FnOk P w K mg base CX0 1 f_qr fd_qr ["things"] (spD K 1 Gmarked)) (G_qb : FnOk P w K mg base CX0 2 f_qb fd_qb ["floor"] (spD K 1 Gopen_cells)) (G_qd : FnOk P w K mg base CX0 4 f_qd fd_qd ["solids", "eye", "cell"] (spD K 3 Gdoes_spot)) : FnOk P w K mg base CX0 8 f_qn fd_qn ["floor", "eye"] (spD K 2 Gseen_by) := by
 refine fn_D2 (g := gseen_by) (G := Gseen_by) (N := N_qn) (k := 7) rfl rfl rfl T.F_qn sc_qn fun cdv A outer s H E hr => ?_
 exact (dss_cons (ds_drop (de_call G_q6 (hr.mono (by decide)) rfl T.m_q6 T.F_q6.kp T.b_q6 (@da_cons2 _ _ _ _ _ (de_var 0) (@da_cons2 _ _ _ _ _ (@de_lst _ _ _ _ (@da_cons2 _ _ _ _ _ (de_var 1) da_nil rfl)) da_nil rfl) rfl) (eCons_len (eCons_len (fun _ _ h => eNil_len h)))))
  (dss_cons (ds_set (i := 2) sc_qn.nd (de_call G_qr (hr.mono (by decide)) rfl T.m_qr T.F_qr.kp T.b_qr (@da_cons2 _ _ _ _ _ (de_ix ixd (de_var 0) de_int) da_nil rfl) (eCons_len (fun _ _ h => eNil_len h))))
  (dss_one (ds_ret (de_comp rfl (compScope_mk (N' := N_qn_c1) (inner := [none, some 2, some 1]) (defScope s_qn) N_qn rfl rfl (by decide +kernel)) (kp_name 0) (di_iseq (de_call G_qb (hr.mono (by decide)) rfl T.m_qb T.F_qb.kp T.b_qb (@da_cons2 _ _ _ _ _ (de_var 0) da_nil rfl) (eCons_len (fun _ _ h => eNil_len h)))) (fun _ _ _ _ _ => (dg_name (i := 0) nd_qn_c1)) (fun _ _ _ _ _ => (dts_one (dt_val (de_call G_qd (hr.mono (by decide)) rfl T.m_qd T.F_qd.kp T.b_qd (@da_cons2 _ _ _ _ _ (de_var 1) (@da_cons2 _ _ _ _ _ (de_var 2) (@da_cons2 _ _ _ _ _ (de_var 0) da_nil rfl) rfl) rfl) (eCons_len (eCons_len (eCons_len (fun _ _ h => eNil_len h)))))))) (fun _ _ _ _ _ => (de_var 0)))))))
theorem ok_ql (G_q6 : FnOk P w K mg base CX0 7 f_q6 fd_q6 ["floor", "eyes"] (spD K 2 Grefuse_eyes)) (G_q0 : FnOk P w K mg base CX0 4 f_q0 fd_q0 ["floor", "cell"] (spD K 2 Grefuse_off_floor)) (G_q7 : FnOk P w K mg base CX0 5 f_q7 fd_q7 ["solids", "eyes", "cell"] (spD K 3 Gnumbers_on)) (G_qr : FnOk P w K mg base CX0 1 f_qr fd_qr ["things"] (spD K 1 Gmarked)) : FnOk P w K mg base CX0 8 f_ql fd_ql ["floor", "eyes", "cell"] (spD K 3 Geyes_on) := by
 refine fn_D2 (g := geyes_on) (G := Geyes_on) (N := N_ql) (k := 7) rfl rfl rfl T.F_ql sc_ql fun cdv A outer s H E hr => ?_
 exact (dss_cons (ds_drop (de_call G_q6 (hr.mono (by decide)) rfl T.m_q6 T.F_q6.kp T.b_q6 (@da_cons2 _ _ _ _ _ (de_var 0) (@da_cons2 _ _ _ _ _ (de_var 1) da_nil rfl) rfl) (eCons_len (eCons_len (fun _ _ h => eNil_len h)))))
  (dss_cons (ds_drop (de_call G_q0 (hr.mono (by decide)) rfl T.m_q0 T.F_q0.kp T.b_q0 (@da_cons2 _ _ _ _ _ (de_var 0) (@da_cons2 _ _ _ _ _ (de_var 2) da_nil rfl) rfl) (eCons_len (eCons_len (fun _ _ h => eNil_len h)))))
  (dss_one (ds_ret (de_call G_q7 (hr.mono (by decide)) rfl T.m_q7 T.F_q7.kp T.b_q7 (@da_cons2 _ _ _ _ _ (de_call G_qr (hr.mono (by decide)) rfl T.m_qr T.F_qr.kp T.b_qr (@da_cons2 _ _ _ _ _ (de_ix ixd (de_var 0) de_int) da_nil rfl) (eCons_len (fun _ _ h => eNil_len h))) (@da_cons2 _ _ _ _ _ (de_var 1) (@da_cons2 _ _ _ _ _ (de_var 2) da_nil rfl) rfl) rfl) (eCons_len (eCons_len (eCons_len (fun _ _ h => eNil_len h)))))))))
theorem ok_qs (G_q8 : FnOk P w K mg base CX0 3 f_q8 fd_q8 ["_law_script", "_law_at", "_law_most"] (spD K 3 G_law_floor)) (G_qe : FnOk P w K mg base CX0 2 f_qe fd_qe ["_law_floor_here"] (spD K 1 G_law_open)) (G_qa : FnOk P w K mg base CX0 2 f_qa fd_qa ["_law_script", "_law_k", "_law_many"] (spD K 3 G_law_drawn)) (G_qn : FnOk P w K mg base CX0 8 f_qn fd_qn ["floor", "eye"] (spD K 2 Gseen_by)) (G_qp : FnOk P w K mg base CX0 1 f_qp fd_qp ["eye"] (spD K 1 Gturned)) (G_ql : FnOk P w K mg base CX0 8 f_ql fd_ql ["floor", "eyes", "cell"] (spD K 3 Geyes_on)) (G_qg : FnOk P w K mg base CX0 7 f_qg fd_qg ["floor", "cell"] (spD K 2 Gfield_of)) : FnOk P w K mg base CX0 9 f_qs fd_qs ["_law_script"] (spD K 1 Glaw) := by
 refine fn_D2 (g := glaw) (G := Glaw) (N := N_qs) (k := 8) rfl rfl rfl T.F_qs sc_qs fun cdv A outer s H E hr => ?_
 exact (dss_cons (ds_set (i := 1) sc_qs.nd (de_call G_q8 (hr.mono (by decide)) rfl T.m_q8 T.F_q8.kp T.b_q8 (@da_cons2 _ _ _ _ _ (de_var 0) (@da_cons2 _ _ _ _ _ de_int (@da_cons2 _ _ _ _ _ de_int da_nil rfl) rfl) rfl) (eCons_len (eCons_len (eCons_len (fun _ _ h => eNil_len h))))))
  (dss_cons (ds_set (i := 2) sc_qs.nd (de_call G_qe (hr.mono (by decide)) rfl T.m_qe T.F_qe.kp T.b_qe (@da_cons2 _ _ _ _ _ (de_var 1) da_nil rfl) (eCons_len (fun _ _ h => eNil_len h))))
  (dss_cons (ds_if (dt_cmp (opd_eq (u64 hr)) (de_var 2) (@de_lst _ _ _ _ da_nil) (nomark _)) (dss_one (ds_ret de_bl)) dss_nil)
  (dss_cons (ds_set (i := 3) sc_qs.nd (de_ix ixd (de_var 2) (de_call G_qa (hr.mono (by decide)) rfl T.m_qa T.F_qa.kp T.b_qa (@da_cons2 _ _ _ _ _ (de_var 0) (@da_cons2 _ _ _ _ _ de_int (@da_cons2 _ _ _ _ _ (de_callB cd_len rfl T.z_len PySem.boot_len (@da_cons2 _ _ _ _ _ (de_var 2) da_nil rfl)) da_nil rfl) rfl) rfl) (eCons_len (eCons_len (eCons_len (fun _ _ h => eNil_len h)))))))
  (dss_cons (ds_set (i := 4) sc_qs.nd (de_op opd_add2 de_int (de_call G_qa (hr.mono (by decide)) rfl T.m_qa T.F_qa.kp T.b_qa (@da_cons2 _ _ _ _ _ (de_var 0) (@da_cons2 _ _ _ _ _ de_int (@da_cons2 _ _ _ _ _ de_int da_nil rfl) rfl) rfl) (eCons_len (eCons_len (eCons_len (fun _ _ h => eNil_len h)))))))
  (dss_cons (ds_own (i := 5) sc_qs.nd (@da_cons2 _ _ _ _ _ (@de_tup _ _ _ _ _ (@da_cons2 _ _ _ _ _ (de_var 3) (@da_cons2 _ _ _ _ _ (de_ix ixdS de_str (de_call G_qa (hr.mono (by decide)) rfl T.m_qa T.F_qa.kp T.b_qa (@da_cons2 _ _ _ _ _ (de_var 0) (@da_cons2 _ _ _ _ _ de_int (@da_cons2 _ _ _ _ _ de_int da_nil rfl) rfl) rfl) (eCons_len (eCons_len (eCons_len (fun _ _ h => eNil_len h)))))) (@da_cons2 _ _ _ _ _ (de_var 4) da_nil rfl) rfl) rfl)) da_nil rfl))
  (dss_cons (ds_for PassesOwn.never rfl (di_irng1 rfl T.z_range (@da_cons2 _ _ _ _ _ de_int da_nil rfl)) (dg_name (i := 6) sc_qs.nd) (dss_one (ds_appB (i := 5) (de_call G_qp (hr.mono (by decide)) rfl T.m_qp T.F_qp.kp T.b_qp (@da_cons2 _ _ _ _ _ (de_ix ixd (de_var 5) (de_un und_neg de_int)) da_nil rfl) (eCons_len (fun _ _ h => eNil_len h))))))
  (dss_cons (ds_if (dw_t (dw_or (dt_cmp (opd_ne (u64 hr)) (de_call G_qp (hr.mono (by decide)) rfl T.m_qp T.F_qp.kp T.b_qp (@da_cons2 _ _ _ _ _ (de_ix ixd (de_var 5) (de_un und_neg de_int)) da_nil rfl) (eCons_len (fun _ _ h => eNil_len h))) (de_ix ixd (de_var 5) de_int) (nomark _)) (dw_or1 (dt_cmp (opd_ne (u64 hr)) (de_callB cd_sortS rfl T.z_sorted boot_sorted (@da_cons2 _ _ _ _ _ (de_comp rfl (compScope_mk (N' := N_qs_c1) (inner := [none]) (defScope s_qs) N_qs rfl rfl (by decide +kernel)) (kp_name 0) (di_iseq (de_var 5)) (fun _ _ _ _ _ => (dg_name (i := 0) nd_qs_c1)) (fun _ _ _ _ _ => dts_nil) (fun _ _ _ _ _ => (de_ix ixd (de_var 0) de_int))) da_nil rfl)) (@de_lst _ _ _ _ (@da_cons2 _ _ _ _ _ de_str (@da_cons2 _ _ _ _ _ de_str (@da_cons2 _ _ _ _ _ de_str (@da_cons2 _ _ _ _ _ de_str da_nil rfl) rfl) rfl) rfl)) (nomark _))))) (dss_one (ds_ret de_bl)) dss_nil)
  (dss_frz 5 (dss_cons (ds_set (i := 7) sc_qs.nd (de_comp rfl (compScope_mk (N' := N_qs_c2) (inner := [none, some 1]) (defScope s_qs) N_qs rfl rfl (by decide +kernel)) (kp_name 0) (di_iseq (de_var 5)) (fun _ _ _ _ _ => (dg_name (i := 0) nd_qs_c2)) (fun _ _ _ _ _ => dts_nil) (fun _ _ _ _ _ => (de_call G_qn (hr.mono (by decide)) rfl T.m_qn T.F_qn.kp T.b_qn (@da_cons2 _ _ _ _ _ (de_var 1) (@da_cons2 _ _ _ _ _ (de_var 0) da_nil rfl) rfl) (eCons_len (eCons_len (fun _ _ h => eNil_len h)))))))
  (dss_cons (ds_for PassesOwn.never rfl (di_iseq (de_var 2)) (dg_name (i := 8) sc_qs.nd) (dss_cons (ds_set (i := 9) sc_qs.nd (de_callB cd_abs rfl T.z_abs boot_abs (@da_cons2 _ _ _ _ _ (de_op opd_sub (de_ix ixd (de_var 8) de_int) (de_ix ixd (de_var 3) de_int)) da_nil rfl)))
  (dss_cons (ds_set (i := 10) sc_qs.nd (de_callB cd_abs rfl T.z_abs boot_abs (@da_cons2 _ _ _ _ _ (de_op opd_sub (de_ix ixd (de_var 8) de_int) (de_ix ixd (de_var 3) de_int)) da_nil rfl)))
  (dss_cons (ds_set (i := 11) sc_qs.nd de_int)
  (dss_cons (ds_if (dw_t (dw_and (dt_cmp (opd_in (u65 hr)) (de_var 8) (de_call G_qg (hr.mono (by decide)) rfl T.m_qg T.F_qg.kp T.b_qg (@da_cons2 _ _ _ _ _ (de_var 1) (@da_cons2 _ _ _ _ _ (de_var 3) da_nil rfl) rfl) (eCons_len (eCons_len (fun _ _ h => eNil_len h)))) (by with_unfolding_all rfl)) (dw_and1 (dt_cmp opd_le (de_op opd_add2 (de_op opd_mul2 (de_var 9) (de_var 9)) (de_op opd_mul2 (de_var 10) (de_var 10))) (de_op opd_mul2 (de_var 4) (de_var 4)) (nomark _))))) (dss_one (ds_set (i := 11) sc_qs.nd (de_op opd_add2 (de_op opd_add2 de_int (de_callTy cd_int rfl T.z_int boot_int' (@da_cons2 _ _ _ _ _ (de_cmp (opd_eq (u64 hr)) (de_var 9) (de_var 10) (nomark _)) da_nil rfl))) (de_op opd_mul2 de_int (de_callTy cd_int rfl T.z_int boot_int' (@da_cons2 _ _ _ _ _ (de_cmp (opd_eq (u64 hr)) (de_var 8) (de_var 3) (nomark _)) da_nil rfl)))))) dss_nil)
  (dss_cons (ds_if (dt_cmp (opd_ne (u64 hr)) (de_callB cd_len rfl T.z_len PySem.boot_len (@da_cons2 _ _ _ _ _ (de_comp rfl (compScope_mk (N' := N_qs_c3) (inner := [none, some 8]) (defScope s_qs) N_qs rfl rfl (by decide +kernel)) (kp_name 0) (di_iseq (de_var 7)) (fun _ _ _ _ _ => (dg_name (i := 0) nd_qs_c3)) (fun _ _ _ _ _ => (dts_one (dt_cmp (opd_in (u65 hr)) (de_var 1) (de_var 0) (by with_unfolding_all rfl)))) (fun _ _ _ _ _ => (de_var 0))) da_nil rfl)) (de_var 11) (nomark _)) (dss_one (ds_ret de_bl)) dss_nil)
  (dss_one (ds_if (dt_cmp (opd_ne (u64 hr)) (de_call G_ql (hr.mono (by decide)) rfl T.m_ql T.F_ql.kp T.b_ql (@da_cons2 _ _ _ _ _ (de_var 1) (@da_cons2 _ _ _ _ _ (de_var 5) (@da_cons2 _ _ _ _ _ (de_var 8) da_nil rfl) rfl) rfl) (eCons_len (eCons_len (eCons_len (fun _ _ h => eNil_len h))))) (de_comp rfl (compScope_mk (N' := N_qs_c4) (inner := [none, some 8, some 7]) (defScope s_qs) N_qs rfl rfl (by decide +kernel)) (kp_name 0) (di_irng1 rfl T.z_range (@da_cons2 _ _ _ _ _ de_int da_nil rfl)) (fun _ _ _ _ _ => (dg_name (i := 0) nd_qs_c4)) (fun _ _ _ _ _ => (dts_one (dt_cmp (opd_in (u65 hr)) (de_var 1) (de_ix ixd (de_var 2) (de_var 0)) (by with_unfolding_all rfl)))) (fun _ _ _ _ _ => (de_var 0))) (nomark _)) (dss_one (ds_ret de_bl)) dss_nil))))))))
  (dss_frz 5 (dss_cons (ds_for PassesOwn.never rfl (di_izip rfl T.z_zip (@da_cons2 _ _ _ _ _ (de_var 5) (@da_cons2 _ _ _ _ _ (de_var 7) da_nil rfl) rfl)) (dg_tup rfl (dgs_cons (dg_name (i := 12) sc_qs.nd) (dgs_cons (dg_name (i := 13) sc_qs.nd) dgs_nil))) (dss_cons (ds_set (i := 14) sc_qs.nd (de_call G_qn (hr.mono (by decide)) rfl T.m_qn T.F_qn.kp T.b_qn (@da_cons2 _ _ _ _ _ (de_var 1) (@da_cons2 _ _ _ _ _ (@de_tup _ _ _ _ _ (@da_cons2 _ _ _ _ _ (de_var 3) (@da_cons2 _ _ _ _ _ (de_ix ixd (de_var 12) de_int) (@da_cons2 _ _ _ _ _ (de_op opd_add2 (de_var 4) de_int) da_nil rfl) rfl) rfl)) da_nil rfl) rfl) (eCons_len (eCons_len (fun _ _ h => eNil_len h)))))
  (dss_cons (ds_if (dt_cmp (opd_ne (u64 hr)) (de_comp rfl (compScope_mk (N' := N_qs_c5) (inner := [none, some 14]) (defScope s_qs) N_qs rfl rfl (by decide +kernel)) (kp_name 0) (di_iseq (de_var 13)) (fun _ _ _ _ _ => (dg_name (i := 0) nd_qs_c5)) (fun _ _ _ _ _ => (dts_one (dt_cmp (opd_notin (u65 hr)) (de_var 0) (de_var 1) (by with_unfolding_all rfl)))) (fun _ _ _ _ _ => (de_var 0))) (@de_lst _ _ _ _ da_nil) (nomark _)) (dss_one (ds_ret de_bl)) dss_nil)
  (dss_cons (ds_set (i := 15) sc_qs.nd (de_ix ixd (de_call G_qp (hr.mono (by decide)) rfl T.m_qp T.F_qp.kp T.b_qp (@da_cons2 _ _ _ _ _ (de_call G_qp (hr.mono (by decide)) rfl T.m_qp T.F_qp.kp T.b_qp (@da_cons2 _ _ _ _ _ (de_var 12) da_nil rfl) (eCons_len (fun _ _ h => eNil_len h))) da_nil rfl) (eCons_len (fun _ _ h => eNil_len h))) de_int))
  (dss_one (ds_if (dt_cmp (opd_ne (u64 hr)) (de_comp rfl (compScope_mk (N' := N_qs_c6) (inner := [none, some 3, some 1, some 15, some 4]) (defScope s_qs) N_qs rfl rfl (by decide +kernel)) (kp_name 0) (di_iseq (de_var 13)) (fun _ _ _ _ _ => (dg_name (i := 0) nd_qs_c6)) (fun _ _ _ _ _ => (dts_one (dt_cmp (opd_notin (u65 hr)) (de_var 1) (de_call G_qn (hr.mono (by decide)) rfl T.m_qn T.F_qn.kp T.b_qn (@da_cons2 _ _ _ _ _ (de_var 2) (@da_cons2 _ _ _ _ _ (@de_tup _ _ _ _ _ (@da_cons2 _ _ _ _ _ (de_var 0) (@da_cons2 _ _ _ _ _ (de_var 3) (@da_cons2 _ _ _ _ _ (de_var 4) da_nil rfl) rfl) rfl)) da_nil rfl) rfl) (eCons_len (eCons_len (fun _ _ h => eNil_len h)))) (by with_unfolding_all rfl)))) (fun _ _ _ _ _ => (de_var 0))) (@de_lst _ _ _ _ da_nil) (nomark _)) (dss_one (ds_ret de_bl)) dss_nil))))))
  (dss_one (ds_ret de_bl)))))))))))))))
end
end My
namespace My
open PySem PySem.SeqAt L2 DL SD SL EL DC
abbrev C := Int × Int
noncomputable def cellD (c : C) : D := .tuple [.int c.1, .int c.2]
theorem isD_tup (ds : List D) : isD "tuple" (.tuple ds) = true := id rfl
theorem isD_list (ds : List D) : isD "list" (.list ds) = true := id rfl
theorem isD_bool (b : Bool) : isD "bool" (.bool b) = true := id rfl
theorem isD_int (i : Int) : isD "int" (.int i) = true := id rfl
theorem ix0 (a : D) (r : List D) : dIx (.tuple (a :: r)) (.int 0) = some a := by
 show L2.atI (a :: r) 0 = some a
 unfold L2.atI L2.ixN
 rw [if_pos (by lia), if_pos (by rw [List.length_cons]; lia)]
 rfl
theorem ix1 (a b : D) (r : List D) : dIx (.tuple (a :: b :: r)) (.int 1) = some b := by
 show L2.atI (a :: b :: r) 1 = some b
 unfold L2.atI L2.ixN
 rw [if_pos (by lia), if_pos (by rw [List.length_cons, List.length_cons]; lia)]
 rfl
theorem ix2 (a b c : D) (r : List D) : dIx (.tuple (a :: b :: c :: r)) (.int 2) = some c := by
 show L2.atI (a :: b :: c :: r) 2 = some c
 unfold L2.atI L2.ixN
 rw [if_pos (by lia), if_pos (by rw [List.length_cons, List.length_cons, List.length_cons]; lia)]
 rfl
theorem ix0L (a : D) (r : List D) : dIx (.list (a :: r)) (.int 0) = some a := ix0 a r
theorem ix1L (a b : D) (r : List D) : dIx (.list (a :: b :: r)) (.int 1) = some b := ix1 a b r
theorem ix2L (a b c : D) (r : List D) : dIx (.list (a :: b :: c :: r)) (.int 2) = some c := ix2 a b c r
theorem ix3L (a b c d e : D) : dIx (.list [a, b, c, d, e]) (.int 3) = some d := id rfl
theorem ix4L (a b c d e : D) : dIx (.list [a, b, c, d, e]) (.int 4) = some e := id rfl
theorem add_i (i j : Int) : dAdd2 (.int i) (.int j) = some (.int (i + j)) := id rfl
theorem sub_i (i j : Int) : dSub (.int i) (.int j) = some (.int (i - j)) := id rfl
theorem lt_i (i j : Int) : dLt2 (.int i) (.int j) = some (.bool (decide (i < j))) := id rfl
theorem le_i (i j : Int) : dLe (.int i) (.int j) = some (.bool (decide (i <= j))) := id rfl
theorem gt_i (i j : Int) : dGt (.int i) (.int j) = some (.bool (decide (j < i))) := id rfl
theorem ge_i (i j : Int) : dGe (.int i) (.int j) = some (.bool (decide (j <= i))) := id rfl
theorem eq_i (i j : Int) : dEq (.int i) (.int j) = some (.bool (i == j)) := id rfl
theorem ne_i (i j : Int) : dNe (.int i) (.int j) = some (.bool (!(i == j))) := id rfl
theorem neg_i (i : Int) : dNeg (.int i) = some (.int (-i)) := id rfl
theorem abs_i (i : Int) : dAbs [.int i] = some (.int (if i < 0 then -i else i)) := id rfl
theorem len_L (l : List D) : dLen [.list l] = some (.int l.length) := id rfl
theorem len_T (l : List D) : dLen [.tuple l] = some (.int l.length) := id rfl
theorem tuple_L (l : List D) : dTuple [.list l] = some (.tuple l) := id rfl
theorem tuple_T (l : List D) : dTuple [.tuple l] = some (.tuple l) := id rfl
theorem list_L (l : List D) : dList [.list l] = some (.list l) := id rfl
theorem list_T (l : List D) : dList [.tuple l] = some (.list l) := id rfl
theorem bl0 : (false = true) = False := by simp
theorem bl1 : (true = true) = True := by simp
theorem mul_i {i j : Int} (h : okMul i j = true) : dMul2 (.int i) (.int j) = some (.int (i * j)) := by
 show (if okMul i j = true then _ else _) = _
 rw [if_pos h]
theorem fdiv_i {i j : Int} (h : okDiv i j = true) : dFdiv (.int i) (.int j) = some (.int (i / j)) := by
 show (if okDiv i j = true then _ else _) = _
 rw [if_pos h]
theorem mod_i {i j : Int} (h : 0 < j) : dMod (.int i) (.int j) = some (.int (i % j)) := by
 show (if decide (0 < j) = true then _ else _) = _
 rw [if_pos (decide_eq_true h)]
theorem okS {i j : Int} (h1 : -18446744073709551616 < i) (h2 : i < 18446744073709551616) : okMul i j = true := by
 unfold okMul
 rw [decide_eq_true h1, decide_eq_true h2]
 rfl
theorem okT {i j : Int} (h1 : -18446744073709551616 < j) (h2 : j < 18446744073709551616) : okMul i j = true := by
 unfold okMul
 rw [decide_eq_true h1, decide_eq_true h2]
 simp
theorem okD {i j : Int} (h1 : 0 < j) (h2 : j < 1073741824) : okDiv i j = true := by
 unfold okDiv
 rw [decide_eq_true h1, decide_eq_true h2]
 rfl
section
variable {α β : Type}
theorem comp_run {s : D -> Rho -> Option Rho} {t : Rho -> Option Bool} {ge : Rho -> Option D} (item : α -> D) (p : α -> Bool) (f : α -> D) (I : Rho -> Prop) : ∀ {xs : List α} {ρ : Rho}, I ρ ->
  (∀ a ∈ xs, ∀ ρ, I ρ -> ∃ ρ', s (item a) ρ = some ρ' /\ I ρ' /\ t ρ' = some (p a) /\ (p a = true -> ge ρ' = some (f a))) -> compN s t ge (xs.map item) ρ = some ((xs.filter p).map f)
 | [], _, _, _ => rfl
 | x :: xs, ρ, h0, h => by
  obtain ⟨ρ', e1, i1, e2, e3⟩ := h x List.mem_cons_self ρ h0
  have ih := comp_run item p f I i1 fun y hy => h y (List.mem_cons_of_mem _ hy)
  rw [List.map_cons]
  unfold compN
  rw [e1, Option.bind_some, e2, Option.bind_some]
  cases q : p x with
  | true => rw [if_pos rfl, e3 q, Option.bind_some, ih, List.filter_cons_of_pos q]; rfl
  | false => rw [if_neg Bool.false_ne_true, ih, List.filter_cons_of_neg (by rw [q]; exact Bool.false_ne_true)]
theorem lc_run {gi : Rho -> Option (List D)} {s : D -> Rho -> Option Rho} {t : Rho -> Option Bool} {ge : Rho -> Option D} {inner : List (Option Nat)} {ρ : Rho} {xs : List α} (item : α -> D) (p : α -> Bool) (f : α -> D) (I : Rho -> Prop) (h1 : gi ρ = some (xs.map item)) (hl : xs.length <= 1000) (h0 : I (inRho inner ρ))
  (h : ∀ a ∈ xs, ∀ ρ, I ρ -> ∃ ρ', s (item a) ρ = some ρ' /\ I ρ' /\ t ρ' = some (p a) /\ (p a = true -> ge ρ' = some (f a))) : eLc (eComp gi s t ge inner) ρ = some (.list ((xs.filter p).map f)) := by
 have q := comp_run item p f I h0 h
 unfold eLc eComp
 rw [h1, Option.bind_some, q, Option.bind_some, if_pos (by rw [List.length_map]; exact Nat.le_trans (List.length_filter_le _ _) hl)]
 rfl
theorem lc_out {gi : Rho -> Option (List D)} {s : D -> Rho -> Option Rho} {t : Rho -> Option Bool} {ge : Rho -> Option D} {inner : List (Option Nat)} {ρ : Rho} {xs : List α} {out : List D} (item : α -> D) (p : α -> Bool) (f : α -> D) (I : Rho -> Prop) (h1 : gi ρ = some (xs.map item)) (hl : xs.length <= 1000) (h0 : I (inRho inner ρ))
  (h : ∀ a ∈ xs, ∀ ρ, I ρ -> ∃ ρ', s (item a) ρ = some ρ' /\ I ρ' /\ t ρ' = some (p a) /\ (p a = true -> ge ρ' = some (f a))) (ho : (xs.filter p).map f = out) : eLc (eComp gi s t ge inner) ρ = some (.list out) := by
 rw [<- ho]
 exact lc_run item p f I h1 hl h0 h
theorem filter_true (l : List α) : l.filter (fun _ => true) = l := by induction l with
 | nil => rfl
 | cons a l ih => simp [ih]
theorem for_run {s : D -> Rho -> Option Rho} {g : Rho -> Option Out} (item : α -> D) (env : β -> Rho) (step : β -> α -> β) (P : Nat -> β -> Prop) (n : Nat) : ∀ (xs : List α) (i : Nat) (b : β), i + xs.length <= n -> P i b ->
  (∀ a ∈ xs, ∀ i b, i < n -> P i b -> (∃ ρ1, s (item a) (env b) = some ρ1 /\ g ρ1 = some (.nx (env (step b a)))) /\ P (i + 1) (step b a)) -> forN s g (xs.map item) (env b) = some (.nx (env (xs.foldl step b)))
 | [], _, b, _, _, _ => rfl
 | x :: xs, i, b, hi, hp, h => by
  rw [List.length_cons] at hi
  obtain ⟨⟨ρ1, e1, e2⟩, p2⟩ := h x List.mem_cons_self i b (by lia) hp
  rw [List.map_cons]
  unfold forN
  rw [e1, Option.bind_some, e2, Option.bind_some]
  exact for_run item env step P n xs (i + 1) _ (by lia) p2 fun a ha => h a (List.mem_cons_of_mem _ ha)
theorem for_any {s : D -> Rho -> Option Rho} {g : Rho -> Option Out} (item : α -> D) (I : Rho -> Prop) (p : α -> Bool) (d : D) : ∀ (xs : List α) (ρ : Rho), I ρ ->
  (∀ a ∈ xs, ∀ ρ, I ρ -> ∃ ρ1, s (item a) ρ = some ρ1 /\ if p a = true then g ρ1 = some (.rt d) else ∃ ρ2, g ρ1 = some (.nx ρ2) /\ I ρ2) ->
  if xs.any p = true then forN s g (xs.map item) ρ = some (.rt d) else ∃ ρ', forN s g (xs.map item) ρ = some (.nx ρ') /\ I ρ'
 | [], ρ, h0, _ => by rw [if_neg (by simp)]; exact ⟨ρ, rfl, h0⟩
 | x :: xs, ρ, h0, h => by
  obtain ⟨ρ1, e1, e2⟩ := h x List.mem_cons_self ρ h0
  rw [List.map_cons, List.any_cons]
  unfold forN
  rw [e1, Option.bind_some]
  cases q : p x with
  | true =>
   rw [q, if_pos rfl] at e2
   rw [Bool.true_or, if_pos rfl, e2]
   rfl
  | false =>
   rw [q, if_neg Bool.false_ne_true] at e2
   obtain ⟨ρ2, e2, i2⟩ := e2
   rw [Bool.false_or, e2, Option.bind_some]
   exact for_any item I p d xs ρ2 i2 fun a ha => h a (List.mem_cons_of_mem _ ha)
theorem for_inv {s : D -> Rho -> Option Rho} {g : Rho -> Option Out} (item : α -> D) (I : Rho -> Prop) : ∀ (xs : List α) (ρ : Rho), I ρ ->
  (∀ a ∈ xs, ∀ ρ, I ρ -> ∃ ρ1 ρ2, s (item a) ρ = some ρ1 /\ g ρ1 = some (.nx ρ2) /\ I ρ2) -> ∃ ρ', forN s g (xs.map item) ρ = some (.nx ρ') /\ I ρ'
 | [], ρ, h0, _ => ⟨ρ, rfl, h0⟩
 | x :: xs, ρ, h0, h => by
  obtain ⟨ρ1, ρ2, e1, e2, i2⟩ := h x List.mem_cons_self ρ h0
  rw [List.map_cons]
  unfold forN
  rw [e1, Option.bind_some, e2, Option.bind_some]
  exact for_inv item I xs ρ2 i2 fun a ha => h a (List.mem_cons_of_mem _ ha)
end
theorem rng1_nat (h : Nat) (h2 : h < 1000) : rng1 [.int h] = some ((List.range h).map fun (k : Nat) => .int (k : Int)) := by
 show (if -4611686018427387904 <= (h : Int) /\ (h : Int) < 4611686018427387904 then some ((List.range (h : Int).toNat).map fun (k : Nat) => PyData.int (0 + (k : Int))) else none) = _
 rw [if_pos ⟨by lia, by lia⟩, Int.toNat_natCast]
 congr 2
 funext k
 rw [Int.zero_add]
section
variable {g g1 g2 : Rho -> Option Out} {t u : Rho -> Option Bool} {ga gb gc : Rho -> Option D} {gr : Rho -> Option (List D)} {ρ : Rho} {d : D}
theorem ap_seq : sSeq g1 g2 ρ = (g1 ρ).bind fun o => match o with | .nx ρ' => g2 ρ' | o => some o := id rfl
theorem ap_skip : sSkip ρ = some (.nx ρ) := id rfl
theorem ap_ret : sRet ga ρ = (ga (ρ.map frz)).bind fun d => some (.rt d) := id rfl
theorem ap_set (i : Nat) : sSet i ga ρ = (ga ρ).bind fun d => some (.nx (ρ.set i (.dat d))) := id rfl
theorem ap_own (i : Nat) : sOwn i gr ρ = (gr ρ).bind fun ds => if ds.length <= 1000 then some (.nx (ρ.set i (.own ds))) else none := id rfl
theorem ap_frz (i : Nat) : sFrz i g ρ = g (frzAt i ρ) := id rfl
theorem ap_if : sIf t g1 g2 ρ = (t (ρ.map frz)).bind fun b => if b = true then g1 ρ else g2 ρ := id rfl
theorem ap_drop : sDrop ga ρ = (ga ρ).bind fun _ => some (.nx ρ) := id rfl
theorem ap_app (i : Nat) : sApp i ga ρ = match ρ[i]? with
 | some (.own ds) => (ga ρ).bind fun d => if ds.length < 1000 then some (.nx (ρ.set i (.own (ds ++ [d])))) else none
 | _ => none := id rfl
theorem ap_asg (s : D -> Rho -> Option Rho) : sAsg ga s ρ = (ga ρ).bind fun d => (s d ρ).bind fun ρ' => some (.nx ρ') := id rfl
theorem ap_for (gi : Rho -> Option (List D)) (s : D -> Rho -> Option Rho) : sFor gi s g ρ = (gi ρ).bind fun xs => forN s g xs ρ := id rfl
theorem ap_V (i : Nat) : eV i ρ = match ρ[i]? with | some (.dat d) => some d | _ => none := id rfl
theorem ap_C : eC d ρ = some d := id rfl
theorem ap_op (f : D -> D -> Option D) : eOp f ga gb ρ = (ga ρ).bind fun x => (gb ρ).bind fun y => f x y := id rfl
theorem ap_un (f : D -> Option D) : eUn f ga ρ = (ga ρ).bind f := id rfl
theorem ap_call (G : List D -> Option D) : eCall G gr ρ = (gr ρ).bind G := id rfl
theorem ap_cons : eCons ga gr ρ = (ga ρ).bind fun x => (gr ρ).bind fun xs => some (x :: xs) := id rfl
theorem ap_nil : eNil ρ = some [] := id rfl
theorem ap_tup : eTup gr ρ = (gr ρ).bind fun xs => if xs.length <= 1000 then some (.tuple xs) else none := id rfl
theorem ap_lst : eLst gr ρ = (gr ρ).bind fun xs => if xs.length <= 1000 then some (.list xs) else none := id rfl
theorem ap_B : eB ga ρ = (ga ρ).bind asB := id rfl
theorem ap_not : eNot t ρ = (t ρ).bind fun b => some (!b) := id rfl
theorem ap_and : eAnd t u ρ = (t ρ).bind fun b => if b = true then u ρ else some false := id rfl
theorem ap_or : eOr t u ρ = (t ρ).bind fun b => if b = true then some true else u ρ := id rfl
theorem ap_andV : eAndV ga gb ρ = (ga ρ).bind fun x => (asB x).bind fun c => if c = true then gb ρ else some (.bool false) := id rfl
theorem ap_orV : eOrV ga gb ρ = (ga ρ).bind fun x => (asB x).bind fun c => if c = true then some (.bool true) else gb ρ := id rfl
theorem ap_notV : eNotV ga ρ = (ga ρ).bind fun x => (asB x).bind fun c => some (.bool (!c)) := id rfl
theorem ap_ifV : eIf t ga gb ρ = (t ρ).bind fun b => if b = true then ga ρ else gb ρ := id rfl
theorem ap_is (T : String) : eIs T ga ρ = (ga ρ).bind fun d => if isDct d = true then none else some (.bool (isD T d)) := id rfl
theorem ap_chain (h h' : D -> D -> Option D) : eChain h h' ga gb gc ρ = (ga ρ).bind fun x => (gb ρ).bind fun y => (h x y).bind fun z => (asB z).bind fun k => if k = true then (gc ρ).bind fun c => h' y c else some (.bool false) := id rfl
theorem ap_no : oNo ρ = some none := id rfl
theorem ap_oE : oE ga ρ = (ga ρ).bind fun d => (asI d).bind fun i => some (some i) := id rfl
theorem ap_sl (gl gh : Rho -> Option (Option Int)) : eSl2 ga gl gh ρ = (ga ρ).bind fun d => (gl ρ).bind fun l => (gh ρ).bind fun h => dSl2 d l h := id rfl
theorem ap_name (i : Nat) : uName i d ρ = some (ρ.set i (.dat d)) := id rfl
theorem ap_uNil : uNil [] ρ = some ρ := id rfl
theorem ap_T : eT ρ = some true := id rfl
theorem ap_fn (n : Nat) (ds : List D) : fnD n g ds = match g (startD n ds) with | some (.rt d) => some d | some (.nx _) => some .none | _ => none := id rfl
theorem ap_start (n : Nat) (ds : List D) : startD n ds = ds.map .dat ++ List.replicate (n - ds.length) .no := id rfl
theorem frz_dat : frz (.dat d) = .dat d := id rfl
theorem frz_no : frz .no = .no := id rfl
theorem frz_own (ds : List D) : frz (.own ds) = .dat (.list ds) := id rfl
theorem asB_b (b : Bool) : asB (.bool b) = some b := id rfl
theorem asI_i (i : Int) : asI (.int i) = some i := id rfl
theorem seq_L (l : List D) : seqD (.list l) = some l := id rfl
theorem seq_T (l : List D) : seqD (.tuple l) = some l := id rfl
theorem dct_t (l : List D) : isDct (.tuple l) = false := id rfl
theorem dct_l (l : List D) : isDct (.list l) = false := id rfl
theorem dct_i (i : Int) : isDct (.int i) = false := id rfl
theorem dct_b (b : Bool) : isDct (.bool b) = false := id rfl
end
section
variable {α β : Type} (a : α) (l m : List α) (n : Nat) (f : α -> β)
theorem L_g0 : (a :: l)[0]? = some a := id rfl
theorem L_gs : (a :: l)[n + 1]? = l[n]? := id rfl
theorem L_mc : (a :: l).map f = f a :: l.map f := id rfl
theorem L_mn : ([] : List α).map f = [] := id rfl
theorem L_lc : (a :: l).length = l.length + 1 := id rfl
theorem L_ln : ([] : List α).length = 0 := id rfl
theorem L_ca : (a :: l) ++ m = a :: (l ++ m) := id rfl
theorem L_na : [] ++ m = m := id rfl
theorem L_s0 (b : α) : (a :: l).set 0 b = b :: l := id rfl
theorem L_ss (b : α) : (a :: l).set (n + 1) b = a :: l.set n b := id rfl
theorem L_r0 : List.replicate 0 a = [] := id rfl
theorem L_rs : List.replicate (n + 1) a = a :: List.replicate n a := id rfl
theorem O_bs (k : α -> Option β) : (some a).bind k = k a := id rfl
end
theorem cell_0 (c : C) : dIx (cellD c) (.int 0) = some (.int c.1) := id rfl
theorem cell_1 (c : C) : dIx (cellD c) (.int 1) = some (.int c.2) := id rfl
theorem cell_is (c : C) : isD "tuple" (cellD c) = true := id rfl
theorem cell_dct (c : C) : isDct (cellD c) = false := id rfl
theorem cell_len (c : C) : dLen [cellD c] = some (.int 2) := id rfl
theorem cell_mk (x y : Int) : PyData.tuple [.int x, .int y] = cellD (x, y) := id rfl
theorem u_cell (i j : Nat) (c : C) (ρ : Rho) : uTup 2 (uCons (uName i) (uCons (uName j) uNil)) (cellD c) ρ = some ((ρ.set i (.dat (.int c.1))).set j (.dat (.int c.2))) := id rfl
noncomputable def iterN {β : Type} (cond : β -> Bool) (step : β -> β) : Nat -> β -> Option β
 | 0, _ => none
 | n + 1, b => if cond b = true then iterN cond step n (step b) else some b
theorem while_run {β : Type} {t : Rho -> Option Bool} {g : Rho -> Option Out} (env : β -> Rho) (cond : β -> Bool) (step : β -> β) (P : Nat -> β -> Prop) (hT : ∀ n b, P n b -> t ((env b).map frz) = some (cond b))
  (hB : ∀ n b, P (n + 1) b -> cond b = true -> g (env b) = some (.nx (env (step b))) /\ P n (step b)) : ∀ n b b', P n b -> iterN cond step n b = some b' -> whileN t g n (env b) = some (.nx (env b'))
 | 0, _, _, _, h => by cases h
 | n + 1, b, b', p, h => by
  unfold iterN at h
  unfold whileN
  rw [hT _ b p, Option.bind_some]
  by_cases c : cond b = true
  ·rw [if_pos c] at h ⊢
   obtain ⟨h1, h2⟩ := hB n b p c
   rw [h1, Option.bind_some]
   exact while_run env cond step P hT hB n _ b' h2 h
  ·rw [if_neg c] at h ⊢
   cases h
   rfl
theorem run_seq {g1 g2 : Rho -> Option Out} {ρ ρ' : Rho} {r : Option Out} (h : g1 ρ = some (.nx ρ')) (h2 : g2 ρ' = r) : sSeq g1 g2 ρ = r := by
 unfold sSeq
 rw [h]
 exact h2
theorem run_rt {g1 g2 : Rho -> Option Out} {ρ : Rho} {d : D} (h : g1 ρ = some (.rt d)) : sSeq g1 g2 ρ = some (.rt d) := by
 unfold sSeq
 rw [h]
 rfl
theorem fn_rt {n : Nat} {g : Rho -> Option Out} {ds : List D} {d : D} (h : g (startD n ds) = some (.rt d)) : fnD n g ds = some d := by
 unfold fnD
 rw [h]
theorem run_for {gi : Rho -> Option (List D)} {s : D -> Rho -> Option Rho} {g : Rho -> Option Out} {ρ : Rho} {xs : List D} {r : Option Out} (h1 : gi ρ = some xs) (h2 : forN s g xs ρ = r) : sFor gi s g ρ = r := by
 unfold sFor
 rw [h1]
 exact h2
theorem run_frz {i : Nat} {g : Rho -> Option Out} {ρ : Rho} {r : Option Out} (h : g (frzAt i ρ) = r) : sFrz i g ρ = r := h
theorem run_if {t : Rho -> Option Bool} {g1 g2 : Rho -> Option Out} {ρ : Rho} {b : Bool} {r : Option Out} (h : t (ρ.map frz) = some b) (h1 : b = true -> g1 ρ = r) (h2 : b = false -> g2 ρ = r) : sIf t g1 g2 ρ = r := by
 unfold sIf
 rw [h]
 cases b with
 | true => exact h1 rfl
 | false => exact h2 rfl
theorem run_ret {ga : Rho -> Option D} {ρ : Rho} {d : D} (h : ga (ρ.map frz) = some d) : sRet ga ρ = some (.rt d) := by
 unfold sRet
 rw [h]
 rfl
theorem run_set {i : Nat} {ga : Rho -> Option D} {ρ : Rho} {d : D} (h : ga ρ = some d) : sSet i ga ρ = some (.nx (ρ.set i (.dat d))) := by
 unfold sSet
 rw [h]
 rfl
theorem run_call {G : List D -> Option D} {gr : Rho -> Option (List D)} {ρ : Rho} {ds : List D} {r : Option D} (h : gr ρ = some ds) (h2 : G ds = r) : eCall G gr ρ = r := by
 unfold eCall
 rw [h]
 exact h2
theorem run_rng {gr : Rho -> Option (List D)} {s : D -> Rho -> Option Rho} {g : Rho -> Option Out} {ρ : Rho} {n : Nat} {r : Option Out} (h1 : gr ρ = some [.int (n : Nat)]) (hn : n < 1000) (h2 : forN s g ((List.range n).map fun (k : Nat) => .int (k : Int)) ρ = r) : sFor (iRng1 gr) s g ρ = r := by
 show ((gr ρ).bind rng1).bind (fun xs => forN s g xs ρ) = r
 rw [h1, Option.bind_some, rng1_nat n hn, Option.bind_some]
 exact h2
theorem it_rng {gr : Rho -> Option (List D)} {ρ : Rho} {n : Nat} (h1 : gr ρ = some [.int (n : Nat)]) (hn : n < 1000) : iRng1 gr ρ = some ((List.range n).map fun (k : Nat) => .int (k : Int)) := by
 show (gr ρ).bind rng1 = _
 rw [h1, Option.bind_some, rng1_nat n hn]
theorem it_seq {ga : Rho -> Option D} {ρ : Rho} {d : D} {l : List D} (h1 : ga ρ = some d) (h2 : seqD d = some l) : iSeq ga ρ = some l := by
 show (ga ρ).bind seqD = _
 rw [h1, Option.bind_some, h2]
noncomputable def dn := And.intro @ap_seq (And.intro @ap_skip (And.intro @ap_ret (And.intro @ap_set (And.intro @ap_own (And.intro @ap_frz (And.intro @ap_if (And.intro @ap_drop (And.intro @ap_app (And.intro @ap_asg (And.intro @ap_for (And.intro @ap_V (And.intro @ap_C (And.intro @ap_op (And.intro @ap_un (And.intro @ap_call (And.intro @ap_cons (And.intro @ap_nil (And.intro @ap_tup (And.intro @ap_lst (And.intro @ap_B (And.intro @ap_not (And.intro @ap_and (And.intro @ap_or (And.intro @ap_andV (And.intro @ap_orV (And.intro @ap_notV (And.intro @ap_ifV (And.intro @ap_is (And.intro @ap_chain (And.intro @ap_no (And.intro @ap_oE (And.intro @ap_sl (And.intro @ap_name (And.intro @ap_uNil (And.intro @ap_T (And.intro @ap_fn (And.intro @ap_start (And.intro @frz_dat (And.intro @frz_no (And.intro @frz_own (And.intro @asB_b (And.intro @asI_i (And.intro @seq_L (And.intro @seq_T (And.intro @dct_t (And.intro @dct_l (And.intro @dct_i (And.intro @dct_b (And.intro @isD_tup (And.intro @isD_list (And.intro @isD_bool (And.intro @isD_int (And.intro @cell_0 (And.intro @cell_1 (And.intro @cell_is (And.intro @cell_dct (And.intro @cell_len (And.intro @cell_mk (And.intro @u_cell (And.intro @ix0L (And.intro @ix1L (And.intro @ix2L (And.intro @ix3L (And.intro @ix4L (And.intro @add_i (And.intro @sub_i (And.intro @lt_i (And.intro @le_i (And.intro @gt_i (And.intro @ge_i (And.intro @eq_i (And.intro @ne_i (And.intro @neg_i (And.intro @abs_i (And.intro @len_L (And.intro @len_T (And.intro @tuple_L (And.intro @tuple_T (And.intro @list_L (And.intro @list_T (And.intro @bl0 (And.intro @bl1 (And.intro @L_g0 (And.intro @L_gs (And.intro @L_mc (And.intro @L_mn (And.intro @L_lc (And.intro @L_ln (And.intro @L_ca (And.intro @L_na (And.intro @L_s0 (And.intro @L_ss (And.intro @L_r0 (And.intro @L_rs (And.intro @O_bs (And.intro @Bool.not_true (And.intro @Bool.not_false (@Bool.false_eq_true))))))))))))))))))))))))))))))))))))))))))))))))))))))))))))))))))))))))))))))))))))))))))))))))))
end My
namespace My
open PySem PySem.SeqAt L2 DL SD SL EL DC
abbrev Row := List Int
noncomputable def insL (p : Row) : List Row -> List Row
 | [] => [p]
 | q :: r => if HT.lexLt q p = true then q :: insL p r else p :: q :: r
noncomputable def sortL : List Row -> List Row
 | [] => []
 | p :: r => insL p (sortL r)
noncomputable def fK (k : Row) : KD := (k, tupI k)
theorem ins_map (p : Row) : ∀ l : List Row, insK (fK p) (l.map fK) = (insL p l).map fK
 | [] => rfl
 | q :: r => by
  show (if HT.lexLt q p = true then fK q :: insK (fK p) (r.map fK) else fK p :: fK q :: r.map fK) = (if HT.lexLt q p = true then q :: insL p r else p :: q :: r).map fK
  split
  ·rw [ins_map p r]; rfl
  ·rfl
theorem sort_map : ∀ l : List Row, sortK (l.map fK) = (sortL l).map fK
 | [] => rfl
 | p :: r => by
  show insK (fK p) (sortK (r.map fK)) = (insL p (sortL r)).map fK
  rw [sort_map r, ins_map]
theorem ins_permL (p : Row) : ∀ l : List Row, (insL p l).Perm (p :: l)
 | [] => .refl _
 | q :: r => by
  unfold insL
  split
  ·exact ((ins_permL p r).cons q).trans (.swap _ _ _)
  ·exact .refl _
theorem sort_permL : ∀ l : List Row, (sortL l).Perm l
 | [] => .refl _
 | p :: r => (ins_permL p (sortL r)).trans ((sort_permL r).cons p)
theorem sort_pairs (l : List Row) : (sortL l).Pairwise fun a b => HT.lexLt b a = false := by
 have := sort_sorted (l.map fK)
 rw [sort_map, List.pairwise_map] at this
 exact this
theorem dd_id : ∀ l : List Row, l.Nodup -> dd l = l
 | [], _ => rfl
 | k :: r, h => by
  obtain ⟨h1, h2⟩ := List.nodup_cons.mp h
  unfold dd
  rw [if_neg h1, dd_id r h2]
theorem like_ints : ∀ {k m : Row}, k.length = m.length -> likeEs (k.map PyData.int) (m.map PyData.int) = true
 | [], [], _ => rfl
 | x :: k, y :: m, h => by
  show (likeE (.int x) (.int y) && likeEs (k.map PyData.int) (m.map PyData.int)) = true
  rw [like_ints (by simpa using h)]
  rfl
 | [], _ :: _, h => by cases h
 | _ :: _, [], h => by cases h
theorem flat_ints : ∀ k : Row, flatEs (k.map PyData.int) = some k
 | [] => rfl
 | x :: k => by
  have := flat_ints k
  simp [flatEs, flatE, this]
theorem rows_map {d0 : Row} (h0 : d0 ≠ []) : ∀ {l : List Row}, (∀ k ∈ l, k.length = d0.length) -> rowsK (d0.map PyData.int) (l.map tupI) = some (l.map fK)
 | [], _ => rfl
 | k :: l, h => by
  have hk := h k List.mem_cons_self
  have e1 : rowK (d0.map PyData.int) (tupI k) = some k := by
   cases k with
   | nil => exact absurd (List.eq_nil_of_length_eq_zero hk.symm) h0
   | cons x k =>
    show (if likeEs (d0.map PyData.int) ((x :: k).map PyData.int) = true then flatEs ((x :: k).map PyData.int) else none) = _
    rw [if_pos (like_ints hk.symm), flat_ints]
  show (rowK (d0.map PyData.int) (tupI k)).bind _ = _
  rw [e1, Option.bind_some, rows_map h0 fun k hk => h k (List.mem_cons_of_mem _ hk)]
  rfl
theorem sorted_rows {l : List Row} (h : ∀ k ∈ l, k.length = 2) (hl : l.length <= 63) : dSorted [.list (l.map tupI)] = some (.list ((sortL l).map tupI)) := by
 cases l with
 | nil => rfl
 | cons k0 kr =>
  have h0 : k0.length = 2 := h k0 List.mem_cons_self
  have e2 := rows_map (d0 := k0) (fun q => by rw [q] at h0; cases h0) (l := k0 :: kr) fun k hk => (h k hk).trans h0.symm
  show (if (kr.map tupI).length < 63 then (rowsK (k0.map PyData.int) ((k0 :: kr).map tupI)).bind fun l => some (PyData.list ((sortK l).map (·.2))) else none) = _
  rw [if_pos (by rw [List.length_map]; simp only [List.length_cons] at hl; lia), e2]
  show some (PyData.list ((sortK ((k0 :: kr).map fK)).map (·.2))) = _
  rw [sort_map, List.map_map]
  rfl
noncomputable def row (c : C) : Row := [c.1, c.2]
noncomputable def ltC (a b : C) : Bool := HT.lexLt (row a) (row b)
theorem ltC_iff (a b : C) : ltC a b = true ↔ a.1 < b.1 ∨ (a.1 = b.1 /\ a.2 < b.2) := by
 unfold ltC row
 rw [HT.lexLt_cons]
 by_cases h : a.1 = b.1
 ·rw [if_pos h, HT.lexLt_cons]
  by_cases h' : a.2 = b.2
  ·rw [if_pos h']; simp [HT.lexLt]; lia
  ·rw [if_neg h']; simp; lia
 ·rw [if_neg h]; simp; lia
noncomputable def Up (l : List C) : Prop := l.Pairwise fun a b => ltC a b = true
theorem up_eq : ∀ {l m : List C}, Up l -> Up m -> (∀ c, c ∈ l ↔ c ∈ m) -> l = m
 | [], [], _, _, _ => rfl
 | [], b :: m, _, _, h => nomatch (h b).mpr List.mem_cons_self
 | a :: l, [], _, _, h => nomatch (h a).mp List.mem_cons_self
 | a :: l, b :: m, h1, h2, h => by
  obtain ⟨a1, a2⟩ := List.pairwise_cons.mp h1
  obtain ⟨b1, b2⟩ := List.pairwise_cons.mp h2
  have irr : ∀ c : C, ltC c c = true -> False := fun c q => by rw [ltC_iff] at q; lia
  have e : a = b := by
   rcases List.mem_cons.mp ((h a).mp List.mem_cons_self) with q | q
   ·exact q
   ·rcases List.mem_cons.mp ((h b).mpr List.mem_cons_self) with r | r
    ·exact r.symm
    ·have x := b1 a q
     have y := a1 b r
     rw [ltC_iff] at x y
     lia
  subst e
  congr 1
  refine up_eq a2 b2 fun c => ⟨fun q => ?_, fun q => ?_⟩
  ·rcases List.mem_cons.mp ((h c).mp (List.mem_cons_of_mem _ q)) with r | r
   ·subst r; exact (irr _ (a1 _ q)).elim
   ·exact r
  ·rcases List.mem_cons.mp ((h c).mpr (List.mem_cons_of_mem _ q)) with r | r
   ·subst r; exact (irr _ (b1 _ q)).elim
   ·exact r
theorem up_nodup {l : List C} (h : Up l) : l.Nodup := h.imp fun {a b} q e => by subst e; rw [ltC_iff] at q; lia
theorem sort_cells {l : List C} (hn : l.Nodup) : ∃ m : List C, sortL (l.map row) = m.map row /\ Up m /\ ∀ c, c ∈ m ↔ c ∈ l := by
 obtain ⟨m, hm⟩ : ∃ m : List C, m = (sortL (l.map row)).map fun r => (r.getD 0 0, r.getD 1 0) := ⟨_, rfl⟩
 have mem : ∀ r, r ∈ sortL (l.map row) ↔ r ∈ l.map row := fun r => (sort_permL _).mem_iff
 have e : sortL (l.map row) = m.map row := by
  rw [hm, List.map_map]
  conv => lhs; rw [<- List.map_id (sortL (l.map row))]
  refine List.map_congr_left fun r hr => ?_
  obtain ⟨c, _, rfl⟩ := List.mem_map.mp ((mem r).mp hr)
  rfl
 have inj : ∀ a b : C, row a = row b -> a = b := fun a b q => by
  unfold row at q
  injection q with q1 q2
  injection q2 with q2 _
  exact Prod.ext q1 q2
 have mm : ∀ c, c ∈ m ↔ c ∈ l := fun c => by
  constructor
  ·intro h
   have : row c ∈ l.map row := (mem _).mp (by rw [e]; exact List.mem_map_of_mem h)
   obtain ⟨d, hd, q⟩ := List.mem_map.mp this
   rw [<- inj _ _ q]; exact hd
  ·intro h
   have : row c ∈ m.map row := by rw [<- e]; exact (mem _).mpr (List.mem_map_of_mem h)
   obtain ⟨d, hd, q⟩ := List.mem_map.mp this
   rw [<- inj _ _ q]; exact hd
 refine ⟨m, e, ?_, mm⟩
 have s := sort_pairs (l.map row)
 have n : (sortL (l.map row)).Nodup := (sort_permL _).nodup_iff.mpr (by
  rw [List.Nodup, List.pairwise_map]
  exact hn.imp fun {a b} q r => q (inj _ _ r))
 rw [e] at s n
 rw [List.pairwise_map] at s
 rw [List.Nodup, List.pairwise_map] at n
 refine (s.and n).imp fun {a b} h => ?_
 cases q : ltC a b with
 | true => rfl
 | false => exact absurd (lex_total _ _ q h.1) h.2
theorem rows_cell (l : List C) : (l.map row).map tupI = l.map cellD := by rw [List.map_map]; rfl
theorem sorted_up {l m : List C} (hn : l.Nodup) (hl : l.length <= 63) (hm : Up m) (h : ∀ c, c ∈ m ↔ c ∈ l) : dSorted [.list (l.map cellD)] = some (.list (m.map cellD)) := by
 rw [<- rows_cell l, sorted_rows (fun k hk => by obtain ⟨c, _, rfl⟩ := List.mem_map.mp hk; rfl) (by rw [List.length_map]; exact hl)]
 obtain ⟨m', e1, e2, e3⟩ := sort_cells hn
 rw [e1, rows_cell, up_eq e2 hm fun c => (e3 c).trans (h c).symm]
noncomputable def cells (w h : Nat) : List C := (List.range w).flatMap fun (x : Nat) => (List.range h).map fun (y : Nat) => ((x : Int), (y : Int))
noncomputable def inR (w h : Nat) (c : C) : Bool := decide (0 <= c.1) && decide (c.1 < w) && decide (0 <= c.2) && decide (c.2 < h)
theorem inR_iff {w h : Nat} {c : C} : inR w h c = true ↔ 0 <= c.1 /\ c.1 < w /\ 0 <= c.2 /\ c.2 < h := by
 unfold inR
 simp only [Bool.and_eq_true, decide_eq_true_eq]
 constructor
 ·intro q; exact ⟨q.1.1.1, q.1.1.2, q.1.2, q.2⟩
 ·intro q; exact ⟨⟨⟨q.1, q.2.1⟩, q.2.2.1⟩, q.2.2.2⟩
theorem mem_cells {w h : Nat} {c : C} : c ∈ cells w h ↔ inR w h c = true := by
 unfold cells
 rw [List.mem_flatMap, inR_iff]
 constructor
 ·rintro ⟨x, hx, hc⟩
  obtain ⟨y, hy, rfl⟩ := List.mem_map.mp hc
  have := List.mem_range.mp hx
  have := List.mem_range.mp hy
  dsimp only
  lia
 ·intro q
  refine ⟨c.1.toNat, List.mem_range.mpr (by lia), List.mem_map.mpr ⟨c.2.toNat, List.mem_range.mpr (by lia), ?_⟩⟩
  exact Prod.ext (by dsimp only; lia) (by dsimp only; lia)
theorem up_range (h : Nat) (x : Nat) : Up ((List.range h).map fun (y : Nat) => ((x : Int), (y : Int))) := by
 unfold Up
 rw [List.pairwise_map]
 refine List.pairwise_lt_range.imp fun {a b} q => ?_
 rw [ltC_iff]
 dsimp only
 lia
theorem up_cells (w h : Nat) : Up (cells w h) := by
 unfold Up cells
 rw [List.pairwise_flatMap]
 refine ⟨fun x _ => up_range h x, List.pairwise_lt_range.imp fun {a b} q c hc d hd => ?_⟩
 obtain ⟨y, _, rfl⟩ := List.mem_map.mp hc
 obtain ⟨z, _, rfl⟩ := List.mem_map.mp hd
 rw [ltC_iff]
 dsimp only
 lia
theorem up_filter {l : List C} (h : Up l) (p : C -> Bool) : Up (l.filter p) := List.Pairwise.filter p h
theorem sum_same (h : Nat) : ∀ l : List Nat, (l.map fun _ => h).sum = l.length * h
 | [] => by simp
 | _ :: l => by rw [List.map_cons, List.sum_cons, sum_same h l, List.length_cons, Nat.succ_mul, Nat.add_comm]
theorem cells_len (w h : Nat) : (cells w h).length = w * h := by
 unfold cells
 rw [List.length_flatMap]
 simp only [List.length_map, List.length_range]
 rw [sum_same, List.length_range]
end My
namespace My
open PySem PySem.SeqAt L2 DL SD SL EL DC
noncomputable def walkM (fx fy : Int) : Nat -> Int -> Int -> Option (List C)
 | 0, _, _ => none
 | n + 1, gx, gy => if gx < fx ∨ gy < fy then
   (walkM fx fy n (if (2 * gx + 1) * fy <= (2 * gy + 1) * fx then gx + 1 else gx) (if (2 * gy + 1) * fx <= (2 * gx + 1) * fy then gy + 1 else gy)).bind fun r =>
    some ((if (2 * gx + 1) * fy <= (2 * gy + 1) * fx then gx + 1 else gx, if (2 * gy + 1) * fx <= (2 * gx + 1) * fy then gy + 1 else gy) :: r)
  else some []
noncomputable def iabs (i : Int) : Int := if i < 0 then -i else i
noncomputable def sgn (a : Int) : Int := if 0 < a then 1 else -1
noncomputable def rel (a b : Int) : Option (List C) := (walkM (iabs a) (iabs b) 900 0 0).bind fun st => some ((0, 0) :: st.map fun g => (sgn a * g.1, sgn b * g.2))
noncomputable def relT (a b : Int) : List C := (rel a b).getD []
noncomputable def sub (d : C) (g : C) : C := (g.1 - d.1, g.2 - d.2)
noncomputable def add (d : C) (g : C) : C := (d.1 + g.1, d.2 + g.2)
noncomputable def eqL : List C -> List C -> Bool
 | [], [] => true
 | a :: l, b :: m => a.1 == b.1 && a.2 == b.2 && eqL l m
 | _, _ => false
theorem eqL_sound : ∀ {l m : List C}, eqL l m = true -> l = m
 | [], [], _ => rfl
 | a :: l, b :: m, h => by
  unfold eqL at h
  simp only [Bool.and_eq_true, beq_iff_eq] at h
  rw [eqL_sound h.2, Prod.ext h.1.1 h.1.2]
 | [], _ :: _, h => by cases h
 | _ :: _, [], h => by cases h
noncomputable def chk (a b : Int) : Bool := match rel a b with
 | some ((0, 0) :: st) => decide (st.length <= 8) && eqL (relT (-a) (-b)) ((((0, 0) :: st).reverse).map (sub (a, b))) && eqL (relT (-a) b) (((0, 0) :: st).map fun g => (-g.1, g.2)) && eqL (relT b a) (((0, 0) :: st).map fun g => (g.2, g.1))
   && eqL ((((0, 0) :: st).dropLast ++ [(a, b)])) ((0, 0) :: st) && ((0, 0) :: st).all (fun g => decide (0 <= sgn a * g.1) && decide (sgn a * g.1 <= iabs a) && decide (0 <= sgn b * g.2) && decide (sgn b * g.2 <= iabs b))
 | _ => false
noncomputable def rng4 : List Int := [-4, -3, -2, -1, 0, 1, 2, 3, 4]
theorem chk_all : (rng4.all fun a => rng4.all fun b => chk a b) = true := by decide +kernel
theorem mem_rng4 {a : Int} (h : -4 <= a) (h' : a <= 4) : a ∈ rng4 := by
 have : a = -4 ∨ a = -3 ∨ a = -2 ∨ a = -1 ∨ a = 0 ∨ a = 1 ∨ a = 2 ∨ a = 3 ∨ a = 4 := by lia
 rcases this with rfl | rfl | rfl | rfl | rfl | rfl | rfl | rfl | rfl <;> decide
structure LineOk (a b : Int) : Prop where
 some : rel a b = some (relT a b)
 len : (relT a b).length <= 9
 first : ∃ st, relT a b = (0, 0) :: st
 back : relT (-a) (-b) = (relT a b).reverse.map (sub (a, b))
 mir : relT (-a) b = (relT a b).map fun g => (-g.1, g.2)
 flip : relT b a = (relT a b).map fun g => (g.2, g.1)
 last : (relT a b).dropLast ++ [(a, b)] = relT a b
 box : ∀ g ∈ relT a b, 0 <= sgn a * g.1 /\ sgn a * g.1 <= iabs a /\ 0 <= sgn b * g.2 /\ sgn b * g.2 <= iabs b
theorem line_ok {a b : Int} (ha : -4 <= a) (ha' : a <= 4) (hb : -4 <= b) (hb' : b <= 4) : LineOk a b := by
 have c := List.all_eq_true.mp (List.all_eq_true.mp chk_all a (mem_rng4 ha ha')) b (mem_rng4 hb hb')
 unfold chk at c
 split at c
 ·rename_i st e
  have r : relT a b = (0, 0) :: st := by unfold relT; rw [e]; rfl
  simp only [Bool.and_eq_true, decide_eq_true_eq] at c
  obtain ⟨⟨⟨⟨⟨c1, c2⟩, c3⟩, c4⟩, c5⟩, c6⟩ := c
  refine ⟨by rw [e, r], by rw [r, List.length_cons]; lia, ⟨st, r⟩, by rw [r]; exact eqL_sound c2, by rw [r]; exact eqL_sound c3, by rw [r]; exact eqL_sound c4, by rw [r]; exact eqL_sound c5, fun g hg => ?_⟩
  rw [r] at hg
  have := List.all_eq_true.mp c6 g hg
  simp only [Bool.and_eq_true, decide_eq_true_eq] at this
  exact ⟨this.1.1.1, this.1.1.2, this.1.2, this.2⟩
 ·cases c
noncomputable def diag (g h : C) : Bool := !(g.1 == h.1) && !(g.2 == h.2)
noncomputable def pinOK (S : C -> Bool) : List C -> Bool
 | g :: h :: r => (!diag g h || !(S (g.1, h.2) && S (h.1, g.2))) && pinOK S (h :: r)
 | _ => true
theorem pin_cons (S : C -> Bool) (g h : C) (r : List C) : pinOK S (g :: h :: r) = ((!diag g h || !(S (g.1, h.2) && S (h.1, g.2))) && pinOK S (h :: r)) := rfl
theorem pin_app (S : C -> Bool) : ∀ (l : List C) (g h : C), pinOK S (l ++ [g, h]) = (pinOK S (l ++ [g]) && pinOK S [g, h])
 | [], g, h => by simp [pinOK]
 | [a], g, h => by simp [pinOK]
 | a :: b :: l, g, h => by
  have ih := pin_app S (b :: l) g h
  rw [List.cons_append, List.cons_append] at ih
  rw [List.cons_append, List.cons_append, List.cons_append, List.cons_append, pin_cons, pin_cons, ih, Bool.and_assoc]
theorem diag_comm (g h : C) : diag g h = diag h g := by
 unfold diag
 rw [Bool.eq_iff_iff]
 simp only [Bool.and_eq_true, Bool.not_eq_true', beq_eq_false_iff_ne, ne_eq]
 constructor <;> (rintro ⟨a, b⟩; exact ⟨fun q => a q.symm, fun q => b q.symm⟩)
theorem pin_rev (S : C -> Bool) : ∀ l : List C, pinOK S l.reverse = pinOK S l
 | [] => rfl
 | [a] => rfl
 | a :: b :: l => by
  have ih := pin_rev S (b :: l)
  rw [List.reverse_cons] at ih
  rw [List.reverse_cons, List.reverse_cons, List.append_assoc, List.singleton_append, pin_app, ih, pin_cons, Bool.and_comm]
  congr 1
  show ((!diag b a || !(S (b.1, a.2) && S (a.1, b.2))) && true) = _
  rw [Bool.and_true, diag_comm b a, Bool.and_comm (S (b.1, a.2))]
noncomputable def line (a b : C) : List C := (relT (b.1 - a.1) (b.2 - a.2)).map (add a)
noncomputable def clear (S : C -> Bool) (a b : C) : Bool := (line a b).dropLast.all (fun c => !S c) && pinOK S (line a b)
noncomputable def seeB (S : C -> Bool) (a b : C) : Bool := !S b && clear S a b
structure Near (a b : C) : Prop where
 x0 : -4 <= b.1 - a.1
 x1 : b.1 - a.1 <= 4
 y0 : -4 <= b.2 - a.2
 y1 : b.2 - a.2 <= 4
theorem Near.ok {a b : C} (n : Near a b) : LineOk (b.1 - a.1) (b.2 - a.2) := line_ok n.x0 n.x1 n.y0 n.y1
theorem Near.symm {a b : C} (n : Near a b) : Near b a := by
 obtain ⟨h1, h2, h3, h4⟩ := n
 exact ⟨by lia, by lia, by lia, by lia⟩
theorem line_last {a b : C} (n : Near a b) : (line a b).dropLast ++ [b] = line a b := by
 have := n.ok.last
 unfold line
 conv => rhs; rw [<- this, List.map_append]
 rw [List.map_dropLast.symm]
 congr 1
 show [b] = [(a.1 + (b.1 - a.1), a.2 + (b.2 - a.2))]
 congr 1
 exact Prod.ext (by dsimp only; lia) (by dsimp only; lia)
theorem see_all {S : C -> Bool} {a b : C} (n : Near a b) : seeB S a b = ((line a b).all (fun c => !S c) && pinOK S (line a b)) := by
 unfold seeB clear
 conv => rhs; rw [<- line_last n, List.all_append, line_last n]
 simp only [List.all_cons, List.all_nil, Bool.and_true]
 rw [<- Bool.and_assoc, Bool.and_comm (!S b)]
theorem line_rev {a b : C} (n : Near a b) : line b a = (line a b).reverse := by
 unfold line
 have e1 : a.1 - b.1 = -(b.1 - a.1) := by lia
 have e2 : a.2 - b.2 = -(b.2 - a.2) := by lia
 rw [e1, e2, n.ok.back, List.map_map, List.map_reverse]
 congr 1
 refine List.map_congr_left fun g _ => ?_
 exact Prod.ext (by show b.1 + (g.1 - (b.1 - a.1)) = a.1 + g.1; lia) (by show b.2 + (g.2 - (b.2 - a.2)) = a.2 + g.2; lia)
theorem see_comm {S : C -> Bool} {a b : C} (n : Near a b) : seeB S a b = seeB S b a := by
 rw [see_all n, see_all n.symm, line_rev n, pin_rev, List.all_reverse]
end My
namespace My
open PySem PySem.SeqAt L2 DL SD SL EL DC
noncomputable def scr (ns : List Int) : D := .list (ns.map PyData.int)
theorem lay_ints : ∀ ns : List Int, PyData.canLayAll0 (ns.map PyData.int) = true /\ PyData.depthAll (ns.map PyData.int) = 0
 | [] => ⟨rfl, rfl⟩
 | _ :: r => ⟨by simp [PyData.canLayAll0, PyData.canLay0, (lay_ints r).1], by simp [PyData.depthAll, PyData.depth, (lay_ints r).2]⟩
theorem shaped_ints (ns : List Int) : SeqAt.shaped (scr ns) = true := by
 simp [SeqAt.shaped, scr, PyData.canLay0, PyData.depth, (lay_ints ns).1, (lay_ints ns).2]
theorem atI_ints {ns : List Int} {i : Int} (h0 : 0 <= i) (h1 : i < ns.length) : ∃ r, dIx (scr ns) (.int i) = some (.int r) := by
 show ∃ r, L2.atI (ns.map PyData.int) i = some (.int r)
 unfold L2.atI L2.ixN
 rw [List.length_map, if_pos h0, if_pos h1]
 have : i.toNat < ns.length := by lia
 exact ⟨ns[i.toNat], by simp [this]⟩
theorem cell_ok (ns : List Int) (hn : ns.length <= 63) (k : Int) : ∃ r, G_law_cell [scr ns, .int k] = some (.int r) := by
 cases ns with
 | nil =>
  have e : dEq (scr []) (.list []) = some (.bool true) := rfl
  have m : dMul2 (.int 7) (.int k) = some (.int (7 * k)) := mul_i (okS (by decide) (by decide))
  exact ⟨7 * k, by simp only [G_law_cell, g_law_cell, id dn, frzAt, if_true, if_false, reduceIte, Nat.reduceAdd, Nat.reduceSub, Nat.reduceLeDiff, e, m]⟩
 | cons n ns =>
  have hl : (0 : Int) < ((n :: ns).length : Int) := by rw [List.length_cons]; lia
  have e : dEq (scr (n :: ns)) (.list []) = some (.bool false) := by
   unfold dEq
   rw [shaped_ints]
   rfl
  have ln : dLen [scr (n :: ns)] = some (.int ((n :: ns).length : Int)) := by
   show some (PyData.int (((n :: ns).map PyData.int).length : Int)) = _
   rw [List.length_map]
  obtain ⟨r, hr⟩ := atI_ints (ns := n :: ns) (i := k % ((n :: ns).length : Int)) (Int.emod_nonneg _ (by lia)) (Int.emod_lt_of_pos _ hl)
  have hl' : ((n :: ns).length : Int) < 1073741824 := by lia
  generalize ((n :: ns).length : Int) = L at *
  generalize scr (n :: ns) = S at *
  have m1 := mod_i (i := k) hl
  have m2 := fdiv_i (i := k) (okD hl hl')
  have m3 : dMul2 (.int 6553) (.int (k / L)) = some (.int (6553 * (k / L))) := mul_i (okS (by decide) (by decide))
  exact ⟨r + 6553 * (k / L), by simp only [G_law_cell, g_law_cell, id dn, frzAt, if_true, if_false, reduceIte, Nat.reduceAdd, Nat.reduceSub, Nat.reduceLeDiff, e, ln, m1, m2, m3, hr]⟩
noncomputable def dr (ns : List Int) (k m : Int) : Int := match G_law_drawn [scr ns, .int k, .int m] with
 | some (.int r) => r
 | _ => 0
theorem drawn_ok (ns : List Int) (hn : ns.length <= 63) (k m : Int) (hm : 0 < m) : G_law_drawn [scr ns, .int k, .int m] = some (.int (dr ns k m)) /\ 0 <= dr ns k m /\ dr ns k m < m := by
 have key : ∃ r, G_law_drawn [scr ns, .int k, .int m] = some (.int r) /\ 0 <= r /\ r < m := by
  obtain ⟨c, hc⟩ := cell_ok ns hn k
  obtain ⟨u, hu⟩ : ∃ u, u = ((c % 2147483563) * 69069 + 104723 * (k + 1)) % 2147483563 := ⟨_, rfl⟩
  have u0 : 0 <= u := by rw [hu]; exact Int.emod_nonneg _ (by lia)
  have u1 : u < 2147483563 := by rw [hu]; exact Int.emod_lt_of_pos _ (by lia)
  obtain ⟨v, hv⟩ : ∃ v, v = (u * u + u / 3) % 2147483399 := ⟨_, rfl⟩
  have v0 : 0 <= v := by rw [hv]; exact Int.emod_nonneg _ (by lia)
  have v1 : v < 2147483399 := by rw [hv]; exact Int.emod_lt_of_pos _ (by lia)
  have a1 : ∀ i : Int, dMod (.int i) (.int 2147483563) = some (.int (i % 2147483563)) := fun i => mod_i (by decide)
  have a2 : ∀ i : Int, dMul2 (.int i) (.int 69069) = some (.int (i * 69069)) := fun i => mul_i (okT (by decide) (by decide))
  have a3 : ∀ i : Int, dMul2 (.int 104723) (.int i) = some (.int (104723 * i)) := fun i => mul_i (okS (by decide) (by decide))
  have a4 : dMul2 (.int u) (.int u) = some (.int (u * u)) := mul_i (okS (by lia) (by lia))
  have a5 : ∀ i : Int, dFdiv (.int i) (.int 3) = some (.int (i / 3)) := fun i => fdiv_i (okD (by decide) (by decide))
  have a6 : ∀ i : Int, dMod (.int i) (.int 2147483399) = some (.int (i % 2147483399)) := fun i => mod_i (by decide)
  have a7 : dMul2 (.int v) (.int v) = some (.int (v * v)) := mul_i (okS (by lia) (by lia))
  have a8 : ∀ i : Int, dFdiv (.int i) (.int 7) = some (.int (i / 7)) := fun i => fdiv_i (okD (by decide) (by decide))
  have a9 : ∀ i : Int, dMod (.int i) (.int 2147483647) = some (.int (i % 2147483647)) := fun i => mod_i (by decide)
  have b1 : ∀ i : Int, dFdiv (.int i) (.int 11) = some (.int (i / 11)) := fun i => fdiv_i (okD (by decide) (by decide))
  have b2 : ∀ i : Int, dMod (.int i) (.int m) = some (.int (i % m)) := fun i => mod_i hm
  refine ⟨(v * v + v / 7) % 2147483647 / 11 % m, ?_, Int.emod_nonneg _ (by lia), Int.emod_lt_of_pos _ hm⟩
  simp only [G_law_drawn, g_law_drawn, id dn, frzAt, if_true, if_false, reduceIte, Nat.reduceAdd, Nat.reduceSub, Nat.reduceLeDiff, hc, a1, a2, a3, <- hu, a4, a5, a6, <- hv, a7, a8, a9, b1, b2]
 obtain ⟨r, h1, h2, h3⟩ := key
 have : dr ns k m = r := by unfold dr; rw [h1]
 rw [this]
 exact ⟨h1, h2, h3⟩
noncomputable def wallsD (w h : Nat) (W : C -> Bool) : D := .tuple (((cells w h).filter W).map cellD)
noncomputable def flD (w h : Nat) (W : C -> Bool) : D := .tuple [.int w, .int h, wallsD w h W]
theorem fl_0 (w h : Nat) (W : C -> Bool) : dIx (flD w h W) (.int 0) = some (.int w) := id rfl
theorem fl_1 (w h : Nat) (W : C -> Bool) : dIx (flD w h W) (.int 1) = some (.int h) := id rfl
theorem fl_2 (w h : Nat) (W : C -> Bool) : dIx (flD w h W) (.int 2) = some (wallsD w h W) := id rfl
theorem flat_filter (w h : Nat) (p : Nat -> Nat -> Bool) : ((List.range w).flatMap fun (x : Nat) => ((List.range h).filter (p x)).map fun (y : Nat) => ((x : Int), (y : Int))) = (cells w h).filter fun c => p c.1.toNat c.2.toNat := by
 unfold cells
 rw [List.filter_flatMap]
 congr 1
 funext x
 rw [List.filter_map]
 rfl
theorem ext_some {i : Nat} {ga : Rho -> Option D} {ρ : Rho} {ds es : List D} (h1 : ρ[i]? = some (.own ds)) (h2 : ga ρ = some (.list es)) (h3 : ds.length + es.length <= 1000) : sExt i ga ρ = some (.nx (ρ.set i (.own (ds ++ es)))) := by
 unfold sExt
 rw [h1]
 show (ga ρ).bind _ = _
 rw [h2]
 show (if ds.length + es.length <= 1000 then _ else _) = _
 rw [if_pos h3]
theorem foldl_flat {α : Type} (f : Nat -> List α) : ∀ (l : List Nat) (acc : List α), l.foldl (fun a x => a ++ f x) acc = acc ++ l.flatMap f
 | [], acc => by simp
 | x :: l, acc => by rw [List.foldl_cons, foldl_flat f l, List.flatMap_cons, List.append_assoc]
theorem foldl_pair {α : Type} (f : Nat -> List α) (g : Nat -> Sl) : ∀ (l : List Nat) (acc : List α) (s : Sl), l.foldl (fun (b : List α × Sl) x => (b.1 ++ f x, g x)) (acc, s) = (l.foldl (fun a x => a ++ f x) acc, l.foldl (fun _ x => g x) s)
 | [], acc, s => rfl
 | x :: l, acc, s => by rw [List.foldl_cons, List.foldl_cons, List.foldl_cons]; exact foldl_pair f g l _ _
noncomputable def rates (q : Int) : Int := if q = 0 then 2 else if q = 1 then 3 else if q = 2 then 3 else if q = 3 then 5 else 9
theorem rate_ok (q : Int) (h0 : 0 <= q) (h1 : q < 5) : dIx (.list [.int 2, .int 3, .int 3, .int 5, .int 9]) (.int q) = some (.int (rates q)) /\ 0 < rates q := by
 have : q = 0 ∨ q = 1 ∨ q = 2 ∨ q = 3 ∨ q = 4 := by lia
 rcases this with rfl | rfl | rfl | rfl | rfl <;> exact ⟨rfl, by decide⟩
theorem floor_ok (ns : List Int) (hn : ns.length <= 63) (at' : Int) (m : Nat) (hm : 0 < m) (hm' : m <= 5) : ∃ (w h : Nat) (W : C -> Bool), G_law_floor [scr ns, .int at', .int m] = some (flD w h W) /\ 1 <= w /\ w <= m /\ 1 <= h /\ h <= m := by
 obtain ⟨e1, w0, w1⟩ := drawn_ok ns hn at' m (by lia)
 obtain ⟨e2, h0, h1⟩ := drawn_ok ns hn (at' + 1) m (by lia)
 obtain ⟨e3, q0, q1⟩ := drawn_ok ns hn (at' + 2) 5 (by lia)
 obtain ⟨e4, r0⟩ := rate_ok _ q0 q1
 generalize dr ns at' m = dw at *
 generalize dr ns (at' + 1) m = dh at *
 generalize rates (dr ns (at' + 2) 5) = rate at *
 obtain ⟨w, hw⟩ : ∃ w : Nat, 1 + dw = w := ⟨(1 + dw).toNat, by lia⟩
 obtain ⟨h, hh⟩ : ∃ h : Nat, 1 + dh = h := ⟨(1 + dh).toNat, by lia⟩
 refine ⟨w, h, fun c => dr ns (at' + 3 + 8 * (c.1.toNat : Int) + (c.2.toNat : Int)) rate == 0, ?_, by lia, by lia, by lia, by lia⟩
 refine fn_rt ?_
 unfold g_law_floor
 rw [show startD 8 [scr ns, .int at', .int m] = [.dat (scr ns), .dat (.int at'), .dat (.int m), .no, .no, .no, .no, .no] from rfl]
 refine run_seq (by (simp only [id dn, frzAt, if_true, if_false, reduceIte, Nat.reduceAdd, Nat.reduceSub, Nat.reduceLeDiff, e1, hw] <;> rfl)) ?_
 refine run_seq (by (simp only [id dn, frzAt, if_true, if_false, reduceIte, Nat.reduceAdd, Nat.reduceSub, Nat.reduceLeDiff, e2, hh] <;> rfl)) ?_
 refine run_seq (by (simp only [id dn, frzAt, if_true, if_false, reduceIte, Nat.reduceAdd, Nat.reduceSub, Nat.reduceLeDiff, e3, e4] <;> rfl)) ?_
 refine run_seq (by (simp only [id dn, frzAt, if_true, if_false, reduceIte, Nat.reduceAdd, Nat.reduceSub, Nat.reduceLeDiff] <;> rfl)) ?_
 obtain ⟨f, hf⟩ : ∃ f : Nat -> List C, f = fun (x : Nat) => ((List.range h).filter fun (y : Nat) => dr ns (at' + 3 + 8 * (x : Int) + (y : Int)) rate == 0).map fun (y : Nat) => ((x : Int), (y : Int)) := ⟨_, rfl⟩
 have fl : ∀ x, (f x).length <= 5 := fun x => by
  rw [hf, List.length_map]
  refine Nat.le_trans (List.length_filter_le _ _) ?_
  rw [List.length_range]; lia
 refine run_seq (run_rng (n := w) rfl (by lia) (for_run (fun (k : Nat) => .int (k : Int)) (fun (b : List C × Sl) => [.dat (scr ns), .dat (.int at'), .dat (.int m), .dat (.int w), .dat (.int h), .dat (.int rate), .own (b.1.map cellD), b.2])
  (fun b x => (b.1 ++ f x, .dat (.int (x : Int)))) (fun i b => b.1.length <= 5 * i) 5 (List.range w) 0 ([], .no) (by rw [List.length_range]; lia) (Nat.le_refl _) fun x hx i b hi hp => ?_)) ?_
 ·obtain ⟨acc, s7⟩ := b
  have hp' : acc.length <= 5 * i := hp
  have hfx := fl x
  refine ⟨⟨[.dat (scr ns), .dat (.int at'), .dat (.int m), .dat (.int w), .dat (.int h), .dat (.int rate), .own (acc.map cellD), .dat (.int (x : Int))], rfl, ?_⟩, by show (acc ++ f x).length <= 5 * (i + 1); rw [List.length_append]; lia⟩
  refine (ext_some (ds := acc.map cellD) (es := (f x).map cellD) rfl ?_ (by rw [List.length_map, List.length_map]; lia)).trans ?_
  ·have := lc_run (gi := iRng1 (eCons (eV 4) eNil)) (s := uName 0) (t := eB (eOp dEq (eCall G_law_drawn (eCons (eV 2) (eCons (eOp dAdd2 (eOp dAdd2 (eOp dAdd2 (eV 4) (eC (.int 3))) (eOp dMul2 (eC (.int 8)) (eV 1))) (eV 0)) (eCons (eV 3) eNil)))) (eC (.int 0))))
    (ge := eTup (eCons (eV 1) (eCons (eV 0) eNil))) (inner := [none, some 7, some 0, some 5, some 1]) (xs := List.range h) (ρ := [.dat (scr ns), .dat (.int at'), .dat (.int m), .dat (.int w), .dat (.int h), .dat (.int rate), .own (acc.map cellD), .dat (.int (x : Int))])
    (fun (k : Nat) => .int (k : Int)) (fun (y : Nat) => dr ns (at' + 3 + 8 * (x : Int) + (y : Int)) rate == 0) (fun (y : Nat) => cellD ((x : Int), (y : Int)))
    (fun ρ => ∃ s0, ρ = [s0, .dat (.int (x : Int)), .dat (scr ns), .dat (.int rate), .dat (.int at')]) (it_rng (n := h) rfl (by lia)) (by rw [List.length_range]; lia) ⟨.no, rfl⟩ (by
     rintro y hy ρ ⟨s0, rfl⟩
     have e := (drawn_ok ns hn (at' + 3 + 8 * (x : Int) + (y : Int)) rate r0).1
     have m8 : dMul2 (.int 8) (.int (x : Int)) = some (.int (8 * (x : Int))) := mul_i (okS (by decide) (by decide))
     exact ⟨[.dat (.int (y : Int)), .dat (.int (x : Int)), .dat (scr ns), .dat (.int rate), .dat (.int at')], rfl, ⟨_, rfl⟩, by simp only [id dn, frzAt, if_true, if_false, reduceIte, Nat.reduceAdd, Nat.reduceSub, Nat.reduceLeDiff, m8, e], fun _ => rfl⟩)
   refine this.trans ?_
   rw [hf, List.map_map]
   rfl
  ·show some (Out.nx _) = some (Out.nx _)
   simp only [List.set_cons_succ, List.set_cons_zero, List.map_append]
 ·refine run_ret ?_
  rw [foldl_pair, foldl_flat]
  have ff : (List.range w).flatMap f = (cells w h).filter fun c => dr ns (at' + 3 + 8 * (c.1.toNat : Int) + (c.2.toNat : Int)) rate == 0 := by
   rw [hf]
   exact flat_filter w h fun x y => dr ns (at' + 3 + 8 * (x : Int) + (y : Int)) rate == 0
  rw [List.nil_append, ff]
  rfl
end My
namespace My
open PySem PySem.SeqAt L2 DL SD SL EL DC
theorem lay_cells : ∀ l : List C, PyData.canLayAll0 (l.map cellD) = true /\ PyData.depthAll (l.map cellD) <= 1
 | [] => ⟨rfl, Nat.zero_le _⟩
 | c :: l => by
  obtain ⟨h1, h2⟩ := lay_cells l
  refine ⟨by rw [List.map_cons, PyData.canLayAll0, h1]; rfl, ?_⟩
  rw [List.map_cons, PyData.depthAll]
  exact Nat.max_le.mpr ⟨Nat.le_refl _, h2⟩
theorem shaped_L (l : List C) : SeqAt.shaped (.list (l.map cellD)) = true := by
 obtain ⟨h1, h2⟩ := lay_cells l
 have : PyData.depth (.list (l.map cellD)) <= 64 := by show PyData.depthAll (l.map cellD) + 1 <= 64; lia
 simp [SeqAt.shaped, PyData.canLay0, h1, this]
theorem shaped_T (l : List C) : SeqAt.shaped (.tuple (l.map cellD)) = true := by
 obtain ⟨h1, h2⟩ := lay_cells l
 have : PyData.depth (.tuple (l.map cellD)) <= 64 := by show PyData.depthAll (l.map cellD) + 1 <= 64; lia
 simp [SeqAt.shaped, PyData.canLay0, h1, this]
theorem shaped_c (c : C) : SeqAt.shaped (cellD c) = true := id rfl
theorem eqv_c (a b : C) : PyData.eqv (cellD a) (cellD b) = (a == b) := by
 show ((a.1 == b.1) && ((a.2 == b.2) && true)) = _
 rw [Bool.and_true]
 obtain ⟨x, y⟩ := a
 obtain ⟨u, v⟩ := b
 rfl
theorem eqv_cs : ∀ l m : List C, PyData.eqvAll (l.map cellD) (m.map cellD) = decide (l = m)
 | [], [] => rfl
 | [], _ :: _ => rfl
 | _ :: _, [] => rfl
 | a :: l, b :: m => by
  show (PyData.eqv (cellD a) (cellD b) && PyData.eqvAll (l.map cellD) (m.map cellD)) = _
  rw [eqv_cs l m, eqv_c]
  by_cases h1 : a = b <;> by_cases h2 : l = m <;> simp [h1, h2]
theorem eq_Ls (l m : List C) : dEq (.list (l.map cellD)) (.list (m.map cellD)) = some (.bool (decide (l = m))) := by
 unfold dEq
 rw [shaped_L, shaped_L]
 show some (PyData.bool (PyData.eqvAll (l.map cellD) (m.map cellD))) = _
 rw [eqv_cs]
theorem ne_Ls (l m : List C) : dNe (.list (l.map cellD)) (.list (m.map cellD)) = some (.bool (!decide (l = m))) := by
 unfold dNe
 rw [shaped_L, shaped_L]
 show some (PyData.bool (!PyData.eqvAll (l.map cellD) (m.map cellD))) = _
 rw [eqv_cs]
theorem any_c (l : List C) (c : C) : ((l.map cellD).any fun y => PyData.eqv y (cellD c)) = l.contains c := by
 induction l with
 | nil => rfl
 | cons a l ih => rw [List.map_cons, List.any_cons, ih, eqv_c, List.contains_cons, Bool.beq_comm]
theorem in_T (neg : Bool) (c : C) (l : List C) : dIn neg (cellD c) (.tuple (l.map cellD)) = some (.bool (if neg then !l.contains c else l.contains c)) := by
 show (if (SeqAt.shaped (cellD c) && SeqAt.shaped (.tuple (l.map cellD))) = true then _ else _) = _
 rw [shaped_c, shaped_T, Bool.and_self, if_pos rfl, any_c]
theorem in_L (neg : Bool) (c : C) (l : List C) : dIn neg (cellD c) (.list (l.map cellD)) = some (.bool (if neg then !l.contains c else l.contains c)) := by
 show (if (SeqAt.shaped (cellD c) && SeqAt.shaped (.list (l.map cellD))) = true then _ else _) = _
 rw [shaped_c, shaped_L, Bool.and_self, if_pos rfl, any_c]
noncomputable def sol (w h : Nat) (W : C -> Bool) (c : C) : Bool := inR w h c && W c
theorem has_walls (w h : Nat) (W : C -> Bool) (c : C) : ((cells w h).filter W).contains c = sol w h W c := by
 rw [Bool.eq_iff_iff, List.contains_iff_mem, List.mem_filter, mem_cells]
 unfold sol
 rw [Bool.and_eq_true]
theorem in_W (neg : Bool) (c : C) (w h : Nat) (W : C -> Bool) : dIn neg (cellD c) (wallsD w h W) = some (.bool (if neg then !sol w h W c else sol w h W c)) := by
 unfold wallsD
 rw [in_T, has_walls]
theorem isD_nb (i : Int) : isD "bool" (.int i) = false := id rfl
theorem whole_i (i : Int) : Gis_whole [.int i] = some (.bool true) := by
 simp only [Gis_whole, gis_whole, id dn, frzAt, if_true, if_false, reduceIte, Nat.reduceAdd, Nat.reduceSub, Nat.reduceLeDiff, isD_nb]
theorem couple_c (c : C) : Gis_whole_couple [cellD c] = some (.bool true) := by
 simp only [Gis_whole_couple, gis_whole_couple, id dn, frzAt, if_true, if_false, reduceIte, Nat.reduceAdd, Nat.reduceSub, Nat.reduceLeDiff, whole_i, beq_self_eq_true]
theorem cell_in (w h : Nat) (W : C -> Bool) (c : C) : Gis_cell [flD w h W, cellD c] = some (.bool (inR w h c)) := by
 by_cases a1 : 0 <= c.1 <;> by_cases a2 : c.1 < w <;> by_cases a3 : 0 <= c.2 <;> by_cases a4 : c.2 < h <;>
  simp only [Gis_cell, gis_cell, id dn, frzAt, if_true, if_false, reduceIte, Nat.reduceAdd, Nat.reduceSub, Nat.reduceLeDiff, fl_0, fl_1, couple_c, inR, a1, a2, a3, a4, decide_true, decide_false, Bool.and_true, Bool.true_and, Bool.and_false, Bool.false_and]
theorem refuse_in {w h : Nat} {W : C -> Bool} {c : C} (hc : inR w h c = true) : Grefuse_off_floor [flD w h W, cellD c] = some .none := by
 simp only [Grefuse_off_floor, grefuse_off_floor, id dn, frzAt, if_true, if_false, reduceIte, Nat.reduceAdd, Nat.reduceSub, Nat.reduceLeDiff, cell_in, hc]
theorem solid_in {w h : Nat} {W : C -> Bool} {c : C} (hc : inR w h c = true) : Gis_solid [flD w h W, cellD c] = some (.bool (W c)) := by
 simp only [Gis_solid, gis_solid, id dn, frzAt, if_true, if_false, reduceIte, Nat.reduceAdd, Nat.reduceSub, Nat.reduceLeDiff, refuse_in hc, fl_2, in_W, sol, hc, Bool.true_and]
theorem open_in {w h : Nat} {W : C -> Bool} {c : C} (hc : inR w h c = true) (ho : W c = false) : Grefuse_not_open [flD w h W, cellD c] = some .none := by
 simp only [Grefuse_not_open, grefuse_not_open, id dn, frzAt, if_true, if_false, reduceIte, Nat.reduceAdd, Nat.reduceSub, Nat.reduceLeDiff, solid_in hc, ho]
end My
namespace My
open PySem PySem.SeqAt L2 DL SD SL EL DC
theorem range_cells (w h : Nat) (hh : 0 < h) : ((List.range (w * h)).map fun (i : Nat) => (((i / h : Nat) : Int), ((i % h : Nat) : Int))) = cells w h := by
 refine up_eq ?_ (up_cells w h) fun c => ?_
 ·unfold Up
  rw [List.pairwise_map]
  refine List.pairwise_lt_range.imp fun {a b} q => ?_
  rw [ltC_iff]
  dsimp only
  have h1 : a / h <= b / h := Nat.div_le_div_right (Nat.le_of_lt q)
  rcases Nat.lt_or_eq_of_le h1 with h2 | h2
  ·left; lia
  ·right
   have ea := Nat.div_add_mod a h
   have eb := Nat.div_add_mod b h
   rw [h2] at ea
   refine ⟨by lia, ?_⟩
   have : a % h < b % h := by lia
   lia
 ·rw [mem_cells, inR_iff, List.mem_map]
  constructor
  ·rintro ⟨i, hi, rfl⟩
   have := List.mem_range.mp hi
   have h1 : i / h < w := (Nat.div_lt_iff_lt_mul hh).mpr this
   have h2 : i % h < h := Nat.mod_lt _ hh
   dsimp only
   generalize i / h = a at *
   generalize i % h = b at *
   lia
  ·intro q
   refine ⟨c.1.toNat * h + c.2.toNat, List.mem_range.mpr ?_, ?_⟩
   ·have : c.1.toNat + 1 <= w := by lia
    have h3 := Nat.mul_le_mul_right h this
    rw [Nat.succ_mul] at h3
    lia
   ·have h2 : c.2.toNat < h := by lia
    have d : (c.1.toNat * h + c.2.toNat) / h = c.1.toNat := by
     rw [Nat.mul_comm, Nat.mul_add_div hh, Nat.div_eq_of_lt h2, Nat.add_zero]
    have m : (c.1.toNat * h + c.2.toNat) % h = c.2.toNat := by
     rw [Nat.mul_comm, Nat.mul_add_mod, Nat.mod_eq_of_lt h2]
    rw [d, m]
    exact Prod.ext (by dsimp only; lia) (by dsimp only; lia)
theorem law_cells {w h : Nat} {W : C -> Bool} (hw : w <= 5) (hh : 0 < h) (hh' : h <= 5) : G_law_cells [flD w h W] = some (.list ((cells w h).map cellD)) := by
 have hwh : w * h <= 25 := Nat.mul_le_mul hw hh'
 have m : dMul2 (.int w) (.int h) = some (.int ((w * h : Nat) : Int)) := by rw [mul_i (okS (by lia) (by lia))]; rfl
 refine fn_rt (run_ret (lc_out (xs := List.range (w * h)) (fun (k : Nat) => .int (k : Int)) (fun _ => true) (fun (i : Nat) => cellD (((i / h : Nat) : Int), ((i % h : Nat) : Int))) (fun ρ => ∃ s0, ρ = [s0, .dat (flD w h W)]) (it_rng (n := w * h) ?_ (by lia)) (by rw [List.length_range]; lia) ⟨_, rfl⟩ ?_ ?_))
 ·simp only [id dn, frzAt, if_true, if_false, reduceIte, Nat.reduceAdd, Nat.reduceSub, Nat.reduceLeDiff, fl_0, fl_1, m]
 ·rintro i _ ρ ⟨s0, rfl⟩
  have d : dFdiv (.int (i : Int)) (.int h) = some (.int ((i / h : Nat) : Int)) := by rw [fdiv_i (okD (by lia) (by lia))]; rfl
  have q : dMod (.int (i : Int)) (.int h) = some (.int ((i % h : Nat) : Int)) := by rw [mod_i (by lia)]; rfl
  exact ⟨[.dat (.int (i : Int)), .dat (flD w h W)], rfl, ⟨_, rfl⟩, rfl, fun _ => by simp only [id dn, frzAt, if_true, if_false, reduceIte, Nat.reduceAdd, Nat.reduceSub, Nat.reduceLeDiff, fl_1, d, q]⟩
 ·rw [filter_true, <- range_cells w h hh, List.map_map]
  rfl
theorem all_eq {w h : Nat} {W : C -> Bool} (hw : w <= 5) (hh' : h <= 5) : Gall_cells [flD w h W] = some (.list ((cells w h).map cellD)) := by
 obtain ⟨f, hf⟩ : ∃ f : Nat -> List C, f = fun (x : Nat) => (List.range h).map fun (y : Nat) => ((x : Int), (y : Int)) := ⟨_, rfl⟩
 refine fn_rt ?_
 unfold gall_cells
 rw [show startD 3 [flD w h W] = [.dat (flD w h W), .no, .no] from rfl]
 refine run_seq (by (simp only [id dn, frzAt, if_true, if_false, reduceIte, Nat.reduceAdd, Nat.reduceSub, Nat.reduceLeDiff] <;> rfl)) ?_
 refine run_seq (run_rng (n := w) (by simp only [id dn, frzAt, if_true, if_false, reduceIte, Nat.reduceAdd, Nat.reduceSub, Nat.reduceLeDiff, fl_0]) (by lia) (for_run (fun (k : Nat) => .int (k : Int)) (fun (b : List C × Sl) => [.dat (flD w h W), .own (b.1.map cellD), b.2])
  (fun b x => (b.1 ++ f x, .dat (.int (x : Int)))) (fun i b => b.1.length <= 5 * i) 5 (List.range w) 0 ([], .no) (by rw [List.length_range]; lia) (Nat.le_refl _) fun x hx i b hi hp => ?_)) ?_
 ·obtain ⟨acc, s7⟩ := b
  have hp' : acc.length <= 5 * i := hp
  have hfx : (f x).length <= 5 := by rw [hf, List.length_map, List.length_range]; exact hh'
  refine ⟨⟨[.dat (flD w h W), .own (acc.map cellD), .dat (.int (x : Int))], rfl, ?_⟩, by show (acc ++ f x).length <= 5 * (i + 1); rw [List.length_append]; lia⟩
  refine (ext_some (ds := acc.map cellD) (es := (f x).map cellD) rfl (lc_out (xs := List.range h) (fun (k : Nat) => .int (k : Int)) (fun _ => true) (fun (y : Nat) => cellD ((x : Int), (y : Int))) (fun ρ => ∃ s0, ρ = [s0, .dat (.int (x : Int))]) (it_rng (n := h) (by simp only [id dn, frzAt, if_true, if_false, reduceIte, Nat.reduceAdd, Nat.reduceSub, Nat.reduceLeDiff, fl_1]) (by lia)) (by rw [List.length_range]; lia) ⟨.no, rfl⟩ ?_ ?_) (by rw [List.length_map, List.length_map]; lia)).trans ?_
  ·rintro y hy ρ ⟨s0, rfl⟩
   exact ⟨[.dat (.int (y : Int)), .dat (.int (x : Int))], rfl, ⟨_, rfl⟩, rfl, fun _ => rfl⟩
  ·rw [filter_true, hf, List.map_map]
   rfl
  ·show some (Out.nx _) = some (Out.nx _)
   simp only [List.set_cons_succ, List.set_cons_zero, List.map_append]
 ·refine run_ret ?_
  rw [foldl_pair, foldl_flat, List.nil_append, hf]
  rfl
theorem rowsI_c : ∀ l : List C, rowsI (l.map cellD) = some (l.map row)
 | [] => rfl
 | c :: l => by
  show (intsD [.int c.1, .int c.2]).bind (fun is => (rowsI (l.map cellD)).bind fun rs => some (is :: rs)) = _
  rw [rowsI_c l]
  rfl
theorem row_inj {a b : C} (q : row a = row b) : a = b := by
 unfold row at q
 injection q with q1 q2
 injection q2 with q2 _
 exact Prod.ext q1 q2
theorem nodup_rows {l : List C} (h : l.Nodup) : (l.map row).Nodup := by
 rw [List.Nodup, List.pairwise_map]
 exact h.imp fun {a b} q r => q (row_inj r)
theorem has_row (l : List C) (c : C) : (l.map row).contains (row c) = l.contains c := by
 rw [Bool.eq_iff_iff, List.contains_iff_mem, List.contains_iff_mem, List.mem_map]
 constructor
 ·rintro ⟨d, hd, e⟩; rw [<- row_inj e]; exact hd
 ·intro h; exact ⟨c, h, rfl⟩
theorem open_eq {w h : Nat} {W : C -> Bool} (hw : w <= 5) (hh' : h <= 5) : Gopen_cells [flD w h W] = some (.list (((cells w h).filter fun c => !W c).map cellD)) := by
 have hwh : (cells w h).length <= 25 := by rw [cells_len]; exact Nat.mul_le_mul hw hh'
 have lf := List.length_filter_le W (cells w h)
 have lg := List.length_filter_le (fun c => !W c) (cells w h)
 have s1 : setD [.list ((cells w h).map cellD)] = some ((cells w h).map row) := by
  show (if _ then _ else _) = _
  rw [if_pos (by rw [List.length_map]; lia), rowsI_c]
 have s2 : setD [wallsD w h W] = some (((cells w h).filter W).map row) := by
  show (if _ then _ else _) = _
  rw [if_pos (by rw [List.length_map]; lia), rowsI_c]
 have fe : ((cells w h).map row).filter (fun k => !(((cells w h).filter W).map row).contains k) = ((cells w h).filter fun c => !W c).map row := by
  rw [List.filter_map]
  congr 1
  refine List.filter_congr fun c hc => ?_
  show (!(((cells w h).filter W).map row).contains (row c)) = _
  rw [has_row, has_walls]
  unfold sol
  rw [mem_cells.mp hc, Bool.true_and]
 have up := up_filter (up_cells w h) fun c => !W c
 refine fn_rt (run_ret ?_)
 unfold eSortSet eDiff eSet
 simp only [id dn, frzAt, if_true, if_false, reduceIte, Nat.reduceAdd, Nat.reduceSub, Nat.reduceLeDiff, all_eq (W := W) hw hh', fl_2, s1, s2]
 rw [if_pos (by rw [List.length_map]; lia), Option.bind_some, fe, dd_id _ (nodup_rows (up_nodup up)), rows_cell]
 exact sorted_up (up_nodup up) (by lia) up fun c => Iff.rfl
noncomputable def mkD (l : List C) : D := .dict (l.map fun c => (cellD c, .bool true))
theorem dec_c (c : C) : decT (cellD c) = some (row c) := id rfl
theorem has_mk (l : List C) (c : C) : hasD (l.map fun c => (cellD c, PyData.bool true)) (row c) = l.contains c := by
 unfold hasD
 rw [List.any_map]
 induction l with
 | nil => rfl
 | cons a l ih =>
  rw [List.any_cons, ih, List.contains_cons]
  congr 1
  show (decT (cellD a) == some (row c)) = _
  rw [dec_c, Bool.eq_iff_iff, beq_iff_eq, beq_iff_eq]
  constructor
  ·intro q; exact (row_inj (Option.some.inj q)).symm
  ·intro q; rw [q]
theorem flat_mk (l : List C) : flatK (l.map fun c => (cellD c, PyData.bool true)) = true := by
 unfold flatK
 rw [List.all_map, List.all_eq_true]
 intro c _
 rfl
theorem in_mk (neg : Bool) (c : C) (l : List C) : dIn2 neg (cellD c) (mkD l) = some (.bool (if neg then !l.contains c else l.contains c)) := by
 show (decT (cellD c)).bind (fun k => if flatK (l.map fun c => (cellD c, PyData.bool true)) = true then some (PyData.bool (if neg then !hasD (l.map fun c => (cellD c, PyData.bool true)) k else hasD (l.map fun c => (cellD c, PyData.bool true)) k)) else none) = _
 rw [dec_c, Option.bind_some, flat_mk, if_pos rfl, has_mk]
theorem pairs_mk : ∀ l : List C, pairsD (l.map fun c => PyData.tuple [cellD c, .bool true]) = some (l.map fun c => (row c, .bool true))
 | [] => rfl
 | c :: l => by
  show (pairD (.tuple [cellD c, .bool true])).bind (fun p => (pairsD (l.map fun c => PyData.tuple [cellD c, .bool true])).bind fun ps => some (p :: ps)) = _
  rw [pairs_mk l]
  rfl
theorem put_mk (l : List C) (c : C) (h : c ∉ l) : putD (l.map fun c => (cellD c, PyData.bool true)) (row c) (.bool true) = (l ++ [c]).map fun c => (cellD c, PyData.bool true) := by
 unfold putD
 rw [has_mk, if_neg (by rw [List.contains_iff_mem]; exact h), List.map_append]
 rfl
theorem dict_mk : ∀ (l acc : List C), (acc ++ l).Nodup -> (l.map fun c => (row c, PyData.bool true)).foldl (fun kvs p => putD kvs p.1 p.2) (acc.map fun c => (cellD c, PyData.bool true)) = (acc ++ l).map fun c => (cellD c, PyData.bool true)
 | [], acc, _ => by rw [List.append_nil]; rfl
 | c :: l, acc, h => by
  have hc : c ∉ acc := by
   rw [List.nodup_append] at h
   exact fun q => h.2.2 c q c List.mem_cons_self rfl
  rw [List.map_cons, List.foldl_cons]
  show (l.map _).foldl _ (putD _ (row c) (.bool true)) = _
  rw [put_mk acc c hc, dict_mk l (acc ++ [c]) (by rw [List.append_assoc]; exact h), List.append_assoc]
  rfl
theorem marked_eq {l : List C} {d : D} (hd : seqD d = some (l.map cellD)) (hl : l.length <= 1000) (hn : l.Nodup) : Gmarked [d] = some (mkD l) := by
 refine fn_rt (run_ret (run_call (ds := [.list (l.map fun c => PyData.tuple [cellD c, .bool true])]) ?_ ?_))
 ·have lc := lc_out (gi := iSeq (eV 0)) (s := uName 0) (t := eT) (ge := eTup (eCons (eV 0) (eCons (eC (.bool true)) eNil))) (inner := [none]) (ρ := (startD 1 [d]).map frz) (xs := l) cellD (fun _ => true) (fun c => PyData.tuple [cellD c, .bool true]) (fun ρ => ∃ s0, ρ = [s0]) (it_seq rfl hd) hl ⟨_, rfl⟩ (by
   rintro c _ ρ ⟨s0, rfl⟩
   exact ⟨[.dat (cellD c)], rfl, ⟨_, rfl⟩, rfl, fun _ => rfl⟩) (by rw [filter_true])
  simp only [id dn, frzAt, if_true, if_false, reduceIte, Nat.reduceAdd, Nat.reduceSub, Nat.reduceLeDiff] at lc ⊢
  rw [lc]
  rfl
 ·show (if _ then _ else _) = _
  rw [if_pos (by rw [List.length_map]; exact hl), pairs_mk, Option.bind_some]
  have := dict_mk l [] (by simpa using hn)
  rw [List.nil_append] at this
  unfold dictD mkD
  rw [<- this]
  rfl
theorem marked_W {w h : Nat} {W : C -> Bool} (hw : w <= 5) (hh' : h <= 5) : Gmarked [wallsD w h W] = some (mkD ((cells w h).filter W)) := by
 have hwh : (cells w h).length <= 25 := by rw [cells_len]; exact Nat.mul_le_mul hw hh'
 have lf := List.length_filter_le W (cells w h)
 exact marked_eq rfl (by lia) (up_nodup (up_filter (up_cells w h) W))
noncomputable def solD (w h : Nat) (W : C -> Bool) : D := mkD ((cells w h).filter W)
theorem in_sol (neg : Bool) (c : C) (w h : Nat) (W : C -> Bool) : dIn2 neg (cellD c) (solD w h W) = some (.bool (if neg then !sol w h W c else sol w h W c)) := by
 unfold solD
 rw [in_mk, has_walls]
end My
namespace My
open PySem PySem.SeqAt L2 DL SD SL EL DC
structure WS where
 gx : Int
 gy : Int
 cs : List C
 s9 : Sl
 s10 : Sl
noncomputable def envC (a b : C) (fx fy wx wy : Int) (s : WS) : Rho := [.dat (cellD a), .dat (cellD b), .dat (.int fx), .dat (.int fy), .dat (.int wx), .dat (.int wy), .dat (.int s.gx), .dat (.int s.gy), .own (s.cs.map cellD), s.s9, s.s10]
noncomputable def condC (fx fy : Int) (s : WS) : Bool := decide (s.gx < fx) || decide (s.gy < fy)
noncomputable def nxX (fx fy : Int) (s : WS) : Int := if (2 * s.gx + 1) * fy <= (2 * s.gy + 1) * fx then s.gx + 1 else s.gx
noncomputable def nxY (fx fy : Int) (s : WS) : Int := if (2 * s.gy + 1) * fx <= (2 * s.gx + 1) * fy then s.gy + 1 else s.gy
noncomputable def stepC (a : C) (fx fy wx wy : Int) (s : WS) : WS := ⟨nxX fx fy s, nxY fx fy s, s.cs ++ [(a.1 + wx * nxX fx fy s, a.2 + wy * nxY fx fy s)], .dat (.int ((2 * s.gx + 1) * fy)), .dat (.int ((2 * s.gy + 1) * fx))⟩
theorem iter_walk (a : C) (fx fy wx wy : Int) : ∀ (n : Nat) (s : WS) (st : List C), walkM fx fy n s.gx s.gy = some st -> ∃ s', iterN (condC fx fy) (stepC a fx fy wx wy) n s = some s' /\ s'.cs = s.cs ++ st.map fun g => (a.1 + wx * g.1, a.2 + wy * g.2)
 | 0, _, _, h => by cases h
 | n + 1, s, st, h => by
  unfold walkM at h
  unfold iterN
  by_cases c : s.gx < fx ∨ s.gy < fy
  ·rw [if_pos c] at h
   obtain ⟨r, e, h⟩ := bnd h
   cases h
   rw [if_pos (by unfold condC; rw [Bool.or_eq_true, decide_eq_true_eq, decide_eq_true_eq]; exact c)]
   obtain ⟨s', e1, e2⟩ := iter_walk a fx fy wx wy n (stepC a fx fy wx wy s) r e
   refine ⟨s', e1, ?_⟩
   rw [e2]
   show (s.cs ++ [_]) ++ _ = _
   rw [List.append_assoc]
   rfl
  ·rw [if_neg c] at h
   cases h
   rw [if_neg (by unfold condC; rw [Bool.or_eq_true, decide_eq_true_eq, decide_eq_true_eq]; exact c)]
   exact ⟨s, rfl, by simp⟩
theorem crossed_eq {a b : C} (n : Near a b) : Gcrossed [cellD a, cellD b] = some (.list ((line a b).map cellD)) := by
 have O := n.ok
 obtain ⟨st, e, h⟩ := bnd O.some
 have sa : -100 < sgn (b.1 - a.1) /\ sgn (b.1 - a.1) < 100 := by unfold sgn; split <;> lia
 have sb : -100 < sgn (b.2 - a.2) /\ sgn (b.2 - a.2) < 100 := by unfold sgn; split <;> lia
 obtain ⟨n1, n2, n3, n4⟩ := n
 have ia : 0 <= iabs (b.1 - a.1) /\ iabs (b.1 - a.1) < 100 := by unfold iabs; split <;> lia
 have ib : 0 <= iabs (b.2 - a.2) /\ iabs (b.2 - a.2) < 100 := by unfold iabs; split <;> lia
 have hlen : st.length <= 8 := by
  have := O.len
  rw [<- Option.some.inj h, List.length_cons, List.length_map] at this
  lia
 have i1 : (if decide (a.1 < b.1) = true then some (PyData.int 1) else some (.int (-1))) = some (.int (sgn (b.1 - a.1))) := by
  unfold sgn
  by_cases c : a.1 < b.1
  ·rw [if_pos (decide_eq_true c), if_pos (by lia)]
  ·rw [if_neg (by simpa using c), if_neg (by lia)]
 have i2 : (if decide (a.2 < b.2) = true then some (PyData.int 1) else some (.int (-1))) = some (.int (sgn (b.2 - a.2))) := by
  unfold sgn
  by_cases c : a.2 < b.2
  ·rw [if_pos (decide_eq_true c), if_pos (by lia)]
  ·rw [if_neg (by simpa using c), if_neg (by lia)]
 have d1 : (if b.1 - a.1 < 0 then -(b.1 - a.1) else b.1 - a.1) = iabs (b.1 - a.1) := rfl
 have d2 : (if b.2 - a.2 < 0 then -(b.2 - a.2) else b.2 - a.2) = iabs (b.2 - a.2) := rfl
 obtain ⟨s', it, cs'⟩ := iter_walk a (iabs (b.1 - a.1)) (iabs (b.2 - a.2)) (sgn (b.1 - a.1)) (sgn (b.2 - a.2)) 900 ⟨0, 0, [a], .no, .no⟩ st e
 have hline : line a b = s'.cs := by
  rw [cs']
  unfold line
  rw [<- Option.some.inj h, List.map_cons, List.map_map]
  show _ :: _ = _ :: _
  congr 1
  exact Prod.ext (by show a.1 + 0 = a.1; lia) (by show a.2 + 0 = a.2; lia)
 rw [hline]
 generalize iabs (b.1 - a.1) = fx at *
 generalize iabs (b.2 - a.2) = fy at *
 generalize sgn (b.1 - a.1) = wx at *
 generalize sgn (b.2 - a.2) = wy at *
 refine fn_rt ?_
 unfold gcrossed
 rw [show startD 11 [cellD a, cellD b] = [.dat (cellD a), .dat (cellD b), .no, .no, .no, .no, .no, .no, .no, .no, .no] from rfl]
 refine run_seq (by (simp only [id dn, frzAt, if_true, if_false, reduceIte, Nat.reduceAdd, Nat.reduceSub, Nat.reduceLeDiff, d1] <;> rfl)) ?_
 refine run_seq (by (simp only [id dn, frzAt, if_true, if_false, reduceIte, Nat.reduceAdd, Nat.reduceSub, Nat.reduceLeDiff, d2] <;> rfl)) ?_
 refine run_seq (by (simp only [id dn, frzAt, if_true, if_false, reduceIte, Nat.reduceAdd, Nat.reduceSub, Nat.reduceLeDiff, i1] <;> rfl)) ?_
 refine run_seq (by (simp only [id dn, frzAt, if_true, if_false, reduceIte, Nat.reduceAdd, Nat.reduceSub, Nat.reduceLeDiff, i2] <;> rfl)) ?_
 refine run_seq (by (simp only [id dn, frzAt, if_true, if_false, reduceIte, Nat.reduceAdd, Nat.reduceSub, Nat.reduceLeDiff] <;> rfl)) ?_
 refine run_seq (by (simp only [id dn, frzAt, if_true, if_false, reduceIte, Nat.reduceAdd, Nat.reduceSub, Nat.reduceLeDiff] <;> rfl)) ?_
 refine run_seq (by (simp only [id dn, frzAt, if_true, if_false, reduceIte, Nat.reduceAdd, Nat.reduceSub, Nat.reduceLeDiff] <;> rfl)) ?_
 have m1 : ∀ i : Int, dMul2 (.int 2) (.int i) = some (.int (2 * i)) := fun i => mul_i (okS (by lia) (by lia))
 have m2 : ∀ i : Int, dMul2 (.int i) (.int fy) = some (.int (i * fy)) := fun i => mul_i (okT (by lia) (by lia))
 have m3 : ∀ i : Int, dMul2 (.int i) (.int fx) = some (.int (i * fx)) := fun i => mul_i (okT (by lia) (by lia))
 have m4 : ∀ i : Int, dMul2 (.int wx) (.int i) = some (.int (wx * i)) := fun i => mul_i (okS (by lia) (by lia))
 have m5 : ∀ i : Int, dMul2 (.int wy) (.int i) = some (.int (wy * i)) := fun i => mul_i (okS (by lia) (by lia))
 refine run_seq (while_run (envC a b fx fy wx wy) (condC fx fy) (stepC a fx fy wx wy) (fun n s => s.cs.length + n <= 901) (fun n s hp => ?_) (fun n s hp hc => ⟨?_, ?_⟩) 900 ⟨0, 0, [a], .no, .no⟩ s' (by show 1 + 900 <= 901; lia) it) ?_
 ·unfold envC condC
  simp only [id dn, frzAt, if_true, if_false, reduceIte, Nat.reduceAdd, Nat.reduceSub, Nat.reduceLeDiff]
  by_cases c : s.gx < fx <;> simp [c]
 ·have hl : (s.cs.map cellD).length < 1000 := by rw [List.length_map]; lia
  unfold envC stepC nxX nxY
  by_cases c1 : (2 * s.gx + 1) * fy <= (2 * s.gy + 1) * fx <;> by_cases c2 : (2 * s.gy + 1) * fx <= (2 * s.gx + 1) * fy <;>
   simp only [id dn, frzAt, if_true, if_false, reduceIte, Nat.reduceAdd, Nat.reduceSub, Nat.reduceLeDiff, m1, m2, m3, m4, m5, c1, c2, decide_true, decide_false, hl, List.map_append]
 ·show (s.cs ++ [_]).length + n <= 901
  rw [List.length_append, List.length_singleton]
  lia
 ·refine run_ret ?_
  unfold envC
  simp only [id dn, frzAt, if_true, if_false, reduceIte, Nat.reduceAdd, Nat.reduceSub, Nat.reduceLeDiff]
end My
namespace My
open PySem PySem.SeqAt L2 DL SD SL EL DC
abbrev Cp := C × C
noncomputable def cpD (p : Cp) : D := .tuple [cellD p.1, cellD p.2]
noncomputable def two (p q : C) : Cp := if ltC q p = true then (q, p) else (p, q)
noncomputable def pinC (p : Cp) : Cp := two (p.1.1, p.2.2) (p.2.1, p.1.2)
noncomputable def prs (l : List C) : List Cp := ((l.zip l.tail).filter fun p => diag p.1 p.2).map pinC
theorem two_sees (S : C -> Bool) (p q : C) : (S (two p q).1 && S (two p q).2) = (S p && S q) := by
 unfold two
 split
 ·exact Bool.and_comm _ _
 ·rfl
theorem prs_ok (S : C -> Bool) : ∀ l : List C, (prs l).all (fun p => !(S p.1 && S p.2)) = pinOK S l
 | [] => rfl
 | [a] => rfl
 | a :: b :: l => by
  have ih := prs_ok S (b :: l)
  unfold prs at ih ⊢
  rw [pin_cons]
  show ((((a, b) :: (b :: l).zip (b :: l).tail).filter fun p => diag p.1 p.2).map pinC).all _ = _
  rw [List.filter_cons]
  dsimp only
  cases diag a b with
  | true =>
   rw [if_pos rfl, List.map_cons, List.all_cons, ih]
   congr 1
   show (!(S (two (a.1, b.2) (b.1, a.2)).1 && S (two (a.1, b.2) (b.1, a.2)).2)) = _
   rw [two_sees]
   rfl
  | false => rw [if_neg Bool.false_ne_true, ih]; rfl
theorem sorted_2 (p q : C) : dSorted [.list [cellD p, cellD q]] = some (.list [cellD (two p q).1, cellD (two p q).2]) := by
 have := sorted_rows (l := [row p, row q]) (by intro k hk; rcases List.mem_cons.mp hk with rfl | hk; rfl; rcases List.mem_cons.mp hk with rfl | hk; rfl; cases hk) (by show 2 <= 63; decide)
 refine this.trans ?_
 show some (PyData.list ((if HT.lexLt (row q) (row p) = true then [row q, row p] else [row p, row q]).map tupI)) = _
 unfold two ltC
 split <;> rfl
theorem zip_cells : ∀ l m : List C, List.zipWith (fun x y => PyData.tuple [x, y]) (l.map cellD) (m.map cellD) = (l.zip m).map cpD
 | [], _ => rfl
 | _ :: _, [] => rfl
 | a :: l, b :: m => by rw [List.map_cons, List.map_cons, List.zipWith_cons_cons, zip_cells l m]; rfl
theorem cut_tail (l : List C) : DL.cutD (l.map cellD) (some 1) none = l.tail.map cellD := by
 cases l with
 | nil => rfl
 | cons a l =>
  unfold DL.cutD
  have e1 : HT.sIx ((a :: l).map cellD).length 0 (some 1) = 1 := by
   have := HT.sIx_nat ((a :: l).map cellD).length 0 1
   rw [show ((1 : Nat) : Int) = 1 from rfl] at this
   rw [this, List.length_map, List.length_cons]
   lia
  rw [e1, HT.sIx_none]
  simp
  exact List.take_of_length_le (by simp)
theorem cut_last (l : List C) : DL.cutD (l.map cellD) none (some (-1)) = l.dropLast.map cellD := by
 unfold DL.cutD
 rw [HT.sIx_none]
 have e1 : HT.sIx (l.map cellD).length (l.map cellD).length (some (-1)) = l.length - 1 := by
  unfold HT.sIx
  simp
  lia
 rw [e1, List.drop_zero, Nat.sub_zero, List.dropLast_eq_take, List.map_take]
theorem beside_eq (l : List C) (hl : l.length <= 500) : Gcouples_beside [.list (l.map cellD)] = some (.list ((prs l).map cpD)) := by
 have hz : (l.zip l.tail).length <= 500 := by rw [List.length_zip]; lia
 refine fn_rt ?_
 unfold gcouples_beside
 rw [show startD 4 [.list (l.map cellD)] = [.dat (.list (l.map cellD)), .no, .no, .no] from rfl]
 refine run_seq (by (simp only [id dn, frzAt, if_true, if_false, reduceIte, Nat.reduceAdd, Nat.reduceSub, Nat.reduceLeDiff] <;> rfl)) ?_
 have it : iZip (eCons (eV 0) (eCons (eSl2 (eV 0) (oE (eC (.int 1))) oNo) eNil)) [.dat (.list (l.map cellD)), .own [], .no, .no] = some ((l.zip l.tail).map cpD) := by
  show some (List.zipWith (fun x y => PyData.tuple [x, y]) (l.map cellD) (DL.cutD (l.map cellD) (some 1) none)) = _
  rw [cut_tail, zip_cells]
 refine run_seq (run_for it (for_run cpD (fun (b : List Cp × Sl × Sl) => [.dat (.list (l.map cellD)), .own (b.1.map cpD), b.2.1, b.2.2]) (fun b p => (if diag p.1 p.2 = true then b.1 ++ [pinC p] else b.1, .dat (cellD p.1), .dat (cellD p.2))) (fun i b => b.1.length <= i) 500 (l.zip l.tail) 0 ([], .no, .no) (by lia) (Nat.le_refl _) fun p _ i b hi hp => ?_)) ?_
 ·obtain ⟨acc, s2, s3⟩ := b
  have hp' : acc.length <= i := hp
  have hlt : (acc.map cpD).length < 1000 := by rw [List.length_map]; lia
  refine ⟨⟨[.dat (.list (l.map cellD)), .own (acc.map cpD), .dat (cellD p.1), .dat (cellD p.2)], rfl, ?_⟩, ?_⟩
  ·have mk : PyData.tuple [cellD (two (p.1.1, p.2.2) (p.2.1, p.1.2)).1, cellD (two (p.1.1, p.2.2) (p.2.1, p.1.2)).2] = cpD (pinC p) := rfl
   unfold diag
   by_cases c1 : p.1.1 = p.2.1 <;> by_cases c2 : p.1.2 = p.2.2 <;>
    simp only [id dn, frzAt, if_true, if_false, reduceIte, Nat.reduceAdd, Nat.reduceSub, Nat.reduceLeDiff, sorted_2, mk, c1, c2, beq_self_eq_true, beq_eq_false_iff_ne.mpr, beq_eq_false_iff_ne, ne_eq, not_false_eq_true, Bool.and_true, Bool.and_false, Bool.true_and, hlt, List.map_append] <;> simp [c1, c2, mk, id dn, frzAt, if_true, if_false, reduceIte, Nat.reduceAdd, Nat.reduceSub, Nat.reduceLeDiff, sorted_2, hlt]
  ·show (if diag p.1 p.2 = true then acc ++ [pinC p] else acc).length <= i + 1
   split
   ·rw [List.length_append, List.length_singleton]; lia
   ·lia
 ·have fold : ∀ (zs : List Cp) (b : List Cp × Sl × Sl), (zs.foldl (fun (b : List Cp × Sl × Sl) p => (if diag p.1 p.2 = true then b.1 ++ [pinC p] else b.1, Sl.dat (cellD p.1), Sl.dat (cellD p.2))) b).1 = b.1 ++ (zs.filter fun p => diag p.1 p.2).map pinC := by
   intro zs
   induction zs with
   | nil => intro b; simp
   | cons z zs ih =>
    intro b
    rw [List.foldl_cons, ih, List.filter_cons]
    dsimp only
    cases diag z.1 z.2 with
    | true => rw [if_pos rfl, if_pos rfl, List.map_cons, List.append_assoc]; rfl
    | false => rw [if_neg Bool.false_ne_true, if_neg Bool.false_ne_true]
  refine run_ret ?_
  simp only [id dn, frzAt, if_true, if_false, reduceIte, Nat.reduceAdd, Nat.reduceSub, Nat.reduceLeDiff, fold]
  rfl
theorem sees_eq0 {w h : Nat} {W : C -> Bool} {a b : C} (n : Near a b) : Glets_see [solD w h W, cellD a, cellD b] = some (.bool (clear (sol w h W) a b)) := by
 have ll : (line a b).length <= 9 := by unfold line; rw [List.length_map]; exact n.ok.len
 have ld : (line a b).dropLast.length <= 9 := by rw [List.length_dropLast]; lia
 refine fn_rt ?_
 unfold glets_see
 rw [show startD 7 [solD w h W, cellD a, cellD b] = [.dat (solD w h W), .dat (cellD a), .dat (cellD b), .no, .no, .no, .no] from rfl]
 refine run_seq (by (simp only [id dn, frzAt, if_true, if_false, reduceIte, Nat.reduceAdd, Nat.reduceSub, Nat.reduceLeDiff, crossed_eq n] <;> rfl)) ?_
 have l1 := for_any (s := uName 4) (g := sIf (eB (eOp (dIn2 false) (eV 4) (eV 0))) (sRet (eC (.bool false))) sSkip) cellD (fun ρ => ∃ s4, ρ = [.dat (solD w h W), .dat (cellD a), .dat (cellD b), .dat (.list ((line a b).map cellD)), s4, .no, .no]) (sol w h W) (.bool false) (line a b).dropLast [.dat (solD w h W), .dat (cellD a), .dat (cellD b), .dat (.list ((line a b).map cellD)), .no, .no, .no] ⟨_, rfl⟩ (by
  rintro c _ ρ ⟨s4, rfl⟩
  refine ⟨[.dat (solD w h W), .dat (cellD a), .dat (cellD b), .dat (.list ((line a b).map cellD)), .dat (cellD c), .no, .no], rfl, ?_⟩
  cases q : sol w h W c with
  | true => rw [if_pos rfl]; simp only [id dn, frzAt, if_true, if_false, reduceIte, Nat.reduceAdd, Nat.reduceSub, Nat.reduceLeDiff, in_sol, q]
  | false => rw [if_neg Bool.false_ne_true]; exact ⟨_, by (simp only [id dn, frzAt, if_true, if_false, reduceIte, Nat.reduceAdd, Nat.reduceSub, Nat.reduceLeDiff, in_sol, q] <;> rfl), ⟨_, rfl⟩⟩)
 have i1 : iSeq (eSl2 (eV 3) oNo (oE (eUn dNeg (eC (.int 1))))) [.dat (solD w h W), .dat (cellD a), .dat (cellD b), .dat (.list ((line a b).map cellD)), .no, .no, .no] = some ((line a b).dropLast.map cellD) := by
  show some (cutD ((line a b).map cellD) none (some (-1))) = _
  rw [cut_last]
 unfold clear
 by_cases c1 : (line a b).dropLast.any (sol w h W) = true
 ·rw [if_pos c1] at l1
  refine (run_rt (run_for i1 l1)).trans ?_
  have : (line a b).dropLast.all (fun c => !sol w h W c) = false := by
   rw [List.all_eq_not_any_not]
   simp only [Bool.not_not]
   rw [c1]; rfl
  rw [this]
  rfl
 ·rw [if_neg c1] at l1
  obtain ⟨ρ', e1, s4, rfl⟩ := l1
  refine run_seq (run_for i1 e1) ?_
  have a1 : (line a b).dropLast.all (fun c => !sol w h W c) = true := by
   rw [List.all_eq_not_any_not]
   simp only [Bool.not_not]
   rw [Bool.not_eq_true] at c1
   rw [c1]; rfl
  rw [a1, Bool.true_and, <- prs_ok]
  have l2 := for_any (s := uTup 2 (uCons (uName 5) (uCons (uName 6) uNil))) (g := sIf (eAnd (eB (eOp (dIn2 false) (eV 5) (eV 0))) (eB (eOp (dIn2 false) (eV 6) (eV 0)))) (sRet (eC (.bool false))) sSkip) cpD (fun ρ => ∃ s5 s6, ρ = [.dat (solD w h W), .dat (cellD a), .dat (cellD b), .dat (.list ((line a b).map cellD)), s4, s5, s6]) (fun p => sol w h W p.1 && sol w h W p.2) (.bool false) (prs (line a b)) [.dat (solD w h W), .dat (cellD a), .dat (cellD b), .dat (.list ((line a b).map cellD)), s4, .no, .no] ⟨_, _, rfl⟩ (by
   rintro p _ ρ ⟨s5, s6, rfl⟩
   refine ⟨[.dat (solD w h W), .dat (cellD a), .dat (cellD b), .dat (.list ((line a b).map cellD)), s4, .dat (cellD p.1), .dat (cellD p.2)], rfl, ?_⟩
   cases q1 : sol w h W p.1 <;> cases q2 : sol w h W p.2
   ·exact ⟨_, by (simp only [id dn, frzAt, if_true, if_false, reduceIte, Nat.reduceAdd, Nat.reduceSub, Nat.reduceLeDiff, in_sol, q1, q2] <;> rfl), ⟨_, _, rfl⟩⟩
   ·exact ⟨_, by (simp only [id dn, frzAt, if_true, if_false, reduceIte, Nat.reduceAdd, Nat.reduceSub, Nat.reduceLeDiff, in_sol, q1, q2] <;> rfl), ⟨_, _, rfl⟩⟩
   ·exact ⟨_, by (simp only [id dn, frzAt, if_true, if_false, reduceIte, Nat.reduceAdd, Nat.reduceSub, Nat.reduceLeDiff, in_sol, q1, q2] <;> rfl), ⟨_, _, rfl⟩⟩
   ·show sIf _ _ _ _ = _
    simp only [id dn, frzAt, if_true, if_false, reduceIte, Nat.reduceAdd, Nat.reduceSub, Nat.reduceLeDiff, in_sol, q1, q2])
  have i2 : iSeq (eCall Gcouples_beside (eCons (eV 3) eNil)) [.dat (solD w h W), .dat (cellD a), .dat (cellD b), .dat (.list ((line a b).map cellD)), s4, .no, .no] = some ((prs (line a b)).map cpD) :=
   it_seq (run_call rfl (beside_eq _ (by lia))) rfl
  by_cases c2 : (prs (line a b)).any (fun p => sol w h W p.1 && sol w h W p.2) = true
  ·rw [if_pos c2] at l2
   refine (run_rt (run_for i2 l2)).trans ?_
   have : (prs (line a b)).all (fun p => !(sol w h W p.1 && sol w h W p.2)) = false := by
    rw [List.all_eq_not_any_not]
    simp only [Bool.not_not]
    rw [c2]; rfl
   rw [this]
  ·rw [if_neg c2] at l2
   obtain ⟨ρ', e2, s5, s6, rfl⟩ := l2
   refine run_seq (run_for i2 e2) ?_
   have : (prs (line a b)).all (fun p => !(sol w h W p.1 && sol w h W p.2)) = true := by
    rw [List.all_eq_not_any_not]
    simp only [Bool.not_not]
    rw [Bool.not_eq_true] at c2
    rw [c2]; rfl
   rw [this]
   simp only [id dn, frzAt, if_true, if_false, reduceIte, Nat.reduceAdd, Nat.reduceSub, Nat.reduceLeDiff]
theorem near_in {w h : Nat} (hw : w <= 5) (hh : h <= 5) {a b : C} (ha : inR w h a = true) (hb : inR w h b = true) : Near a b := by
 rw [inR_iff] at ha hb
 exact ⟨by lia, by lia, by lia, by lia⟩
section
variable {w h : Nat} {W : C -> Bool} (hw : w <= 5) (hh : h <= 5)
include hw hh
theorem each_eq {a b : C} (ha : inR w h a = true) (hb : inR w h b = true) : Gsee_each_other [solD w h W, cellD a, cellD b] = some (.bool (seeB (sol w h W) a b)) := by
 have e := sees_eq0 (w := w) (h := h) (W := W) (near_in hw hh ha hb)
 unfold seeB
 cases q : sol w h W b <;> simp only [Gsee_each_other, gsee_each_other, id dn, frzAt, if_true, if_false, reduceIte, Nat.reduceAdd, Nat.reduceSub, Nat.reduceLeDiff, in_sol, q, e, Bool.true_and, Bool.false_and]
theorem sol_in {c : C} (hc : inR w h c = true) : sol w h W c = W c := by unfold sol; rw [hc, Bool.true_and]
theorem field_eq {a : C} (ha : inR w h a = true) (ho : W a = false) : Gfield_of [flD w h W, cellD a] = some (.list (((cells w h).filter fun b => seeB (sol w h W) a b).map cellD)) := by
 have m : Gmarked [wallsD w h W] = some (solD w h W) := marked_W hw hh
 refine fn_rt ?_
 unfold gfield_of
 rw [show startD 3 [flD w h W, cellD a] = [.dat (flD w h W), .dat (cellD a), .no] from rfl]
 refine run_seq (by (simp only [id dn, frzAt, if_true, if_false, reduceIte, Nat.reduceAdd, Nat.reduceSub, Nat.reduceLeDiff, open_in ha ho] <;> rfl)) ?_
 refine run_seq (by (simp only [id dn, frzAt, if_true, if_false, reduceIte, Nat.reduceAdd, Nat.reduceSub, Nat.reduceLeDiff, fl_2, m] <;> rfl)) ?_
 refine run_ret (lc_out (xs := (cells w h).filter fun c => !W c) cellD (fun b => clear (sol w h W) a b) cellD (fun ρ => ∃ s0, ρ = [s0, .dat (solD w h W), .dat (cellD a)]) (it_seq (run_call rfl (open_eq hw hh)) rfl) (Nat.le_trans (List.length_filter_le _ _) (by rw [cells_len]; exact Nat.le_trans (Nat.mul_le_mul hw hh) (by decide))) ⟨_, rfl⟩ ?_ ?_)
 ·rintro b hb ρ ⟨s0, rfl⟩
  have e := sees_eq0 (w := w) (h := h) (W := W) (near_in hw hh ha (mem_cells.mp (List.mem_filter.mp hb).1))
  exact ⟨[.dat (cellD b), .dat (solD w h W), .dat (cellD a)], rfl, ⟨_, rfl⟩, by simp only [id dn, frzAt, if_true, if_false, reduceIte, Nat.reduceAdd, Nat.reduceSub, Nat.reduceLeDiff, e], fun _ => rfl⟩
 ·rw [List.filter_filter]
  congr 1
  refine List.filter_congr fun b hb => ?_
  unfold seeB
  rw [sol_in hw hh (mem_cells.mp hb), Bool.and_comm]
end
end My
namespace My
open PySem PySem.SeqAt L2 DL SD SL EL DC TX TB
theorem eq_c (a b : C) : dEq (cellD a) (cellD b) = some (.bool (a == b)) := by
 unfold dEq
 rw [shaped_c, shaped_c, eqv_c]
 rfl
theorem t_neL {ga gb : Rho -> Option D} {ρ : Rho} {l m : List C} (h1 : ga ρ = some (.list (l.map cellD))) (h2 : gb ρ = some (.list (m.map cellD))) (e : l = m) : eB (eOp dNe ga gb) ρ = some false := by
 subst e
 simp only [ap_B, ap_op, h1, h2, O_bs, ne_Ls, decide_true, Bool.not_true, asB_b]
theorem run_skip {t : Rho -> Option Bool} {g1 : Rho -> Option Out} {ρ : Rho} (h : t (ρ.map frz) = some false) : sIf t g1 sSkip ρ = some (.nx ρ) := by
 unfold sIf
 rw [h]
 rfl
noncomputable def Nx (g : Rho -> Option Out) (ρ : Rho) (I : Rho -> Prop) : Prop := ∃ ρ2, g ρ = some (.nx ρ2) /\ I ρ2
section
variable {g g1 g2 rest : Rho -> Option Out} {ρ ρ' : Rho} {I : Rho -> Prop} {t : Rho -> Option Bool}
theorem nx_seq (h : g1 ρ = some (.nx ρ')) (h2 : Nx g2 ρ' I) : Nx (sSeq g1 g2) ρ I := by
 obtain ⟨ρ2, e, i⟩ := h2
 exact ⟨ρ2, run_seq h e, i⟩
theorem nx_skip (h : t (ρ.map frz) = some false) (i : I ρ) : Nx (sIf t g1 sSkip) ρ I := ⟨ρ, run_skip h, i⟩
theorem run_inv {α : Type} {gi : Rho -> Option (List D)} {s : D -> Rho -> Option Rho} {r : Option Out} (item : α -> D) (J : Rho -> Prop) (xs : List α) (hi : gi ρ = some (xs.map item)) (h0 : J ρ)
  (h : ∀ a ∈ xs, ∀ ρ, J ρ -> ∃ ρ1, s (item a) ρ = some ρ1 /\ Nx g ρ1 J) (hr : ∀ ρ', J ρ' -> rest ρ' = r) : sSeq (sFor gi s g) rest ρ = r := by
 obtain ⟨ρ', e, i⟩ := for_inv item J xs ρ h0 fun a ha ρ hρ => by
  obtain ⟨ρ1, e1, ρ2, e2, i2⟩ := h a ha ρ hρ
  exact ⟨ρ1, ρ2, e1, e2, i2⟩
 exact run_seq (run_for hi e) (hr ρ' i)
end
theorem filter_nil {p : C -> Bool} {l : List C} (h : ∀ c ∈ l, p c = false) : l.filter p = [] := by
 rw [List.filter_eq_nil_iff]
 intro c hc
 rw [h c hc]
 exact Bool.false_ne_true
theorem lst_nil (ρ : Rho) : eLst eNil ρ = some (.list (([] : List C).map cellD)) := rfl
noncomputable def dirS (k : Nat) : Str := match k with
 | 0 => "n"
 | 1 => "e"
 | 2 => "s"
 | _ => "w"
noncomputable def stp (k : Nat) : C := match k with
 | 0 => (0, -1)
 | 1 => (1, 0)
 | 2 => (0, 1)
 | _ => (-1, 0)
theorem four {k : Nat} (h : k < 4) : k = 0 ∨ k = 1 ∨ k = 2 ∨ k = 3 := by lia
noncomputable def eyeD (o : C) (k : Nat) (r : Int) : D := .tuple [cellD o, .str (dirS k), .int r]
theorem ey_0 (o : C) (k : Nat) (r : Int) : dIx (eyeD o k r) (.int 0) = some (cellD o) := id rfl
theorem ey_1 (o : C) (k : Nat) (r : Int) : dIx (eyeD o k r) (.int 1) = some (.str (dirS k)) := id rfl
theorem ey_2 (o : C) (k : Nat) (r : Int) : dIx (eyeD o k r) (.int 2) = some (.int r) := id rfl
theorem ap_tab (tb : List (Str × D)) (ga : Rho -> Option D) (ρ : Rho) {x : Str} (h : ga ρ = some (.str x)) : eTab tb ga ρ = tb.lookup x := by unfold eTab; rw [h]; rfl
theorem st_k {k : Nat} (h : k < 4) : tb_STEPS.lookup (dirS k) = some (cellD (stp k)) := by rcases four h with rfl | rfl | rfl | rfl <;> rfl
theorem rt_k {k : Nat} (h : k < 4) : tb_RIGHT_OF.lookup (dirS k) = some (.str (dirS ((k + 1) % 4))) := by rcases four h with rfl | rfl | rfl | rfl <;> rfl
theorem turned_eq {o : C} {k : Nat} {r : Int} (h : k < 4) : Gturned [eyeD o k r] = some (eyeD o ((k + 1) % 4) r) := by
 refine fn_rt (run_ret ?_)
 rw [show List.map frz (startD 1 [eyeD o k r]) = [.dat (eyeD o k r)] from rfl]
 have t := (ap_tab tb_RIGHT_OF (eOp dIx (eV 0) (eC (.int 1))) [.dat (eyeD o k r)] (x := dirS k) rfl).trans (rt_k h)
 simp only [id dn, frzAt, if_true, if_false, reduceIte, Nat.reduceAdd, Nat.reduceSub, Nat.reduceLeDiff, t, ey_0, ey_2]
 rfl
theorem step_eq {k : Nat} (h : k < 4) : Gbeside [cellD (0, 0), .str (dirS k)] = some (cellD (stp k)) := by
 refine fn_rt (run_ret ?_)
 rw [show List.map frz (startD 2 [cellD (0, 0), .str (dirS k)]) = [.dat (cellD (0, 0)), .dat (.str (dirS k))] from rfl]
 have t := (ap_tab tb_STEPS (eV 1) [.dat (cellD (0, 0)), .dat (.str (dirS k))] (x := dirS k) rfl).trans (st_k h)
 simp only [id dn, frzAt, if_true, if_false, reduceIte, Nat.reduceAdd, Nat.reduceSub, Nat.reduceLeDiff, t]
 rcases four h with rfl | rfl | rfl | rfl <;> rfl
noncomputable def ahead (k : Nat) (x y : Int) : Bool := decide (iabs (x * (stp k).2 - y * (stp k).1) <= x * (stp k).1 + y * (stp k).2)
theorem ahead_eq {o c : C} {k : Nat} {r : Int} (h : k < 4) : Gis_ahead [eyeD o k r, cellD c] = some (.bool (ahead k (c.1 - o.1) (c.2 - o.2))) := by
 have m : ∀ i j : Int, j = 0 ∨ j = 1 ∨ j = -1 -> dMul2 (.int i) (.int j) = some (.int (i * j)) := fun i j hj => mul_i (okT (by lia) (by lia))
 have s1 : (stp k).1 = 0 ∨ (stp k).1 = 1 ∨ (stp k).1 = -1 := by rcases four h with rfl | rfl | rfl | rfl <;> decide
 have s2 : (stp k).2 = 0 ∨ (stp k).2 = 1 ∨ (stp k).2 = -1 := by rcases four h with rfl | rfl | rfl | rfl <;> decide
 have b := step_eq h
 refine fn_rt ?_
 unfold gis_ahead
 rw [show startD 5 [eyeD o k r, cellD c] = [.dat (eyeD o k r), .dat (cellD c), .no, .no, .no] from rfl]
 refine run_seq (by (simp only [id dn, frzAt, if_true, if_false, reduceIte, Nat.reduceAdd, Nat.reduceSub, Nat.reduceLeDiff, ey_1, cell_mk, b] <;> rfl)) ?_
 refine run_seq (by (simp only [id dn, frzAt, if_true, if_false, reduceIte, Nat.reduceAdd, Nat.reduceSub, Nat.reduceLeDiff, ey_0] <;> rfl)) ?_
 refine run_seq (by (simp only [id dn, frzAt, if_true, if_false, reduceIte, Nat.reduceAdd, Nat.reduceSub, Nat.reduceLeDiff, ey_0] <;> rfl)) ?_
 refine run_ret ?_
 simp only [id dn, frzAt, if_true, if_false, reduceIte, Nat.reduceAdd, Nat.reduceSub, Nat.reduceLeDiff, m _ _ s1, m _ _ s2]
 rfl
noncomputable def sq (a b : C) : Int := (a.1 - b.1) * (a.1 - b.1) + (a.2 - b.2) * (a.2 - b.2)
theorem sq_comm (a b : C) : sq a b = sq b a := by
 unfold sq
 rw [show a.1 - b.1 = -(b.1 - a.1) by lia, show a.2 - b.2 = -(b.2 - a.2) by lia, Int.neg_mul_neg, Int.neg_mul_neg]
theorem pow2 (i : Int) : i ^ (2 : Int).toNat = i * i := by
 show i ^ 2 = _
 rw [Int.pow_succ, Int.pow_succ, Int.pow_zero, Int.one_mul]
theorem square_eq {a b : C} (h1 : (a.1 - b.1).natAbs < 100) (h2 : (a.2 - b.2).natAbs < 100) : Gsquare_apart [cellD a, cellD b] = some (.int (sq a b)) := by
 have p : ∀ i : Int, i.natAbs < 100 -> dPow (.int i) (.int 2) = some (.int (i * i)) := fun i hi => by
  show (if (decide ((0 : Int) <= 2) && decide ((2 : Int) <= 64) && decide (i.natAbs < 18446744073709551616)) = true then some (PyData.int (i ^ (2 : Int).toNat)) else none) = _
  rw [pow2, if_pos]
  simp only [Bool.and_eq_true, decide_eq_true_eq]
  lia
 refine fn_rt (run_ret ?_)
 rw [show List.map frz (startD 2 [cellD a, cellD b]) = [.dat (cellD a), .dat (cellD b)] from rfl]
 simp only [id dn, frzAt, if_true, if_false, reduceIte, Nat.reduceAdd, Nat.reduceSub, Nat.reduceLeDiff, p _ h1, p _ h2]
 rfl
section
variable {w h : Nat} {W : C -> Bool} (hw : w <= 5) (hh : h <= 5)
noncomputable def spot (S : C -> Bool) (o : C) (k : Nat) (r : Int) (c : C) : Bool := ahead k (c.1 - o.1) (c.2 - o.2) && decide (sq o c <= r * r) && seeB S o c
include hw hh
theorem spot_eq {o c : C} {k : Nat} {r : Int} (hk : k < 4) (ho : inR w h o = true) (hc : inR w h c = true) (r0 : 0 <= r) (r1 : r <= 100) : Gdoes_spot [solD w h W, eyeD o k r, cellD c] = some (.bool (spot (sol w h W) o k r c)) := by
 have q1 := inR_iff.mp ho
 have q2 := inR_iff.mp hc
 have a := ahead_eq (o := o) (c := c) (r := r) hk
 have s := square_eq (a := o) (b := c) (by lia) (by lia)
 have m : dMul2 (.int r) (.int r) = some (.int (r * r)) := mul_i (okT (by lia) (by lia))
 have e := each_eq (W := W) hw hh ho hc
 refine fn_rt ?_
 unfold gdoes_spot
 rw [show startD 3 [solD w h W, eyeD o k r, cellD c] = [.dat (solD w h W), .dat (eyeD o k r), .dat (cellD c)] from rfl]
 unfold spot
 by_cases c1 : ahead k (c.1 - o.1) (c.2 - o.2) = true
 ·by_cases c2 : sq o c <= r * r
  ·refine run_seq (run_skip ?_) (run_ret ?_)
   ·have c3 : decide (r * r < sq o c) = false := decide_eq_false (by lia)
    simp only [id dn, frzAt, if_true, if_false, reduceIte, Nat.reduceAdd, Nat.reduceSub, Nat.reduceLeDiff, a, s, m, ey_0, ey_2, c1, c3, Bool.not_true]
   ·simp only [id dn, frzAt, if_true, if_false, reduceIte, Nat.reduceAdd, Nat.reduceSub, Nat.reduceLeDiff, ey_0, e, c1, decide_eq_true c2, Bool.true_and]
  ·refine run_rt (run_if (b := true) ?_ (fun _ => run_ret ?_) fun z => nomatch z)
   ·have c3 : decide (r * r < sq o c) = true := decide_eq_true (by lia)
    simp only [id dn, frzAt, if_true, if_false, reduceIte, Nat.reduceAdd, Nat.reduceSub, Nat.reduceLeDiff, a, s, m, ey_0, ey_2, c1, c3, Bool.not_true]
   ·simp only [id dn, frzAt, if_true, if_false, reduceIte, Nat.reduceAdd, Nat.reduceSub, Nat.reduceLeDiff, c1, decide_eq_false c2, Bool.and_false, Bool.false_and]
 ·have c1' : ahead k (c.1 - o.1) (c.2 - o.2) = false := by simpa using c1
  refine run_rt (run_if (b := true) ?_ (fun _ => run_ret ?_) fun z => nomatch z)
  ·simp only [id dn, frzAt, if_true, if_false, reduceIte, Nat.reduceAdd, Nat.reduceSub, Nat.reduceLeDiff, a, c1', Bool.not_false]
  ·simp only [id dn, frzAt, if_true, if_false, reduceIte, Nat.reduceAdd, Nat.reduceSub, Nat.reduceLeDiff, c1', Bool.false_and]
noncomputable def opn (w h : Nat) (W : C -> Bool) : List C := (cells w h).filter fun c => !W c
omit hw hh in
theorem mem_opn {c : C} : c ∈ opn w h W ↔ inR w h c = true /\ W c = false := by
 unfold opn
 rw [List.mem_filter, mem_cells, Bool.not_eq_true']
omit hw hh in
theorem refuse_eyes {o : C} (ho : inR w h o = true) (hW : W o = false) (r : Int) : ∀ (ks : List Nat), Grefuse_eyes [flD w h W, .list (ks.map fun k => eyeD o k r)] = some .none := fun ks => by
 have key : ∃ ρ, grefuse_eyes (startD 3 [flD w h W, .list (ks.map fun k => eyeD o k r)]) = some (.nx ρ) := by
  unfold grefuse_eyes
  rw [show startD 3 [flD w h W, .list (ks.map fun k => eyeD o k r)] = [.dat (flD w h W), .dat (.list (ks.map fun k => eyeD o k r)), .no] from rfl]
  obtain ⟨ρ, e, _⟩ := for_inv (g := sDrop (eCall Grefuse_not_open (eCons (eV 0) (eCons (eOp dIx (eV 2) (eC (.int 0))) eNil)))) (s := uName 2) (fun k => eyeD o k r) (fun ρ => ∃ s2, ρ = [.dat (flD w h W), .dat (.list (ks.map fun k => eyeD o k r)), s2]) ks [.dat (flD w h W), .dat (.list (ks.map fun k => eyeD o k r)), .no] ⟨_, rfl⟩ (by
   rintro k _ ρ ⟨s2, rfl⟩
   refine ⟨[.dat (flD w h W), .dat (.list (ks.map fun k => eyeD o k r)), .dat (eyeD o k r)], [.dat (flD w h W), .dat (.list (ks.map fun k => eyeD o k r)), .dat (eyeD o k r)], rfl, ?_, ⟨_, rfl⟩⟩
   have q := open_in (W := W) ho hW
   simp only [id dn, frzAt, if_true, if_false, reduceIte, Nat.reduceAdd, Nat.reduceSub, Nat.reduceLeDiff, ey_0, q])
  exact ⟨ρ, run_for (it_seq rfl rfl).symm.symm e⟩
 obtain ⟨ρ, e⟩ := key
 show fnD 3 grefuse_eyes _ = _
 rw [ap_fn, e]
theorem seen_eq {o : C} {k : Nat} {r : Int} (hk : k < 4) (ho : inR w h o = true) (hW : W o = false) (r0 : 0 <= r) (r1 : r <= 100) : Gseen_by [flD w h W, eyeD o k r] = some (.list (((opn w h W).filter (spot (sol w h W) o k r)).map cellD)) := by
 have g : (cells w h).length <= 25 := by rw [cells_len]; exact Nat.mul_le_mul hw hh
 have re := refuse_eyes (W := W) ho hW r [k]
 have mk := marked_W (W := W) hw hh
 have op := open_eq (W := W) hw hh
 refine fn_rt ?_
 unfold gseen_by
 rw [show startD 3 [flD w h W, eyeD o k r] = [.dat (flD w h W), .dat (eyeD o k r), .no] from rfl]
 have re' : Grefuse_eyes [flD w h W, .list [eyeD o k r]] = some .none := re
 refine run_seq (by (simp only [id dn, frzAt, if_true, if_false, reduceIte, Nat.reduceAdd, Nat.reduceSub, Nat.reduceLeDiff, re'] <;> rfl)) ?_
 refine run_seq (by (simp only [id dn, frzAt, if_true, if_false, reduceIte, Nat.reduceAdd, Nat.reduceSub, Nat.reduceLeDiff, fl_2, mk] <;> rfl)) ?_
 refine run_ret (lc_out (xs := opn w h W) cellD (spot (sol w h W) o k r) cellD (fun ρ => ∃ s0, ρ = [s0, .dat (solD w h W), .dat (eyeD o k r)]) (it_seq (run_call rfl op) rfl) (by unfold opn; exact Nat.le_trans (List.length_filter_le _ _) (by lia)) ⟨.no, rfl⟩ ?_ rfl)
 rintro c hc ρ ⟨s0, rfl⟩
 refine ⟨[.dat (cellD c), .dat (solD w h W), .dat (eyeD o k r)], rfl, ⟨_, rfl⟩, ?_, fun _ => rfl⟩
 have q := spot_eq (W := W) hw hh hk ho (mem_opn.mp hc).1 r0 r1
 simp only [id dn, frzAt, if_true, if_false, reduceIte, Nat.reduceAdd, Nat.reduceSub, Nat.reduceLeDiff, q]
end
end My
namespace My
open PySem PySem.SeqAt L2 DL SD SL EL DC TX TB
theorem iabs_neg (x : Int) : iabs (-x) = iabs x := by
 unfold iabs
 split <;> split <;> lia
theorem iabs_or (x : Int) : (0 <= x /\ iabs x = x) ∨ (x < 0 /\ iabs x = -x) := by
 unfold iabs
 split <;> lia
theorem ah0 (x y : Int) : ahead 0 x y = decide (iabs x <= -y) := by
 show decide (iabs (x * (-1) - y * 0) <= x * 0 + y * (-1)) = _
 rw [show x * (-1) - y * 0 = -x by lia, iabs_neg, show x * 0 + y * (-1) = -y by lia]
theorem ah1 (x y : Int) : ahead 1 x y = decide (iabs y <= x) := by
 show decide (iabs (x * 0 - y * 1) <= x * 1 + y * 0) = _
 rw [show x * 0 - y * 1 = -y by lia, iabs_neg, show x * 1 + y * 0 = x by lia]
theorem ah2 (x y : Int) : ahead 2 x y = decide (iabs x <= y) := by
 show decide (iabs (x * 1 - y * 0) <= x * 0 + y * 1) = _
 rw [show x * 1 - y * 0 = x by lia, show x * 0 + y * 1 = y by lia]
theorem ah3 (x y : Int) : ahead 3 x y = decide (iabs y <= -x) := by
 show decide (iabs (x * 0 - y * (-1)) <= x * (-1) + y * 0) = _
 rw [show x * 0 - y * (-1) = y by lia, show x * (-1) + y * 0 = -x by lia]
theorem ahead_back {k : Nat} (hk : k < 4) (x y : Int) : ahead ((k + 2) % 4) (-x) (-y) = ahead k x y := by
 rcases four hk with rfl | rfl | rfl | rfl
 ·show ahead 2 (-x) (-y) = _
  rw [ah2, ah0, iabs_neg]
 ·show ahead 3 (-x) (-y) = _
  rw [ah3, ah1, iabs_neg, Int.neg_neg]
 ·show ahead 0 (-x) (-y) = _
  rw [ah0, ah2, iabs_neg, Int.neg_neg]
 ·show ahead 1 (-x) (-y) = _
  rw [ah1, ah3, iabs_neg]
noncomputable def cnt (p : Nat -> Bool) : Nat := (p 0).toNat + (p 1).toNat + (p 2).toNat + (p 3).toNat
theorem filter4 (p : Nat -> Bool) : ((List.range 4).filter p).length = cnt p := by
 rw [show List.range 4 = [0, 1, 2, 3] from rfl]
 cases h0 : p 0 <;> cases h1 : p 1 <;> cases h2 : p 2 <;> cases h3 : p 3 <;> simp [cnt, List.filter_cons, h0, h1, h2, h3]
theorem cnt_rot (f : Nat -> Bool) {k : Nat} (hk : k < 4) : cnt (fun n => f ((k + n) % 4)) = cnt f := by
 unfold cnt
 rcases four hk with rfl | rfl | rfl | rfl <;> simp only [Nat.reduceAdd, Nat.reduceMod] <;> lia
theorem td (P : Prop) [Decidable P] : (decide P).toNat = if P then 1 else 0 := by by_cases h : P <;> simp [h]
theorem two_ahead {a b y : Int} (ha : 0 <= a) (hb : 0 <= y /\ b = y ∨ y <= 0 /\ b = -y) : (decide (a <= y)).toNat + (decide (a <= -y)).toNat = (decide (a <= b)).toNat + (decide (a = 0 /\ b = 0)).toNat := by
 have go : ∀ {y : Int}, 0 <= y -> (decide (a <= y)).toNat + (decide (a <= -y)).toNat = (decide (a <= y)).toNat + (decide (a = 0 /\ y = 0)).toNat := fun {y} h => by
  rw [decide_eq_decide.mpr (show a <= -y ↔ a = 0 /\ y = 0 by lia)]
 rcases hb with ⟨h, e⟩ | ⟨h, e⟩
 ·rw [e]; exact go h
 ·have := go (y := -y) (by lia)
  rw [Int.neg_neg] at this
  rw [e, Nat.add_comm, this]
theorem sum_ahead {p q r t u v e z : Nat} (t1 : r + p = u + z) (t2 : q + t = v + z) (c : u + v = 1 + e) : p + q + r + t = 1 + e + 2 * z := by lia
theorem cnt_ahead (x y : Int) : (cnt fun k => ahead k x y) = 1 + (if iabs x = iabs y then 1 else 0) + 2 * (if x = 0 /\ y = 0 then 1 else 0) := by
 unfold cnt
 simp only [ah0, ah1, ah2, ah3]
 have hx := iabs_or x
 have hy := iabs_or y
 rw [<- td, <- td, decide_eq_decide.mpr (show x = 0 /\ y = 0 ↔ iabs x = 0 /\ iabs y = 0 by lia)]
 have t1 := two_ahead (a := iabs x) (b := iabs y) (y := y) (by lia) (hy.imp id fun h => ⟨Int.le_of_lt h.1, h.2⟩)
 have t2 := two_ahead (a := iabs y) (b := iabs x) (y := x) (by lia) (hx.imp id fun h => ⟨Int.le_of_lt h.1, h.2⟩)
 rw [decide_eq_decide.mpr (and_comm (a := iabs y = 0) (b := iabs x = 0))] at t2
 refine sum_ahead t1 t2 ?_
 rcases Int.lt_trichotomy (iabs x) (iabs y) with z | z | z
 ·rw [decide_eq_true (Int.le_of_lt z), decide_eq_false (Int.not_le.mpr z), decide_eq_false (Int.ne_of_lt z)]; rfl
 ·rw [z, decide_eq_true (Int.le_refl (iabs y)), decide_eq_true rfl]; rfl
 ·rw [decide_eq_false (Int.not_le.mpr z), decide_eq_true (Int.le_of_lt z), decide_eq_false (Int.ne_of_gt z)]; rfl
theorem iabs_sq (x : Int) : iabs x * iabs x = x * x := by
 rcases iabs_or x with ⟨_, e⟩ | ⟨_, e⟩
 ·rw [e]
 ·rw [e, Int.neg_mul_neg]
theorem lay_Ss : ∀ xs : List Str, (∀ x ∈ xs, PyData.strOk x = true) -> PyData.canLayAll0 (xs.map PyData.str) = true /\ PyData.depthAll (xs.map PyData.str) = 0
 | [], _ => ⟨rfl, rfl⟩
 | x :: xs, h => by
  obtain ⟨h3, h4⟩ := lay_Ss xs fun y hy => h y (List.mem_cons_of_mem _ hy)
  refine ⟨?_, ?_⟩
  ·rw [List.map_cons, PyData.canLayAll0, h3, PyData.canLay0, h x List.mem_cons_self]; rfl
  ·rw [List.map_cons, PyData.depthAll, h4]; rfl
theorem eqv_Ss : ∀ xs : List Str, PyData.eqvAll (xs.map PyData.str) (xs.map PyData.str) = true
 | [] => rfl
 | x :: xs => by
  show (PyData.eqv (.str x) (.str x) && PyData.eqvAll (xs.map PyData.str) (xs.map PyData.str)) = true
  rw [eqv_Ss xs]
  simp [PyData.eqv]
theorem ne_Ss {xs : List Str} (h : ∀ x ∈ xs, PyData.strOk x = true) : dNe (.list (xs.map PyData.str)) (.list (xs.map PyData.str)) = some (.bool false) := by
 obtain ⟨h3, h4⟩ := lay_Ss xs h
 have s : SeqAt.shaped (.list (xs.map PyData.str)) = true := by
  have : PyData.depth (.list (xs.map PyData.str)) <= 64 := by show PyData.depthAll (xs.map PyData.str) + 1 <= 64; lia
  simp [SeqAt.shaped, PyData.canLay0, h3, this]
 unfold dNe
 rw [s]
 show some (PyData.bool (!PyData.eqvAll (xs.map PyData.str) (xs.map PyData.str))) = _
 rw [eqv_Ss]
 rfl
theorem dir_ok (k : Nat) : PyData.strOk (dirS k) = true := by
 unfold dirS
 split <;> decide +kernel
theorem ne_eye (o : C) (k : Nat) (r : Int) : dNe (eyeD o k r) (eyeD o k r) = some (.bool false) := by
 have s : SeqAt.shaped (eyeD o k r) = true := by
  show SeqAt.shaped (.tuple [.tuple [.int o.1, .int o.2], .str (dirS k), .int r]) = true
  simp [SeqAt.shaped, PyData.canLay0, PyData.canLayAll0, PyData.depth, PyData.depthAll, dir_ok]
 have e : PyData.eqv (eyeD o k r) (eyeD o k r) = true := by
  show PyData.eqv (.tuple [.tuple [.int o.1, .int o.2], .str (dirS k), .int r]) (.tuple [.tuple [.int o.1, .int o.2], .str (dirS k), .int r]) = true
  simp [PyData.eqv, PyData.eqvAll]
 unfold dNe
 rw [s, e]
 rfl
theorem ints_ne (l : List Nat) : dNe (.list (l.map fun (n : Nat) => PyData.int (n : Int))) (.list (l.map fun (n : Nat) => PyData.int (n : Int))) = some (.bool false) := by
 have lay : ∀ l : List Nat, PyData.canLayAll0 (l.map fun (n : Nat) => PyData.int (n : Int)) = true /\ PyData.depthAll (l.map fun (n : Nat) => PyData.int (n : Int)) = 0 := fun l => by
  induction l with
  | nil => exact ⟨rfl, rfl⟩
  | cons a l ih => exact ⟨by rw [List.map_cons, PyData.canLayAll0, ih.1]; rfl, by rw [List.map_cons, PyData.depthAll, ih.2]; rfl⟩
 have eq : ∀ l : List Nat, PyData.eqvAll (l.map fun (n : Nat) => PyData.int (n : Int)) (l.map fun (n : Nat) => PyData.int (n : Int)) = true := fun l => by
  induction l with
  | nil => rfl
  | cons a l ih =>
   show (PyData.eqv (.int (a : Int)) (.int (a : Int)) && PyData.eqvAll _ _) = true
   rw [ih]
   simp [PyData.eqv]
 have s : SeqAt.shaped (.list (l.map fun (n : Nat) => PyData.int (n : Int))) = true := by
  have := (lay l).2
  have d : PyData.depth (.list (l.map fun (n : Nat) => PyData.int (n : Int))) <= 64 := by show PyData.depthAll _ + 1 <= 64; lia
  simp [SeqAt.shaped, PyData.canLay0, (lay l).1, d]
 unfold dNe
 rw [s]
 show some (PyData.bool (!PyData.eqvAll _ _)) = _
 rw [eq]
 rfl
theorem numb_rows {α : Type} (f : α -> D) : ∀ (l : List α) (n : Nat), numbered n (l.map f) = (l.zipIdx n).map fun p => PyData.tuple [.int ((p.2 : Nat) : Int), f p.1]
 | [], _ => rfl
 | a :: l, n => by
  show PyData.tuple [.int n, f a] :: numbered (n + 1) (l.map f) = _
  rw [numb_rows f l (n + 1)]
  rfl
theorem zip_range (n : Nat) : ∀ k, (List.range' k n).zipIdx k = (List.range' k n).map fun i => (i, i) := by
 induction n with
 | zero => intro k; rfl
 | succ n ih => intro k; rw [List.range'_succ, List.zipIdx_cons, ih, List.map_cons]
theorem numb_rng (f : Nat -> D) (n : Nat) : numbered 0 ((List.range n).map f) = (List.range n).map fun (i : Nat) => .tuple [.int (i : Int), f i] := by
 rw [numb_rows, List.range_eq_range', zip_range, List.map_map]
 rfl
section
variable {w h : Nat} {W : C -> Bool} (hw : w <= 5) (hh : h <= 5)
include hw hh
theorem eyes_eq {o c : C} {k : Nat} {r : Int} (hk : k < 4) (ho : inR w h o = true) (hW : W o = false) (hc : inR w h c = true) (r0 : 0 <= r) (r1 : r <= 100) :
  Geyes_on [flD w h W, .list ((List.range 4).map fun n => eyeD o ((k + n) % 4) r), cellD c] = some (.list (((List.range 4).filter fun n => spot (sol w h W) o ((k + n) % 4) r c).map fun (n : Nat) => PyData.int (n : Int))) := by
 have re := refuse_eyes (W := W) ho hW r ((List.range 4).map fun n => (k + n) % 4)
 rw [List.map_map] at re
 have re' : Grefuse_eyes [flD w h W, .list ((List.range 4).map fun n => eyeD o ((k + n) % 4) r)] = some .none := re
 have rf := refuse_in (W := W) hc
 have mk := marked_W (W := W) hw hh
 have nu : Gnumbers_on [solD w h W, .list ((List.range 4).map fun n => eyeD o ((k + n) % 4) r), cellD c] = some (.list (((List.range 4).filter fun n => spot (sol w h W) o ((k + n) % 4) r c).map fun (n : Nat) => PyData.int (n : Int))) := by
  have it : iEnum (eCons (eV 1) eNil) [.dat (solD w h W), .dat (.list ((List.range 4).map fun n => eyeD o ((k + n) % 4) r)), .dat (cellD c)] = some ((List.range 4).map fun (n : Nat) => .tuple [.int (n : Int), eyeD o ((k + n) % 4) r]) := by
   show some (numbered 0 ((List.range 4).map fun n => eyeD o ((k + n) % 4) r)) = _
   rw [numb_rng]
  refine fn_rt (run_ret (lc_out (xs := List.range 4) (fun (n : Nat) => .tuple [.int (n : Int), eyeD o ((k + n) % 4) r]) (fun n => spot (sol w h W) o ((k + n) % 4) r c) (fun (n : Nat) => .int (n : Int)) (fun ρ => ∃ s0 s1, ρ = [s0, s1, .dat (solD w h W), .dat (cellD c)]) it (by decide) ⟨.no, .no, rfl⟩ ?_ rfl))
  rintro n _ ρ ⟨s0, s1, rfl⟩
  refine ⟨[.dat (.int (n : Int)), .dat (eyeD o ((k + n) % 4) r), .dat (solD w h W), .dat (cellD c)], rfl, ⟨_, _, rfl⟩, ?_, fun _ => rfl⟩
  have q := spot_eq (W := W) hw hh (k := (k + n) % 4) (Nat.mod_lt _ (by decide)) ho hc r0 r1
  simp only [id dn, frzAt, if_true, if_false, reduceIte, Nat.reduceAdd, Nat.reduceSub, Nat.reduceLeDiff, q]
 refine fn_rt ?_
 unfold geyes_on
 rw [show startD 3 [flD w h W, .list ((List.range 4).map fun n => eyeD o ((k + n) % 4) r), cellD c] = [.dat (flD w h W), .dat (.list ((List.range 4).map fun n => eyeD o ((k + n) % 4) r)), .dat (cellD c)] from rfl]
 refine run_seq (by (simp only [id dn, frzAt, if_true, if_false, reduceIte, Nat.reduceAdd, Nat.reduceSub, Nat.reduceLeDiff, re'] <;> rfl)) ?_
 refine run_seq (by (simp only [id dn, frzAt, if_true, if_false, reduceIte, Nat.reduceAdd, Nat.reduceSub, Nat.reduceLeDiff, rf] <;> rfl)) ?_
 refine run_ret ?_
 simp only [id dn, frzAt, if_true, if_false, reduceIte, Nat.reduceAdd, Nat.reduceSub, Nat.reduceLeDiff, fl_2, mk]
 exact nu
end
end My
namespace My
open PySem PySem.SeqAt L2 DL SD SL EL DC TX TB
theorem law_open {w h : Nat} {W : C -> Bool} (hw : w <= 5) (h0 : 0 < h) (hh : h <= 5) : G_law_open [flD w h W] = some (.list ((opn w h W).map cellD)) := by
 have cl : (cells w h).length <= 25 := by rw [cells_len]; exact Nat.mul_le_mul hw hh
 refine fn_rt (run_ret (lc_out (xs := cells w h) cellD (fun c => !sol w h W c) cellD (fun ρ => ∃ s0, ρ = [s0, .dat (flD w h W)]) (it_seq (run_call rfl (law_cells hw h0 hh)) rfl) (by lia) ⟨_, rfl⟩ (by
  rintro x _ ρ ⟨s0, rfl⟩
  exact ⟨[.dat (cellD x), .dat (flD w h W)], rfl, ⟨_, rfl⟩, by simp only [id dn, frzAt, if_true, if_false, reduceIte, Nat.reduceAdd, Nat.reduceSub, Nat.reduceLeDiff, fl_2, in_W], fun _ => rfl⟩) ?_))
 refine congrArg (List.map cellD) (List.filter_congr fun c hc => ?_)
 unfold sol
 rw [mem_cells.mp hc, Bool.true_and]
noncomputable def at0 (l : List C) (k : Nat) : C := l.getD k (0, 0)
theorem ix_L {l : List C} {i : Int} (h0 : 0 <= i) (h1 : i < l.length) : dIx (.list (l.map cellD)) (.int i) = some (cellD (at0 l i.toNat)) /\ at0 l i.toNat ∈ l := by
 have hi : i.toNat < l.length := by lia
 have e : at0 l i.toNat = l[i.toNat] := by unfold at0; simp [List.getD, hi]
 constructor
 ·show L2.atI (l.map cellD) i = _
  unfold L2.atI L2.ixN
  rw [List.length_map, if_pos h0, if_pos h1, e]
  simp [hi]
 ·rw [e]; exact List.getElem_mem hi
abbrev eyes (o : C) (k : Nat) (r : Int) : D := .list ((List.range 4).map fun n => eyeD o ((k + n) % 4) r)
abbrev fds (w h : Nat) (W : C -> Bool) (o : C) (k : Nat) (r : Int) : D := .list ((List.range 4).map fun n => PyData.list (((opn w h W).filter (spot (sol w h W) o ((k + n) % 4) r)).map cellD))
abbrev fr (ns : List Int) (w h : Nat) (W : C -> Bool) (o : C) (k : Nat) (r : Int) (s8 s9 s10 s11 s12 s13 s14 s15 : Sl) : Rho := [.dat (scr ns), .dat (flD w h W), .dat (.list ((opn w h W).map cellD)), .dat (cellD o), .dat (.int r), .dat (eyes o k r), .dat (.int 2), .dat (fds w h W o k r), s8, s9, s10, s11, s12, s13, s14, s15]
theorem ap_appB (i : Nat) (ga : Rho -> Option D) (ρ : Rho) {ds : List D} {d : D} (h1 : ρ[i]? = some (.own ds)) (h2 : ga (ρ.map frz) = some d) (h3 : noL d = true) (h4 : ds.length < 1000) : sAppB i ga ρ = some (.nx (ρ.set i (.own (ds ++ [d])))) := by
 unfold sAppB
 rw [h1]
 show (ga (ρ.map frz)).bind _ = _
 rw [h2, Option.bind_some, if_pos]
 rw [h3, Bool.true_and]
 exact decide_eq_true h4
theorem no_eye (o : C) (k : Nat) (r : Int) : noL (eyeD o k r) = true := by
 show noL (.tuple [.tuple [.int o.1, .int o.2], .str (dirS k), .int r]) = true
 simp [noL, noLs]
theorem forN_cons {s : D -> Rho -> Option Rho} {g : Rho -> Option Out} {x : D} {xs : List D} {ρ ρ1 ρ2 : Rho} {r : Option Out} (h1 : s x ρ = some ρ1) (h2 : g ρ1 = some (.nx ρ2)) (h3 : forN s g xs ρ2 = r) : forN s g (x :: xs) ρ = r := by
 unfold forN
 rw [h1, Option.bind_some, h2, Option.bind_some]
 exact h3
theorem sort_dirs {k : Nat} (hk : k < 4) : dSortS [.list ((List.range 4).map fun n => PyData.str (dirS ((k + n) % 4)))] = some (.list ([("e" : Str), "n", "s", "w"].map PyData.str)) := by
 rcases four hk with rfl | rfl | rfl | rfl <;> rfl
theorem lt4 (k n : Nat) : (k + n) % 4 < 4 := Nat.mod_lt _ (by decide)
theorem or_no {t u : Rho -> Option Bool} {ρ : Rho} (h1 : t ρ = some false) (h2 : u ρ = some false) : eOr t u ρ = some false := by
 simp only [id dn, frzAt, if_true, if_false, reduceIte, Nat.reduceAdd, Nat.reduceSub, Nat.reduceLeDiff, h1, h2]
theorem eyes_made (ns : List Int) (fl ce : D) {o : C} {k : Nat} {r : Int} (hk : k < 4) {rest : Rho -> Option Out} {q : Option Out} (s : List Sl) (hs : s.length = 9)
  (hr : rest ([.dat (scr ns), .dat fl, .dat ce, .dat (cellD o), .dat (.int r), .own [eyeD o ((k + 0) % 4) r, eyeD o ((k + 1) % 4) r, eyeD o ((k + 2) % 4) r, eyeD o ((k + 3) % 4) r], .dat (.int 2)] ++ s) = q) :
  sSeq (sFor (iRng1 (eCons (eC (.int 3)) eNil)) (uName 6) (sAppB 5 (eCall Gturned (eCons (eOp dIx (eV 5) (eUn dNeg (eC (.int 1)))) eNil)))) rest ([.dat (scr ns), .dat fl, .dat ce, .dat (cellD o), .dat (.int r), .own [eyeD o ((k + 0) % 4) r], .no] ++ s) = q := by
 have t : ∀ n, Gturned [eyeD o ((k + n) % 4) r] = some (eyeD o ((k + (n + 1)) % 4) r) := fun n => by
  rw [turned_eq (lt4 k n)]
  rw [show ((k + n) % 4 + 1) % 4 = (k + (n + 1)) % 4 by lia]
 have go : ∀ (n : Nat) (L : List D) (s6 : Sl), L.length < 100 -> dIx (.list L) (.int (-1)) = some (eyeD o ((k + n) % 4) r) -> sAppB 5 (eCall Gturned (eCons (eOp dIx (eV 5) (eUn dNeg (eC (.int 1)))) eNil)) ([.dat (scr ns), .dat fl, .dat ce, .dat (cellD o), .dat (.int r), .own L, s6] ++ s) = some (.nx ([.dat (scr ns), .dat fl, .dat ce, .dat (cellD o), .dat (.int r), .own (L ++ [eyeD o ((k + (n + 1)) % 4) r]), s6] ++ s)) := fun n L s6 hl hi => by
  refine (ap_appB 5 _ _ (ds := L) (d := eyeD o ((k + (n + 1)) % 4) r) rfl ?_ (no_eye _ _ _) (by lia)).trans rfl
  refine run_call (ds := [eyeD o ((k + n) % 4) r]) ?_ (t n)
  show ((dIx (.list L) (.int (-1))).bind fun x => some [x]) = _
  rw [hi]
  rfl
 refine run_seq (run_rng (n := 3) rfl (by decide) ?_) hr
 refine forN_cons (ρ1 := [.dat (scr ns), .dat fl, .dat ce, .dat (cellD o), .dat (.int r), .own [eyeD o ((k + 0) % 4) r], .dat (.int 0)] ++ s) rfl (go 0 [eyeD o ((k + 0) % 4) r] _ (by simp) rfl) ?_
 refine forN_cons (ρ1 := [.dat (scr ns), .dat fl, .dat ce, .dat (cellD o), .dat (.int r), .own [eyeD o ((k + 0) % 4) r, eyeD o ((k + 1) % 4) r], .dat (.int 1)] ++ s) rfl (go 1 [eyeD o ((k + 0) % 4) r, eyeD o ((k + 1) % 4) r] _ (by simp) rfl) ?_
 refine forN_cons (ρ1 := [.dat (scr ns), .dat fl, .dat ce, .dat (cellD o), .dat (.int r), .own [eyeD o ((k + 0) % 4) r, eyeD o ((k + 1) % 4) r, eyeD o ((k + 2) % 4) r], .dat (.int 2)] ++ s) rfl (go 2 [eyeD o ((k + 0) % 4) r, eyeD o ((k + 1) % 4) r, eyeD o ((k + 2) % 4) r] _ (by simp) rfl) ?_
 rfl
section
variable {ns : List Int} {w h : Nat} {W : C -> Bool} (w5 : w <= 4) (h5 : h <= 4) {o : C} {k : Nat} {r : Int} (hk : k < 4) (ho : o ∈ opn w h W) (r1 : 1 <= r) (r6 : r <= 6)
include w5 h5
theorem opn_len : (opn w h W).length <= 16 := by
 unfold opn
 exact Nat.le_trans (List.length_filter_le _ _) (by rw [cells_len]; exact Nat.mul_le_mul w5 h5)
include hk ho r1 r6
theorem cell_step (s9 s10 s11 s12 s13 s14 s15 : Sl) {c : C} (hc : c ∈ opn w h W) :
  Nx (sSeq (sSet 9 (eCall dAbs (eCons (eOp dSub (eOp dIx (eV 8) (eC (.int 0))) (eOp dIx (eV 3) (eC (.int 0)))) eNil)))
  (sSeq (sSet 10 (eCall dAbs (eCons (eOp dSub (eOp dIx (eV 8) (eC (.int 1))) (eOp dIx (eV 3) (eC (.int 1)))) eNil)))
  (sSeq (sSet 11 (eC (.int 0)))
  (sSeq (sIf (eAnd (eB (eOp (dIn false) (eV 8) (eCall Gfield_of (eCons (eV 1) (eCons (eV 3) eNil))))) (eB (eOp dLe (eOp dAdd2 (eOp dMul2 (eV 9) (eV 9)) (eOp dMul2 (eV 10) (eV 10))) (eOp dMul2 (eV 4) (eV 4))))) (sSet 11 (eOp dAdd2 (eOp dAdd2 (eC (.int 1)) (eCall dInt (eCons (eOp dEq (eV 9) (eV 10)) eNil))) (eOp dMul2 (eC (.int 2)) (eCall dInt (eCons (eOp dEq (eV 8) (eV 3)) eNil))))) sSkip)
  (sSeq (sIf (eB (eOp dNe (eCall dLen (eCons (eLc (eComp (iSeq (eV 7)) (uName 0) (eB (eOp (dIn false) (eV 1) (eV 0))) (eV 0) [none, some 8])) eNil)) (eV 11))) (sRet (eC (.bool false))) sSkip)
  (sIf (eB (eOp dNe (eCall Geyes_on (eCons (eV 1) (eCons (eV 5) (eCons (eV 8) eNil)))) (eLc (eComp (iRng1 (eCons (eC (.int 4)) eNil)) (uName 0) (eB (eOp (dIn false) (eV 1) (eOp dIx (eV 2) (eV 0)))) (eV 0) [none, some 8, some 7])))) (sRet (eC (.bool false))) sSkip))))))
  (fr ns w h W o k r (.dat (cellD c)) s9 s10 s11 s12 s13 s14 s15) (fun ρ => ∃ s8 s9 s10 s11 s12 s13 s14 s15, ρ = fr ns w h W o k r s8 s9 s10 s11 s12 s13 s14 s15) := by
 have w5' : w <= 5 := by lia
 have h5' : h <= 5 := by lia
 obtain ⟨oi, oW⟩ := mem_opn.mp ho
 obtain ⟨ci, cW⟩ := mem_opn.mp hc
 have q1 := inR_iff.mp oi
 have q2 := inR_iff.mp ci
 obtain ⟨S, hS⟩ : ∃ S, S = sol w h W := ⟨_, rfl⟩
 have fe := field_eq (W := W) w5' h5' oi oW
 rw [<- hS] at fe
 obtain ⟨x, hx⟩ : ∃ x : Int, x = c.1 - o.1 := ⟨_, rfl⟩
 obtain ⟨y, hy⟩ : ∃ y : Int, y = c.2 - o.2 := ⟨_, rfl⟩
 refine nx_seq (run_set (d := .int (iabs x)) ?_) ?_
 ·simp only [id dn, frzAt, if_true, if_false, reduceIte, Nat.reduceAdd, Nat.reduceSub, Nat.reduceLeDiff, hx]
  rfl
 rw [show (fr ns w h W o k r (.dat (cellD c)) s9 s10 s11 s12 s13 s14 s15).set 9 (.dat (.int (iabs x))) = fr ns w h W o k r (.dat (cellD c)) (.dat (.int (iabs x))) s10 s11 s12 s13 s14 s15 from rfl]
 refine nx_seq (run_set (d := .int (iabs y)) ?_) ?_
 ·simp only [id dn, frzAt, if_true, if_false, reduceIte, Nat.reduceAdd, Nat.reduceSub, Nat.reduceLeDiff, hy]
  rfl
 rw [show (fr ns w h W o k r (.dat (cellD c)) (.dat (.int (iabs x))) s10 s11 s12 s13 s14 s15).set 10 (.dat (.int (iabs y))) = fr ns w h W o k r (.dat (cellD c)) (.dat (.int (iabs x))) (.dat (.int (iabs y))) s11 s12 s13 s14 s15 from rfl]
 refine nx_seq (run_set (d := .int 0) rfl) ?_
 rw [show (fr ns w h W o k r (.dat (cellD c)) (.dat (.int (iabs x))) (.dat (.int (iabs y))) s11 s12 s13 s14 s15).set 11 (.dat (.int 0)) = fr ns w h W o k r (.dat (cellD c)) (.dat (.int (iabs x))) (.dat (.int (iabs y))) (.dat (.int 0)) s12 s13 s14 s15 from rfl]
 obtain ⟨P, hP⟩ : ∃ P : Bool, P = (seeB S o c && decide (sq o c <= r * r)) := ⟨_, rfl⟩
 obtain ⟨M, hM⟩ : ∃ M : Nat, M = if P = true then 1 + (if iabs x = iabs y then 1 else 0) + 2 * (if x = 0 /\ y = 0 then 1 else 0) else 0 := ⟨_, rfl⟩
 have ax := iabs_or x
 have ay := iabs_or y
 have inF : ((cells w h).filter fun b => seeB S o b).contains c = seeB S o c := by
  rw [Bool.eq_iff_iff, List.contains_iff_mem, List.mem_filter, mem_cells]
  exact ⟨fun z => z.2, fun z => ⟨ci, z⟩⟩
 have sqe : iabs x * iabs x + iabs y * iabs y = sq o c := by
  rw [iabs_sq, iabs_sq, sq_comm]
  unfold sq
  rw [hx, hy]
 have m1 : ∀ i : Int, i < 100 -> -100 < i -> dMul2 (.int i) (.int i) = some (.int (i * i)) := fun i a b => mul_i (okT (by lia) (by lia))
 have cnd : ∀ s11 s12 s13 s14 s15 : Sl, eAnd (eB (eOp (dIn false) (eV 8) (eCall Gfield_of (eCons (eV 1) (eCons (eV 3) eNil))))) (eB (eOp dLe (eOp dAdd2 (eOp dMul2 (eV 9) (eV 9)) (eOp dMul2 (eV 10) (eV 10))) (eOp dMul2 (eV 4) (eV 4)))) [.dat (scr ns), .dat (flD w h W), .dat (.list ((opn w h W).map cellD)), .dat (cellD o), .dat (.int r), .dat (eyes o k r), .dat (.int 2), .dat (fds w h W o k r), .dat (cellD c), .dat (.int (iabs x)), .dat (.int (iabs y)), s11, s12, s13, s14, s15] = some P := fun s11 s12 s13 s14 s15 => by
  have e1 : eB (eOp (dIn false) (eV 8) (eCall Gfield_of (eCons (eV 1) (eCons (eV 3) eNil)))) [.dat (scr ns), .dat (flD w h W), .dat (.list ((opn w h W).map cellD)), .dat (cellD o), .dat (.int r), .dat (eyes o k r), .dat (.int 2), .dat (fds w h W o k r), .dat (cellD c), .dat (.int (iabs x)), .dat (.int (iabs y)), s11, s12, s13, s14, s15] = some (seeB S o c) := by
   simp only [id dn, frzAt, if_true, if_false, reduceIte, Nat.reduceAdd, Nat.reduceSub, Nat.reduceLeDiff, fe, in_L, inF]
   first | done | rfl
  rw [ap_and, e1, Option.bind_some, hP]
  cases seeB S o c with
  | false => rfl
  | true =>
   simp only [id dn, frzAt, if_true, if_false, reduceIte, Nat.reduceAdd, Nat.reduceSub, Nat.reduceLeDiff, m1 _ (show iabs x < 100 by lia) (by lia), m1 _ (show iabs y < 100 by lia) (by lia), m1 r (by lia) (by lia), sqe, Bool.true_and]
 refine nx_seq (ρ' := fr ns w h W o k r (.dat (cellD c)) (.dat (.int (iabs x))) (.dat (.int (iabs y))) (.dat (.int (M : Int))) s12 s13 s14 s15) ?_ ?_
 ·have fz : ∀ s12 s13 s14 s15 : Sl, List.map frz (fr ns w h W o k r (.dat (cellD c)) (.dat (.int (iabs x))) (.dat (.int (iabs y))) (.dat (.int 0)) s12 s13 s14 s15) = [.dat (scr ns), .dat (flD w h W), .dat (.list ((opn w h W).map cellD)), .dat (cellD o), .dat (.int r), .dat (eyes o k r), .dat (.int 2), .dat (fds w h W o k r), .dat (cellD c), .dat (.int (iabs x)), .dat (.int (iabs y)), .dat (.int 0), frz s12, frz s13, frz s14, frz s15] := fun _ _ _ _ => rfl
  refine run_if (b := P) (by rw [fz]; exact cnd _ _ _ _ _) (fun hp => ?_) fun hp => ?_
  ·rw [hp, if_pos rfl] at hM
   have i1 : dInt [.bool (iabs x == iabs y)] = some (.int (if iabs x = iabs y then 1 else 0)) := by
    show some (PyData.int (if (iabs x == iabs y) = true then 1 else 0)) = _
    simp only [beq_iff_eq]
   have i2 : dInt [.bool (c == o)] = some (.int (if x = 0 /\ y = 0 then 1 else 0)) := by
    show some (PyData.int (if (c == o) = true then 1 else 0)) = _
    have : (c == o) = true ↔ (x = 0 /\ y = 0) := by
     rw [beq_iff_eq, hx, hy]
     constructor
     ·rintro rfl; lia
     ·intro z; exact Prod.ext (by lia) (by lia)
    simp only [this]
   have m2 : dMul2 (.int 2) (.int (if x = 0 /\ y = 0 then 1 else 0)) = some (.int (2 * (if x = 0 /\ y = 0 then 1 else 0))) := mul_i (okS (by decide) (by decide))
   refine (run_set (d := .int (M : Int)) ?_).trans rfl
   simp only [id dn, frzAt, if_true, if_false, reduceIte, Nat.reduceAdd, Nat.reduceSub, Nat.reduceLeDiff, eq_c, i1, i2, m2]
   rw [hM]
   congr 2
   split <;> split <;> rfl
  ·rw [hp, if_neg (by decide)] at hM
   rw [hM]
   rfl
 have sp : ∀ n, ((opn w h W).filter (spot S o ((k + n) % 4) r)).contains c = spot S o ((k + n) % 4) r c := fun n => by
  rw [Bool.eq_iff_iff, List.contains_iff_mem, List.mem_filter]
  exact ⟨fun z => z.2, fun z => ⟨hc, z⟩⟩
 have cn : ((List.range 4).filter fun n => spot S o ((k + n) % 4) r c).length = M := by
  rw [filter4, cnt_rot (fun j => spot S o j r c) hk, hM]
  have e : (fun j => spot S o j r c) = fun j => ahead j x y && P := by
   funext j
   unfold spot
   rw [hP, hx, hy, Bool.and_assoc, Bool.and_comm (decide _)]
  rw [e]
  cases P with
  | false => simp only [Bool.and_false]; rfl
  | true => simp only [Bool.and_true, if_true]; exact cnt_ahead x y
 refine nx_seq (run_skip ?_) ?_
 ·have lc := lc_out (gi := iSeq (eV 7)) (s := uName 0) (t := eB (eOp (dIn false) (eV 1) (eV 0))) (ge := eV 0) (inner := [none, some 8]) (ρ := [.dat (scr ns), .dat (flD w h W), .dat (.list ((opn w h W).map cellD)), .dat (cellD o), .dat (.int r), .dat (eyes o k r), .dat (.int 2), .dat (fds w h W o k r), .dat (cellD c), .dat (.int (iabs x)), .dat (.int (iabs y)), .dat (.int (M : Int)), frz s12, frz s13, frz s14, frz s15])
   (xs := List.range 4) (fun n => PyData.list (((opn w h W).filter (spot (sol w h W) o ((k + n) % 4) r)).map cellD)) (fun n => spot S o ((k + n) % 4) r c) (fun n => PyData.list (((opn w h W).filter (spot (sol w h W) o ((k + n) % 4) r)).map cellD)) (fun ρ => ∃ s0, ρ = [s0, .dat (cellD c)]) (it_seq rfl rfl) (by decide) ⟨.no, rfl⟩ (by
    rintro n _ ρ ⟨s0, rfl⟩
    refine ⟨[.dat (.list (((opn w h W).filter (spot (sol w h W) o ((k + n) % 4) r)).map cellD)), .dat (cellD c)], rfl, ⟨_, rfl⟩, ?_, fun _ => rfl⟩
    have q := sp n
    rw [hS] at q
    simp only [id dn, frzAt, if_true, if_false, reduceIte, Nat.reduceAdd, Nat.reduceSub, Nat.reduceLeDiff, in_L, q, hS]
    first | done | rfl) rfl
  rw [show List.map frz (fr ns w h W o k r (.dat (cellD c)) (.dat (.int (iabs x))) (.dat (.int (iabs y))) (.dat (.int (M : Int))) s12 s13 s14 s15) = [.dat (scr ns), .dat (flD w h W), .dat (.list ((opn w h W).map cellD)), .dat (cellD o), .dat (.int r), .dat (eyes o k r), .dat (.int 2), .dat (fds w h W o k r), .dat (cellD c), .dat (.int (iabs x)), .dat (.int (iabs y)), .dat (.int (M : Int)), frz s12, frz s13, frz s14, frz s15] from rfl]
  simp only [id dn, frzAt, if_true, if_false, reduceIte, Nat.reduceAdd, Nat.reduceSub, Nat.reduceLeDiff, lc, List.length_map, cn, beq_self_eq_true, Bool.not_true]
 refine nx_skip ?_ ⟨_, _, _, _, _, _, _, _, rfl⟩
 have ey := eyes_eq (W := W) w5' h5' (r := r) hk oi oW ci (by lia) (by lia)
 rw [<- hS] at ey
 have lc := lc_out (gi := iRng1 (eCons (eC (.int 4)) eNil)) (s := uName 0) (t := eB (eOp (dIn false) (eV 1) (eOp dIx (eV 2) (eV 0)))) (ge := eV 0) (inner := [none, some 8, some 7]) (ρ := [.dat (scr ns), .dat (flD w h W), .dat (.list ((opn w h W).map cellD)), .dat (cellD o), .dat (.int r), .dat (eyes o k r), .dat (.int 2), .dat (fds w h W o k r), .dat (cellD c), .dat (.int (iabs x)), .dat (.int (iabs y)), .dat (.int (M : Int)), frz s12, frz s13, frz s14, frz s15])
  (xs := List.range 4) (fun (n : Nat) => PyData.int (n : Int)) (fun n => spot S o ((k + n) % 4) r c) (fun (n : Nat) => PyData.int (n : Int)) (fun ρ => ∃ s0, ρ = [s0, .dat (cellD c), .dat (fds w h W o k r)]) (it_rng (n := 4) rfl (by decide)) (by decide) ⟨.no, rfl⟩ (by
   rintro n hn ρ ⟨s0, rfl⟩
   refine ⟨[.dat (.int (n : Int)), .dat (cellD c), .dat (fds w h W o k r)], rfl, ⟨_, rfl⟩, ?_, fun _ => rfl⟩
   have q := sp n
   rw [hS] at q
   have ix : dIx (fds w h W o k r) (.int (n : Int)) = some (.list (((opn w h W).filter (spot (sol w h W) o ((k + n) % 4) r)).map cellD)) := by
    have n4 := List.mem_range.mp hn
    rcases four n4 with rfl | rfl | rfl | rfl <;> rfl
   simp only [id dn, frzAt, if_true, if_false, reduceIte, Nat.reduceAdd, Nat.reduceSub, Nat.reduceLeDiff, ix, in_L, q, hS]
   first | done | rfl) rfl
 rw [show List.map frz (fr ns w h W o k r (.dat (cellD c)) (.dat (.int (iabs x))) (.dat (.int (iabs y))) (.dat (.int (M : Int))) s12 s13 s14 s15) = [.dat (scr ns), .dat (flD w h W), .dat (.list ((opn w h W).map cellD)), .dat (cellD o), .dat (.int r), .dat (eyes o k r), .dat (.int 2), .dat (fds w h W o k r), .dat (cellD c), .dat (.int (iabs x)), .dat (.int (iabs y)), .dat (.int (M : Int)), frz s12, frz s13, frz s14, frz s15] from rfl]
 have nn := ints_ne ((List.range 4).filter fun n => spot S o ((k + n) % 4) r c)
 simp only [id dn, frzAt, if_true, if_false, reduceIte, Nat.reduceAdd, Nat.reduceSub, Nat.reduceLeDiff, lc, ey, nn]
theorem eye_step (s8 s9 s10 s11 s14 s15 : Sl) {q : Nat} (hq : q < 4) :
  Nx (sSeq (sSet 14 (eCall Gseen_by (eCons (eV 1) (eCons (eTup (eCons (eV 3) (eCons (eOp dIx (eV 12) (eC (.int 1))) (eCons (eOp dAdd2 (eV 4) (eC (.int 1))) eNil)))) eNil))))
  (sSeq (sIf (eB (eOp dNe (eLc (eComp (iSeq (eV 13)) (uName 0) (eB (eOp (dIn true) (eV 0) (eV 1))) (eV 0) [none, some 14])) (eLst eNil))) (sRet (eC (.bool false))) sSkip)
  (sSeq (sSet 15 (eOp dIx (eCall Gturned (eCons (eCall Gturned (eCons (eV 12) eNil)) eNil)) (eC (.int 1))))
  (sIf (eB (eOp dNe (eLc (eComp (iSeq (eV 13)) (uName 0) (eB (eOp (dIn true) (eV 1) (eCall Gseen_by (eCons (eV 2) (eCons (eTup (eCons (eV 0) (eCons (eV 3) (eCons (eV 4) eNil)))) eNil))))) (eV 0) [none, some 3, some 1, some 15, some 4])) (eLst eNil))) (sRet (eC (.bool false))) sSkip))))
  (fr ns w h W o k r s8 s9 s10 s11 (.dat (eyeD o q r)) (.dat (.list (((opn w h W).filter (spot (sol w h W) o q r)).map cellD))) s14 s15) (fun ρ => ∃ s8 s9 s10 s11 s12 s13 s14 s15, ρ = fr ns w h W o k r s8 s9 s10 s11 s12 s13 s14 s15) := by
 have w5' : w <= 5 := by lia
 have h5' : h <= 5 := by lia
 have ol := opn_len (W := W) w5 h5
 obtain ⟨oi, oW⟩ := mem_opn.mp ho
 obtain ⟨S, hS⟩ : ∃ S, S = sol w h W := ⟨_, rfl⟩
 have fl : ∀ p : C -> Bool, ((opn w h W).filter p).length <= 1000 := fun p => Nat.le_trans (List.length_filter_le _ _) (by lia)
 have se := seen_eq (W := W) w5' h5' (r := r + 1) hq oi oW (by lia) (by lia)
 have se' : Gseen_by [flD w h W, .tuple [cellD o, .str (dirS q), .int (r + 1)]] = some (.list (((opn w h W).filter (spot (sol w h W) o q (r + 1))).map cellD)) := se
 refine nx_seq (run_set (d := .list (((opn w h W).filter (spot (sol w h W) o q (r + 1))).map cellD)) ?_) ?_
 ·simp only [id dn, frzAt, if_true, if_false, reduceIte, Nat.reduceAdd, Nat.reduceSub, Nat.reduceLeDiff, ey_1, se']
 rw [show (fr ns w h W o k r s8 s9 s10 s11 (.dat (eyeD o q r)) (.dat (.list (((opn w h W).filter (spot (sol w h W) o q r)).map cellD))) s14 s15).set 14 (.dat (.list (((opn w h W).filter (spot (sol w h W) o q (r + 1))).map cellD))) = fr ns w h W o k r s8 s9 s10 s11 (.dat (eyeD o q r)) (.dat (.list (((opn w h W).filter (spot (sol w h W) o q r)).map cellD))) (.dat (.list (((opn w h W).filter (spot (sol w h W) o q (r + 1))).map cellD))) s15 from rfl]
 refine nx_seq (run_skip (t_neL (l := []) (m := []) (lc_out (out := ([] : List C).map cellD) (xs := (opn w h W).filter (spot (sol w h W) o q r)) cellD (fun c => !((opn w h W).filter (spot (sol w h W) o q (r + 1))).contains c) cellD (fun ρ => ∃ s0, ρ = [s0, .dat (.list (((opn w h W).filter (spot (sol w h W) o q (r + 1))).map cellD))]) (it_seq rfl rfl) (fl _) ⟨_, rfl⟩ (by
  rintro c _ ρ ⟨s0, rfl⟩
  exact ⟨[.dat (cellD c), .dat (.list (((opn w h W).filter (spot (sol w h W) o q (r + 1))).map cellD))], rfl, ⟨_, rfl⟩, by simp only [id dn, frzAt, if_true, if_false, reduceIte, Nat.reduceAdd, Nat.reduceSub, Nat.reduceLeDiff, in_L]; first | done | rfl, fun _ => rfl⟩) (by
  rw [filter_nil]
  intro c hc
  rw [List.mem_filter] at hc
  rw [Bool.not_eq_false', List.contains_iff_mem, List.mem_filter]
  refine ⟨hc.1, ?_⟩
  have z := hc.2
  unfold spot at z ⊢
  rw [Bool.and_eq_true, Bool.and_eq_true, decide_eq_true_eq] at z ⊢
  refine ⟨⟨z.1.1, ?_⟩, z.2⟩
  have e : (r + 1) * (r + 1) = r * r + r + r + 1 := by rw [Int.add_mul, Int.mul_add]; lia
  lia)) (lst_nil _) rfl)) ?_
 have tt : Gturned [eyeD o q r] = some (eyeD o ((q + 1) % 4) r) := turned_eq hq
 have tu : Gturned [eyeD o ((q + 1) % 4) r] = some (eyeD o ((q + 2) % 4) r) := by
  rw [turned_eq (lt4 q 1), show ((q + 1) % 4 + 1) % 4 = (q + 2) % 4 by lia]
 refine nx_seq (run_set (d := .str (dirS ((q + 2) % 4))) ?_) ?_
 ·simp only [id dn, frzAt, if_true, if_false, reduceIte, Nat.reduceAdd, Nat.reduceSub, Nat.reduceLeDiff, tt, tu, ey_1]
 rw [show (fr ns w h W o k r s8 s9 s10 s11 (.dat (eyeD o q r)) (.dat (.list (((opn w h W).filter (spot (sol w h W) o q r)).map cellD))) (.dat (.list (((opn w h W).filter (spot (sol w h W) o q (r + 1))).map cellD))) s15).set 15 (.dat (.str (dirS ((q + 2) % 4)))) = fr ns w h W o k r s8 s9 s10 s11 (.dat (eyeD o q r)) (.dat (.list (((opn w h W).filter (spot (sol w h W) o q r)).map cellD))) (.dat (.list (((opn w h W).filter (spot (sol w h W) o q (r + 1))).map cellD))) (.dat (.str (dirS ((q + 2) % 4)))) from rfl]
 refine nx_skip (t_neL (l := []) (m := []) (lc_out (out := ([] : List C).map cellD) (xs := (opn w h W).filter (spot (sol w h W) o q r)) cellD (fun c => !((opn w h W).filter (spot (sol w h W) c ((q + 2) % 4) r)).contains o) cellD (fun ρ => ∃ s0, ρ = [s0, .dat (cellD o), .dat (flD w h W), .dat (.str (dirS ((q + 2) % 4))), .dat (.int r)]) (it_seq rfl rfl) (fl _) ⟨_, rfl⟩ (by
  rintro c hc ρ ⟨s0, rfl⟩
  obtain ⟨ci, cW⟩ := mem_opn.mp (List.mem_filter.mp hc).1
  have sc := seen_eq (W := W) w5' h5' (o := c) (k := (q + 2) % 4) (r := r) (lt4 q 2) ci cW (by lia) (by lia)
  have sc' : Gseen_by [flD w h W, .tuple [cellD c, .str (dirS ((q + 2) % 4)), .int r]] = some (.list (((opn w h W).filter (spot (sol w h W) c ((q + 2) % 4) r)).map cellD)) := sc
  exact ⟨[.dat (cellD c), .dat (cellD o), .dat (flD w h W), .dat (.str (dirS ((q + 2) % 4))), .dat (.int r)], rfl, ⟨_, rfl⟩, by simp only [id dn, frzAt, if_true, if_false, reduceIte, Nat.reduceAdd, Nat.reduceSub, Nat.reduceLeDiff, sc', in_L]; first | done | rfl, fun _ => rfl⟩) (by
  rw [filter_nil]
  intro c hc
  rw [List.mem_filter] at hc
  obtain ⟨ci, cW⟩ := mem_opn.mp hc.1
  rw [Bool.not_eq_false', List.contains_iff_mem, List.mem_filter]
  refine ⟨ho, ?_⟩
  have z := hc.2
  unfold spot at z ⊢
  rw [Bool.and_eq_true, Bool.and_eq_true, decide_eq_true_eq] at z ⊢
  refine ⟨⟨?_, by rw [sq_comm]; exact z.1.2⟩, ?_⟩
  ·rw [show o.1 - c.1 = -(c.1 - o.1) by lia, show o.2 - c.2 = -(c.2 - o.2) by lia, ahead_back hq]
   exact z.1.1
  ·rw [see_comm (near_in w5' h5' ci oi)]
   exact z.2)) (lst_nil _) rfl) ⟨_, _, _, _, _, _, _, _, rfl⟩
end
theorem main (ns : List Int) (hn : ns.length <= 63) : Glaw [.list (ns.map PyData.int)] = some (.bool true) := by
 obtain ⟨w, h, W, ef, w1, w4, h1, h4⟩ := floor_ok ns hn 0 4 (by lia) (by lia)
 have w5 : w <= 5 := by lia
 have h5 : h <= 5 := by lia
 have ol := opn_len (W := W) w4 h4
 have ef' : G_law_floor [scr ns, .int 0, .int 4] = some (flD w h W) := ef
 refine fn_rt ?_
 unfold glaw
 rw [show startD 16 [.list (ns.map PyData.int)] = [.dat (scr ns), .no, .no, .no, .no, .no, .no, .no, .no, .no, .no, .no, .no, .no, .no, .no] from rfl]
 refine run_seq (by (simp only [id dn, frzAt, if_true, if_false, reduceIte, Nat.reduceAdd, Nat.reduceSub, Nat.reduceLeDiff, ef'] <;> rfl)) ?_
 refine run_seq (by (simp only [id dn, frzAt, if_true, if_false, reduceIte, Nat.reduceAdd, Nat.reduceSub, Nat.reduceLeDiff, law_open w5 h1 h5] <;> rfl)) ?_
 by_cases emp : opn w h W = []
 ·refine run_rt (run_if (b := true) ?_ (fun _ => run_ret rfl) fun z => nomatch z)
  have e := eq_Ls (opn w h W) []
  rw [decide_eq_true emp] at e
  have e' : dEq (.list ((opn w h W).map cellD)) (.list []) = some (.bool true) := e
  simp only [id dn, frzAt, if_true, if_false, reduceIte, Nat.reduceAdd, Nat.reduceSub, Nat.reduceLeDiff, e']
 refine run_seq (run_skip ?_) ?_
 ·have e := eq_Ls (opn w h W) []
  rw [decide_eq_false emp] at e
  have e' : dEq (.list ((opn w h W).map cellD)) (.list []) = some (.bool false) := e
  simp only [id dn, frzAt, if_true, if_false, reduceIte, Nat.reduceAdd, Nat.reduceSub, Nat.reduceLeDiff, e']
 have pos : 0 < (opn w h W).length := List.length_pos_iff.mpr emp
 obtain ⟨e60, d0, d1⟩ := drawn_ok ns hn 60 ((opn w h W).length : Int) (by lia)
 obtain ⟨e61, f0, f1⟩ := drawn_ok ns hn 61 6 (by lia)
 obtain ⟨e62, g0, g1⟩ := drawn_ok ns hn 62 4 (by lia)
 obtain ⟨ix, ho⟩ := ix_L d0 d1
 generalize dr ns 60 ((opn w h W).length : Int) = d60 at *
 generalize dr ns 61 6 = d61 at *
 generalize dr ns 62 4 = d62 at *
 obtain ⟨o, hoo⟩ : ∃ o, o = at0 (opn w h W) d60.toNat := ⟨_, rfl⟩
 rw [<- hoo] at ix ho
 obtain ⟨r, hr⟩ : ∃ r : Int, r = 1 + d61 := ⟨_, rfl⟩
 obtain ⟨k, hk⟩ : ∃ k : Nat, d62 = k := ⟨d62.toNat, by lia⟩
 subst hk
 have k4 : k < 4 := by lia
 refine run_seq (run_set (d := cellD o) ?_) ?_
 ·simp only [id dn, frzAt, if_true, if_false, reduceIte, Nat.reduceAdd, Nat.reduceSub, Nat.reduceLeDiff, List.length_map, e60, ix]
 refine run_seq (run_set (d := .int r) ?_) ?_
 ·simp only [id dn, frzAt, if_true, if_false, reduceIte, Nat.reduceAdd, Nat.reduceSub, Nat.reduceLeDiff, e61, hr]
 have sgn : dIxS (.str "nesw") (.int (k : Int)) = some (.str (dirS ((k + 0) % 4))) := by
  rcases four k4 with rfl | rfl | rfl | rfl <;> rfl
 refine run_seq (ρ' := [.dat (scr ns), .dat (flD w h W), .dat (.list ((opn w h W).map cellD)), .dat (cellD o), .dat (.int r), .own [eyeD o ((k + 0) % 4) r], .no] ++ [.no, .no, .no, .no, .no, .no, .no, .no, .no]) ?_ ?_
 ·simp only [id dn, frzAt, if_true, if_false, reduceIte, Nat.reduceAdd, Nat.reduceSub, Nat.reduceLeDiff, e62, sgn]
  rfl
 refine eyes_made ns (flD w h W) (.list ((opn w h W).map cellD)) k4 [.no, .no, .no, .no, .no, .no, .no, .no, .no] rfl ?_
 have t3 : Gturned [eyeD o ((k + 3) % 4) r] = some (eyeD o ((k + 0) % 4) r) := by
  rw [turned_eq (lt4 k 3), show ((k + 3) % 4 + 1) % 4 = (k + 0) % 4 by lia]
 have fz : ∀ s7 : Sl, List.map frz ([.dat (scr ns), .dat (flD w h W), .dat (.list ((opn w h W).map cellD)), .dat (cellD o), .dat (.int r), .own [eyeD o ((k + 0) % 4) r, eyeD o ((k + 1) % 4) r, eyeD o ((k + 2) % 4) r, eyeD o ((k + 3) % 4) r], .dat (.int 2)] ++ [s7, .no, .no, .no, .no, .no, .no, .no, .no]) = [.dat (scr ns), .dat (flD w h W), .dat (.list ((opn w h W).map cellD)), .dat (cellD o), .dat (.int r), .dat (eyes o k r), .dat (.int 2), frz s7, .no, .no, .no, .no, .no, .no, .no, .no] := fun _ => rfl
 refine run_seq (run_skip (or_no ?_ ?_)) ?_
 ·rw [fz]
  have im : dIx (eyes o k r) (.int (-1)) = some (eyeD o ((k + 3) % 4) r) := rfl
  have i0 : dIx (eyes o k r) (.int 0) = some (eyeD o ((k + 0) % 4) r) := rfl
  simp only [id dn, frzAt, if_true, if_false, reduceIte, Nat.reduceAdd, Nat.reduceSub, Nat.reduceLeDiff, im, i0, t3, ne_eye]
 ·rw [fz]
  have lc := lc_out (gi := iSeq (eV 5)) (s := uName 0) (t := eT) (ge := eOp dIx (eV 0) (eC (.int 1))) (inner := [none]) (ρ := [.dat (scr ns), .dat (flD w h W), .dat (.list ((opn w h W).map cellD)), .dat (cellD o), .dat (.int r), .dat (eyes o k r), .dat (.int 2), .no, .no, .no, .no, .no, .no, .no, .no, .no])
   (xs := List.range 4) (fun n => eyeD o ((k + n) % 4) r) (fun _ => true) (fun n => PyData.str (dirS ((k + n) % 4))) (fun ρ => ∃ s0, ρ = [s0]) (it_seq rfl rfl) (by decide) ⟨.no, rfl⟩ (by
    rintro n _ ρ ⟨s0, rfl⟩
    exact ⟨[.dat (eyeD o ((k + n) % 4) r)], rfl, ⟨_, rfl⟩, rfl, fun _ => by simp only [id dn, frzAt, if_true, if_false, reduceIte, Nat.reduceAdd, Nat.reduceSub, Nat.reduceLeDiff, ey_1]⟩) (by rw [filter_true])
  have sd := sort_dirs k4
  have ns' := ne_Ss (xs := [("e" : Str), "n", "s", "w"]) (by decide +kernel)
  have ns2 : dNe (.list [.str "e", .str "n", .str "s", .str "w"]) (.list [.str "e", .str "n", .str "s", .str "w"]) = some (.bool false) := ns'
  simp only [frz_no]
  simp only [id dn, frzAt, if_true, if_false, reduceIte, Nat.reduceAdd, Nat.reduceSub, Nat.reduceLeDiff, lc, sd, ns2]
 refine run_frz ?_
 rw [show frzAt 5 ([.dat (scr ns), .dat (flD w h W), .dat (.list ((opn w h W).map cellD)), .dat (cellD o), .dat (.int r), .own [eyeD o ((k + 0) % 4) r, eyeD o ((k + 1) % 4) r, eyeD o ((k + 2) % 4) r, eyeD o ((k + 3) % 4) r], .dat (.int 2)] ++ [.no, .no, .no, .no, .no, .no, .no, .no, .no]) = [.dat (scr ns), .dat (flD w h W), .dat (.list ((opn w h W).map cellD)), .dat (cellD o), .dat (.int r), .dat (eyes o k r), .dat (.int 2), .no, .no, .no, .no, .no, .no, .no, .no, .no] from rfl]
 obtain ⟨oi, oW⟩ := mem_opn.mp ho
 refine run_seq (run_set (d := fds w h W o k r) ?_) ?_
 ·refine lc_out (xs := List.range 4) (fun n => eyeD o ((k + n) % 4) r) (fun _ => true) (fun n => PyData.list (((opn w h W).filter (spot (sol w h W) o ((k + n) % 4) r)).map cellD)) (fun ρ => ∃ s0, ρ = [s0, .dat (flD w h W)]) (it_seq rfl rfl) (by decide) ⟨.no, rfl⟩ ?_ (by rw [filter_true])
  rintro n _ ρ ⟨s0, rfl⟩
  refine ⟨[.dat (eyeD o ((k + n) % 4) r), .dat (flD w h W)], rfl, ⟨_, rfl⟩, rfl, fun _ => ?_⟩
  have q := seen_eq (W := W) w5 h5 (r := r) (lt4 k n) oi oW (by lia) (by lia)
  simp only [id dn, frzAt, if_true, if_false, reduceIte, Nat.reduceAdd, Nat.reduceSub, Nat.reduceLeDiff, q]
 rw [show [.dat (scr ns), .dat (flD w h W), .dat (.list ((opn w h W).map cellD)), .dat (cellD o), .dat (.int r), .dat (eyes o k r), .dat (.int 2), Sl.no, Sl.no, Sl.no, Sl.no, Sl.no, Sl.no, Sl.no, Sl.no, Sl.no].set 7 (.dat (fds w h W o k r)) = fr ns w h W o k r .no .no .no .no .no .no .no .no from rfl]
 refine run_inv cellD (fun ρ => ∃ s8 s9 s10 s11 s12 s13 s14 s15, ρ = fr ns w h W o k r s8 s9 s10 s11 s12 s13 s14 s15) (opn w h W) (it_seq rfl rfl) ⟨_, _, _, _, _, _, _, _, rfl⟩ ?_ ?_
 ·rintro c hc ρ ⟨s8, s9, s10, s11, s12, s13, s14, s15, rfl⟩
  exact ⟨fr ns w h W o k r (.dat (cellD c)) s9 s10 s11 s12 s13 s14 s15, rfl, cell_step w4 h4 k4 ho (by lia) (by lia) s9 s10 s11 s12 s13 s14 s15 hc⟩
 ·rintro ρ ⟨s8, s9, s10, s11, s12, s13, s14, s15, rfl⟩
  refine run_frz ?_
  rw [show frzAt 5 (fr ns w h W o k r s8 s9 s10 s11 s12 s13 s14 s15) = fr ns w h W o k r s8 s9 s10 s11 s12 s13 s14 s15 from rfl]
  refine run_inv (fun n => .tuple [eyeD o ((k + n) % 4) r, PyData.list (((opn w h W).filter (spot (sol w h W) o ((k + n) % 4) r)).map cellD)]) (fun ρ => ∃ s8 s9 s10 s11 s12 s13 s14 s15, ρ = fr ns w h W o k r s8 s9 s10 s11 s12 s13 s14 s15) (List.range 4) rfl ⟨_, _, _, _, _, _, _, _, rfl⟩ ?_ ?_
  ·rintro n _ ρ ⟨s8, s9, s10, s11, s12, s13, s14, s15, rfl⟩
   exact ⟨fr ns w h W o k r s8 s9 s10 s11 (.dat (eyeD o ((k + n) % 4) r)) (.dat (.list (((opn w h W).filter (spot (sol w h W) o ((k + n) % 4) r)).map cellD))) s14 s15, rfl, eye_step w4 h4 k4 ho (by lia) (by lia) s8 s9 s10 s11 s14 s15 (lt4 k n)⟩
  ·rintro ρ ⟨s8, s9, s10, s11, s12, s13, s14, s15, rfl⟩
   exact run_ret rfl
end My
namespace My
open PySem PySem.Spec PySem.SeqAt PyProof.Rows L2 CL DL SD ZL SL EL DC TB TX
theorem us1 {p : List Value -> Prop} {us : List Value} (h : us.length = 1) (q : ∀ a, p [a]) : p us := by
 rcases us with _ | ⟨a, _ | ⟨b, r⟩⟩
 ·cases h
 ·exact q a
 ·simp at h
theorem us2 {p : List Value -> Prop} {us : List Value} (h : us.length = 2) (q : ∀ a b, p [a, b]) : p us := by
 rcases us with _ | ⟨a, r⟩
 ·cases h
 ·exact us1 (p := fun r => p (a :: r)) (us := r) (by simpa using h) fun b => q a b
theorem us3 {p : List Value -> Prop} {us : List Value} (h : us.length = 3) (q : ∀ a b c, p [a, b, c]) : p us := by
 rcases us with _ | ⟨a, r⟩
 ·cases h
 ·exact us2 (p := fun r => p (a :: r)) (us := r) (by simpa using h) fun b c => q a b c
theorem us4 {p : List Value -> Prop} {us : List Value} (h : us.length = 4) (q : ∀ a b c d, p [a, b, c, d]) : p us := by
 rcases us with _ | ⟨a, r⟩
 ·cases h
 ·exact us3 (p := fun r => p (a :: r)) (us := r) (by simpa using h) fun b c d => q a b c d
theorem all_mk (main : ∀ ns : List Int, ns.length <= 63 -> Glaw [.list (ns.map PyData.int)] = some (.bool true)) {l : PySem.W.OpenLaw} {w : World} {K : PySem.W.Frag} {h : Heap} {mg : Str -> Option Value} {fa : Addr} {f0 : Addr} {od0 an0 : Option Addr} {sl0 : Array (Option Value)} {oc0 kV0 dc0 pm0 cd0 ct0 : Value} {f1 : Addr} {od1 an1 : Option Addr} {sl1 : Array (Option Value)} {oc1 kV1 dc1 pm1 cd1 ct1 : Value} {f2 : Addr} {od2 an2 : Option Addr} {sl2 : Array (Option Value)} {oc2 kV2 dc2 pm2 cd2 ct2 : Value} {f3 : Addr} {od3 an3 : Option Addr} {sl3 : Array (Option Value)} {oc3 kV3 dc3 pm3 cd3 ct3 : Value} {f4 : Addr} {od4 an4 : Option Addr} {sl4 : Array (Option Value)} {oc4 kV4 dc4 pm4 cd4 ct4 : Value} {f5 : Addr} {od5 an5 : Option Addr} {sl5 : Array (Option Value)} {oc5 kV5 dc5 pm5 cd5 ct5 : Value} {f6 : Addr} {od6 an6 : Option Addr} {sl6 : Array (Option Value)} {oc6 kV6 dc6 pm6 cd6 ct6 : Value} {f7 : Addr} {od7 an7 : Option Addr} {sl7 : Array (Option Value)} {oc7 kV7 dc7 pm7 cd7 ct7 : Value} {f8 : Addr} {od8 an8 : Option Addr} {sl8 : Array (Option Value)} {oc8 kV8 dc8 pm8 cd8 ct8 : Value} {f9 : Addr} {od9 an9 : Option Addr} {sl9 : Array (Option Value)} {oc9 kV9 dc9 pm9 cd9 ct9 : Value} {f10 : Addr} {od10 an10 : Option Addr} {sl10 : Array (Option Value)} {oc10 kV10 dc10 pm10 cd10 ct10 : Value} {f11 : Addr} {od11 an11 : Option Addr} {sl11 : Array (Option Value)} {oc11 kV11 dc11 pm11 cd11 ct11 : Value} {f12 : Addr} {od12 an12 : Option Addr} {sl12 : Array (Option Value)} {oc12 kV12 dc12 pm12 cd12 ct12 : Value} {f13 : Addr} {od13 an13 : Option Addr} {sl13 : Array (Option Value)} {oc13 kV13 dc13 pm13 cd13 ct13 : Value} {f14 : Addr} {od14 an14 : Option Addr} {sl14 : Array (Option Value)} {oc14 kV14 dc14 pm14 cd14 ct14 : Value} {f15 : Addr} {od15 an15 : Option Addr} {sl15 : Array (Option Value)} {oc15 kV15 dc15 pm15 cd15 ct15 : Value} {f16 : Addr} {od16 an16 : Option Addr} {sl16 : Array (Option Value)} {oc16 kV16 dc16 pm16 cd16 ct16 : Value} {f17 : Addr} {od17 an17 : Option Addr} {sl17 : Array (Option Value)} {oc17 kV17 dc17 pm17 cd17 ct17 : Value} {f18 : Addr} {od18 an18 : Option Addr} {sl18 : Array (Option Value)} {oc18 kV18 dc18 pm18 cd18 ct18 : Value} {f19 : Addr} {od19 an19 : Option Addr} {sl19 : Array (Option Value)} {oc19 kV19 dc19 pm19 cd19 ct19 : Value} {f20 : Addr} {od20 an20 : Option Addr} {sl20 : Array (Option Value)} {oc20 kV20 dc20 pm20 cd20 ct20 : Value} {f21 : Addr} {od21 an21 : Option Addr} {sl21 : Array (Option Value)} {oc21 kV21 dc21 pm21 cd21 ct21 : Value} {f22 : Addr} {od22 an22 : Option Addr} {sl22 : Array (Option Value)} {oc22 kV22 dc22 pm22 cd22 ct22 : Value} {f23 : Addr} {od23 an23 : Option Addr} {sl23 : Array (Option Value)} {oc23 kV23 dc23 pm23 cd23 ct23 : Value} {f24 : Addr} {od24 an24 : Option Addr} {sl24 : Array (Option Value)} {oc24 kV24 dc24 pm24 cd24 ct24 : Value} {f25 : Addr} {od25 an25 : Option Addr} {sl25 : Array (Option Value)} {oc25 kV25 dc25 pm25 cd25 ct25 : Value} {f26 : Addr} {od26 an26 : Option Addr} {sl26 : Array (Option Value)} {oc26 kV26 dc26 pm26 cd26 ct26 : Value} {f27 : Addr} {od27 an27 : Option Addr} {sl27 : Array (Option Value)} {oc27 kV27 dc27 pm27 cd27 ct27 : Value} {f28 : Addr} {od28 an28 : Option Addr} {sl28 : Array (Option Value)} {oc28 kV28 dc28 pm28 cd28 ct28 : Value} {z_STEPS zp_STEPS : Nat} {zh0_STEPS : Int} {zt0_STEPS : Tok} {za0_STEPS zn0_STEPS : Nat} {zd0_STEPS : Option Addr} {zs0_STEPS : Array (Option Value)} {zu0_0_STEPS : Tok} {zu0_1_STEPS : Tok} {zh1_STEPS : Int} {zt1_STEPS : Tok} {za1_STEPS zn1_STEPS : Nat} {zd1_STEPS : Option Addr} {zs1_STEPS : Array (Option Value)} {zu1_0_STEPS : Tok} {zu1_1_STEPS : Tok} {zh2_STEPS : Int} {zt2_STEPS : Tok} {za2_STEPS zn2_STEPS : Nat} {zd2_STEPS : Option Addr} {zs2_STEPS : Array (Option Value)} {zu2_0_STEPS : Tok} {zu2_1_STEPS : Tok} {zh3_STEPS : Int} {zt3_STEPS : Tok} {za3_STEPS zn3_STEPS : Nat} {zd3_STEPS : Option Addr} {zs3_STEPS : Array (Option Value)} {zu3_0_STEPS : Tok} {zu3_1_STEPS : Tok} {z_RIGHT_OF zp_RIGHT_OF : Nat} {zh0_RIGHT_OF : Int} {zt0_RIGHT_OF : Tok} {zu0_RIGHT_OF : Tok} {zh1_RIGHT_OF : Int} {zt1_RIGHT_OF : Tok} {zu1_RIGHT_OF : Tok} {zh2_RIGHT_OF : Int} {zt2_RIGHT_OF : Tok} {zu2_RIGHT_OF : Tok} {zh3_RIGHT_OF : Int} {zt3_RIGHT_OF : Tok} {zu3_RIGHT_OF : Tok} (X : K.In h) (G : h.Ns mainGlobals mg) (hfa : mg "law" = some (.ref fa))
  (a0 : PySem.W.nsIn K mainGlobals "is_whole" = some (some (.ref f0)))
  (l0 : K.lookup f0 = some ⟨oc0, od0, .func (PySem.W.fnOf "is_whole" "is_whole" (defArgs s_qj) (defBody s_qj) (defScope s_qj) .none kV0 dc0 pm0 an0 cd0 ct0), sl0⟩)
  (c0 : PySem.W.codeIn K cd0 "is_whole" = true)
  (k0 : PySem.W.keepIn K (.ref f0) = true)
  (a1 : PySem.W.nsIn K mainGlobals "all_cells" = some (some (.ref f1)))
  (l1 : K.lookup f1 = some ⟨oc1, od1, .func (PySem.W.fnOf "all_cells" "all_cells" (defArgs s_qf) (defBody s_qf) (defScope s_qf) .none kV1 dc1 pm1 an1 cd1 ct1), sl1⟩)
  (c1 : PySem.W.codeIn K cd1 "all_cells" = true)
  (k1 : PySem.W.keepIn K (.ref f1) = true)
  (a2 : PySem.W.nsIn K mainGlobals "marked" = some (some (.ref f2)))
  (l2 : K.lookup f2 = some ⟨oc2, od2, .func (PySem.W.fnOf "marked" "marked" (defArgs s_qr) (defBody s_qr) (defScope s_qr) .none kV2 dc2 pm2 an2 cd2 ct2), sl2⟩)
  (c2 : PySem.W.codeIn K cd2 "marked" = true)
  (k2 : PySem.W.keepIn K (.ref f2) = true)
  (a3 : PySem.W.nsIn K mainGlobals "crossed" = some (some (.ref f3)))
  (l3 : K.lookup f3 = some ⟨oc3, od3, .func (PySem.W.fnOf "crossed" "crossed" (defArgs s_qo) (defBody s_qo) (defScope s_qo) .none kV3 dc3 pm3 an3 cd3 ct3), sl3⟩)
  (c3 : PySem.W.codeIn K cd3 "crossed" = true)
  (k3 : PySem.W.keepIn K (.ref f3) = true)
  (a4 : PySem.W.nsIn K mainGlobals "couples_beside" = some (some (.ref f4)))
  (l4 : K.lookup f4 = some ⟨oc4, od4, .func (PySem.W.fnOf "couples_beside" "couples_beside" (defArgs s_q4) (defBody s_q4) (defScope s_q4) .none kV4 dc4 pm4 an4 cd4 ct4), sl4⟩)
  (c4 : PySem.W.codeIn K cd4 "couples_beside" = true)
  (k4 : PySem.W.keepIn K (.ref f4) = true)
  (a5 : PySem.W.nsIn K mainGlobals "square_apart" = some (some (.ref f5)))
  (l5 : K.lookup f5 = some ⟨oc5, od5, .func (PySem.W.fnOf "square_apart" "square_apart" (defArgs s_q5) (defBody s_q5) (defScope s_q5) .none kV5 dc5 pm5 an5 cd5 ct5), sl5⟩)
  (c5 : PySem.W.codeIn K cd5 "square_apart" = true)
  (k5 : PySem.W.keepIn K (.ref f5) = true)
  (a6 : PySem.W.nsIn K mainGlobals "beside" = some (some (.ref f6)))
  (l6 : K.lookup f6 = some ⟨oc6, od6, .func (PySem.W.fnOf "beside" "beside" (defArgs s_qq) (defBody s_qq) (defScope s_qq) .none kV6 dc6 pm6 an6 cd6 ct6), sl6⟩)
  (c6 : PySem.W.codeIn K cd6 "beside" = true)
  (k6 : PySem.W.keepIn K (.ref f6) = true)
  (a7 : PySem.W.nsIn K mainGlobals "turned" = some (some (.ref f7)))
  (l7 : K.lookup f7 = some ⟨oc7, od7, .func (PySem.W.fnOf "turned" "turned" (defArgs s_qp) (defBody s_qp) (defScope s_qp) .none kV7 dc7 pm7 an7 cd7 ct7), sl7⟩)
  (c7 : PySem.W.codeIn K cd7 "turned" = true)
  (k7 : PySem.W.keepIn K (.ref f7) = true)
  (a8 : PySem.W.nsIn K mainGlobals "_law_cell" = some (some (.ref f8)))
  (l8 : K.lookup f8 = some ⟨oc8, od8, .func (PySem.W.fnOf "_law_cell" "_law_cell" (defArgs s_qc) (defBody s_qc) (defScope s_qc) .none kV8 dc8 pm8 an8 cd8 ct8), sl8⟩)
  (c8 : PySem.W.codeIn K cd8 "_law_cell" = true)
  (k8 : PySem.W.keepIn K (.ref f8) = true)
  (a9 : PySem.W.nsIn K mainGlobals "_law_cells" = some (some (.ref f9)))
  (l9 : K.lookup f9 = some ⟨oc9, od9, .func (PySem.W.fnOf "_law_cells" "_law_cells" (defArgs s_q9) (defBody s_q9) (defScope s_q9) .none kV9 dc9 pm9 an9 cd9 ct9), sl9⟩)
  (c9 : PySem.W.codeIn K cd9 "_law_cells" = true)
  (k9 : PySem.W.keepIn K (.ref f9) = true)
  (a10 : PySem.W.nsIn K mainGlobals "is_whole_couple" = some (some (.ref f10)))
  (l10 : K.lookup f10 = some ⟨oc10, od10, .func (PySem.W.fnOf "is_whole_couple" "is_whole_couple" (defArgs s_q2) (defBody s_q2) (defScope s_q2) .none kV10 dc10 pm10 an10 cd10 ct10), sl10⟩)
  (c10 : PySem.W.codeIn K cd10 "is_whole_couple" = true)
  (k10 : PySem.W.keepIn K (.ref f10) = true)
  (a11 : PySem.W.nsIn K mainGlobals "open_cells" = some (some (.ref f11)))
  (l11 : K.lookup f11 = some ⟨oc11, od11, .func (PySem.W.fnOf "open_cells" "open_cells" (defArgs s_qb) (defBody s_qb) (defScope s_qb) .none kV11 dc11 pm11 an11 cd11 ct11), sl11⟩)
  (c11 : PySem.W.codeIn K cd11 "open_cells" = true)
  (k11 : PySem.W.keepIn K (.ref f11) = true)
  (a12 : PySem.W.nsIn K mainGlobals "lets_see" = some (some (.ref f12)))
  (l12 : K.lookup f12 = some ⟨oc12, od12, .func (PySem.W.fnOf "lets_see" "lets_see" (defArgs s_qk) (defBody s_qk) (defScope s_qk) .none kV12 dc12 pm12 an12 cd12 ct12), sl12⟩)
  (c12 : PySem.W.codeIn K cd12 "lets_see" = true)
  (k12 : PySem.W.keepIn K (.ref f12) = true)
  (a13 : PySem.W.nsIn K mainGlobals "is_ahead" = some (some (.ref f13)))
  (l13 : K.lookup f13 = some ⟨oc13, od13, .func (PySem.W.fnOf "is_ahead" "is_ahead" (defArgs s_qi) (defBody s_qi) (defScope s_qi) .none kV13 dc13 pm13 an13 cd13 ct13), sl13⟩)
  (c13 : PySem.W.codeIn K cd13 "is_ahead" = true)
  (k13 : PySem.W.keepIn K (.ref f13) = true)
  (a14 : PySem.W.nsIn K mainGlobals "_law_drawn" = some (some (.ref f14)))
  (l14 : K.lookup f14 = some ⟨oc14, od14, .func (PySem.W.fnOf "_law_drawn" "_law_drawn" (defArgs s_qa) (defBody s_qa) (defScope s_qa) .none kV14 dc14 pm14 an14 cd14 ct14), sl14⟩)
  (c14 : PySem.W.codeIn K cd14 "_law_drawn" = true)
  (k14 : PySem.W.keepIn K (.ref f14) = true)
  (a15 : PySem.W.nsIn K mainGlobals "_law_open" = some (some (.ref f15)))
  (l15 : K.lookup f15 = some ⟨oc15, od15, .func (PySem.W.fnOf "_law_open" "_law_open" (defArgs s_qe) (defBody s_qe) (defScope s_qe) .none kV15 dc15 pm15 an15 cd15 ct15), sl15⟩)
  (c15 : PySem.W.codeIn K cd15 "_law_open" = true)
  (k15 : PySem.W.keepIn K (.ref f15) = true)
  (a16 : PySem.W.nsIn K mainGlobals "is_cell" = some (some (.ref f16)))
  (l16 : K.lookup f16 = some ⟨oc16, od16, .func (PySem.W.fnOf "is_cell" "is_cell" (defArgs s_qm) (defBody s_qm) (defScope s_qm) .none kV16 dc16 pm16 an16 cd16 ct16), sl16⟩)
  (c16 : PySem.W.codeIn K cd16 "is_cell" = true)
  (k16 : PySem.W.keepIn K (.ref f16) = true)
  (a17 : PySem.W.nsIn K mainGlobals "see_each_other" = some (some (.ref f17)))
  (l17 : K.lookup f17 = some ⟨oc17, od17, .func (PySem.W.fnOf "see_each_other" "see_each_other" (defArgs s_q3) (defBody s_q3) (defScope s_q3) .none kV17 dc17 pm17 an17 cd17 ct17), sl17⟩)
  (c17 : PySem.W.codeIn K cd17 "see_each_other" = true)
  (k17 : PySem.W.keepIn K (.ref f17) = true)
  (a18 : PySem.W.nsIn K mainGlobals "_law_floor" = some (some (.ref f18)))
  (l18 : K.lookup f18 = some ⟨oc18, od18, .func (PySem.W.fnOf "_law_floor" "_law_floor" (defArgs s_q8) (defBody s_q8) (defScope s_q8) .none kV18 dc18 pm18 an18 cd18 ct18), sl18⟩)
  (c18 : PySem.W.codeIn K cd18 "_law_floor" = true)
  (k18 : PySem.W.keepIn K (.ref f18) = true)
  (a19 : PySem.W.nsIn K mainGlobals "refuse_off_floor" = some (some (.ref f19)))
  (l19 : K.lookup f19 = some ⟨oc19, od19, .func (PySem.W.fnOf "refuse_off_floor" "refuse_off_floor" (defArgs s_q0) (defBody s_q0) (defScope s_q0) .none kV19 dc19 pm19 an19 cd19 ct19), sl19⟩)
  (c19 : PySem.W.codeIn K cd19 "refuse_off_floor" = true)
  (k19 : PySem.W.keepIn K (.ref f19) = true)
  (a20 : PySem.W.nsIn K mainGlobals "does_spot" = some (some (.ref f20)))
  (l20 : K.lookup f20 = some ⟨oc20, od20, .func (PySem.W.fnOf "does_spot" "does_spot" (defArgs s_qd) (defBody s_qd) (defScope s_qd) .none kV20 dc20 pm20 an20 cd20 ct20), sl20⟩)
  (c20 : PySem.W.codeIn K cd20 "does_spot" = true)
  (k20 : PySem.W.keepIn K (.ref f20) = true)
  (a21 : PySem.W.nsIn K mainGlobals "is_solid" = some (some (.ref f21)))
  (l21 : K.lookup f21 = some ⟨oc21, od21, .func (PySem.W.fnOf "is_solid" "is_solid" (defArgs s_qh) (defBody s_qh) (defScope s_qh) .none kV21 dc21 pm21 an21 cd21 ct21), sl21⟩)
  (c21 : PySem.W.codeIn K cd21 "is_solid" = true)
  (k21 : PySem.W.keepIn K (.ref f21) = true)
  (a22 : PySem.W.nsIn K mainGlobals "numbers_on" = some (some (.ref f22)))
  (l22 : K.lookup f22 = some ⟨oc22, od22, .func (PySem.W.fnOf "numbers_on" "numbers_on" (defArgs s_q7) (defBody s_q7) (defScope s_q7) .none kV22 dc22 pm22 an22 cd22 ct22), sl22⟩)
  (c22 : PySem.W.codeIn K cd22 "numbers_on" = true)
  (k22 : PySem.W.keepIn K (.ref f22) = true)
  (a23 : PySem.W.nsIn K mainGlobals "refuse_not_open" = some (some (.ref f23)))
  (l23 : K.lookup f23 = some ⟨oc23, od23, .func (PySem.W.fnOf "refuse_not_open" "refuse_not_open" (defArgs s_q1) (defBody s_q1) (defScope s_q1) .none kV23 dc23 pm23 an23 cd23 ct23), sl23⟩)
  (c23 : PySem.W.codeIn K cd23 "refuse_not_open" = true)
  (k23 : PySem.W.keepIn K (.ref f23) = true)
  (a24 : PySem.W.nsIn K mainGlobals "field_of" = some (some (.ref f24)))
  (l24 : K.lookup f24 = some ⟨oc24, od24, .func (PySem.W.fnOf "field_of" "field_of" (defArgs s_qg) (defBody s_qg) (defScope s_qg) .none kV24 dc24 pm24 an24 cd24 ct24), sl24⟩)
  (c24 : PySem.W.codeIn K cd24 "field_of" = true)
  (k24 : PySem.W.keepIn K (.ref f24) = true)
  (a25 : PySem.W.nsIn K mainGlobals "refuse_eyes" = some (some (.ref f25)))
  (l25 : K.lookup f25 = some ⟨oc25, od25, .func (PySem.W.fnOf "refuse_eyes" "refuse_eyes" (defArgs s_q6) (defBody s_q6) (defScope s_q6) .none kV25 dc25 pm25 an25 cd25 ct25), sl25⟩)
  (c25 : PySem.W.codeIn K cd25 "refuse_eyes" = true)
  (k25 : PySem.W.keepIn K (.ref f25) = true)
  (a26 : PySem.W.nsIn K mainGlobals "seen_by" = some (some (.ref f26)))
  (l26 : K.lookup f26 = some ⟨oc26, od26, .func (PySem.W.fnOf "seen_by" "seen_by" (defArgs s_qn) (defBody s_qn) (defScope s_qn) .none kV26 dc26 pm26 an26 cd26 ct26), sl26⟩)
  (c26 : PySem.W.codeIn K cd26 "seen_by" = true)
  (k26 : PySem.W.keepIn K (.ref f26) = true)
  (a27 : PySem.W.nsIn K mainGlobals "eyes_on" = some (some (.ref f27)))
  (l27 : K.lookup f27 = some ⟨oc27, od27, .func (PySem.W.fnOf "eyes_on" "eyes_on" (defArgs s_ql) (defBody s_ql) (defScope s_ql) .none kV27 dc27 pm27 an27 cd27 ct27), sl27⟩)
  (c27 : PySem.W.codeIn K cd27 "eyes_on" = true)
  (k27 : PySem.W.keepIn K (.ref f27) = true)
  (a28 : PySem.W.nsIn K mainGlobals "law" = some (some (.ref f28)))
  (l28 : K.lookup f28 = some ⟨oc28, od28, .func (PySem.W.fnOf "law" "law" (defArgs s_qs) (defBody s_qs) (defScope s_qs) .none kV28 dc28 pm28 an28 cd28 ct28), sl28⟩)
  (c28 : PySem.W.codeIn K cd28 "law" = true)
  (k28 : PySem.W.keepIn K (.ref f28) = true)
  (z0 : PySem.W.nsIn K mainGlobals "isinstance" = some none)
  (z1 : PySem.W.nsIn K mainGlobals "int" = some none)
  (z2 : PySem.W.nsIn K mainGlobals "bool" = some none)
  (z3 : PySem.W.nsIn K mainGlobals "range" = some none)
  (z4 : PySem.W.nsIn K mainGlobals "dict" = some none)
  (z5 : PySem.W.nsIn K mainGlobals "abs" = some none)
  (z6 : PySem.W.nsIn K mainGlobals "zip" = some none)
  (z7 : PySem.W.nsIn K mainGlobals "sorted" = some none)
  (z8 : PySem.W.nsIn K mainGlobals "tuple" = some none)
  (z9 : PySem.W.nsIn K mainGlobals "len" = some none)
  (z10 : PySem.W.nsIn K mainGlobals "set" = some none)
  (z11 : PySem.W.nsIn K mainGlobals "enumerate" = some none)
  (ytn_STEPS : PySem.W.nsIn K mainGlobals "STEPS" = some (some (.ref z_STEPS)))
  (yts_STEPS : K.lookup z_STEPS = some ⟨.type "dict", none, .dict #[⟨zh0_STEPS, .str "n" zt0_STEPS, .ref za0_STEPS⟩, ⟨zh1_STEPS, .str "e" zt1_STEPS, .ref za1_STEPS⟩, ⟨zh2_STEPS, .str "s" zt2_STEPS, .ref za2_STEPS⟩, ⟨zh3_STEPS, .str "w" zt3_STEPS, .ref za3_STEPS⟩] zp_STEPS, #[]⟩)
  (yuv0_STEPS : K.lookup za0_STEPS = some ⟨.type "tuple", zd0_STEPS, .seq #[.int 0 zu0_0_STEPS, .int (-1) zu0_1_STEPS] zn0_STEPS, zs0_STEPS⟩)
  (yvh0_STEPS : zh0_STEPS = PySem.hashStr w "n")
  (yuv1_STEPS : K.lookup za1_STEPS = some ⟨.type "tuple", zd1_STEPS, .seq #[.int 1 zu1_0_STEPS, .int 0 zu1_1_STEPS] zn1_STEPS, zs1_STEPS⟩)
  (yvh1_STEPS : zh1_STEPS = PySem.hashStr w "e")
  (yuv2_STEPS : K.lookup za2_STEPS = some ⟨.type "tuple", zd2_STEPS, .seq #[.int 0 zu2_0_STEPS, .int 1 zu2_1_STEPS] zn2_STEPS, zs2_STEPS⟩)
  (yvh2_STEPS : zh2_STEPS = PySem.hashStr w "s")
  (yuv3_STEPS : K.lookup za3_STEPS = some ⟨.type "tuple", zd3_STEPS, .seq #[.int (-1) zu3_0_STEPS, .int 0 zu3_1_STEPS] zn3_STEPS, zs3_STEPS⟩)
  (yvh3_STEPS : zh3_STEPS = PySem.hashStr w "w")
  (ytn_RIGHT_OF : PySem.W.nsIn K mainGlobals "RIGHT_OF" = some (some (.ref z_RIGHT_OF)))
  (yts_RIGHT_OF : K.lookup z_RIGHT_OF = some ⟨.type "dict", none, .dict #[⟨zh0_RIGHT_OF, .str "n" zt0_RIGHT_OF, .str "e" zu0_RIGHT_OF⟩, ⟨zh1_RIGHT_OF, .str "e" zt1_RIGHT_OF, .str "s" zu1_RIGHT_OF⟩, ⟨zh2_RIGHT_OF, .str "s" zt2_RIGHT_OF, .str "w" zu2_RIGHT_OF⟩, ⟨zh3_RIGHT_OF, .str "w" zt3_RIGHT_OF, .str "n" zu3_RIGHT_OF⟩] zp_RIGHT_OF, #[]⟩)
  (yvh0_RIGHT_OF : zh0_RIGHT_OF = PySem.hashStr w "n")
  (yvh1_RIGHT_OF : zh1_RIGHT_OF = PySem.hashStr w "e")
  (yvh2_RIGHT_OF : zh2_RIGHT_OF = PySem.hashStr w "s")
  (yvh3_RIGHT_OF : zh3_RIGHT_OF = PySem.hashStr w "w") :
  ∃ fd : FuncData, (∀ (s : Shared) (v : Value), BindsTo s fd ⟨[v], []⟩ [("_law_script", v)]) /\ ∀ base : Heap, K.In base -> base.Ns mainGlobals mg -> FnOk l.prog w K mg base CX0 9 fa fd ["_law_script"] (spLaw K Glaw) := by
 have e := (PySem.W.mg_of X G a28).symm.trans hfa
 cases e
 have F0 := fun_mk (st := s_qj) l0 c0 k0
 have F1 := fun_mk (st := s_qf) l1 c1 k1
 have F2 := fun_mk (st := s_qr) l2 c2 k2
 have F3 := fun_mk (st := s_qo) l3 c3 k3
 have F4 := fun_mk (st := s_q4) l4 c4 k4
 have F5 := fun_mk (st := s_q5) l5 c5 k5
 have F6 := fun_mk (st := s_qq) l6 c6 k6
 have F7 := fun_mk (st := s_qp) l7 c7 k7
 have F8 := fun_mk (st := s_qc) l8 c8 k8
 have F9 := fun_mk (st := s_q9) l9 c9 k9
 have F10 := fun_mk (st := s_q2) l10 c10 k10
 have F11 := fun_mk (st := s_qb) l11 c11 k11
 have F12 := fun_mk (st := s_qk) l12 c12 k12
 have F13 := fun_mk (st := s_qi) l13 c13 k13
 have F14 := fun_mk (st := s_qa) l14 c14 k14
 have F15 := fun_mk (st := s_qe) l15 c15 k15
 have F16 := fun_mk (st := s_qm) l16 c16 k16
 have F17 := fun_mk (st := s_q3) l17 c17 k17
 have F18 := fun_mk (st := s_q8) l18 c18 k18
 have F19 := fun_mk (st := s_q0) l19 c19 k19
 have F20 := fun_mk (st := s_qd) l20 c20 k20
 have F21 := fun_mk (st := s_qh) l21 c21 k21
 have F22 := fun_mk (st := s_q7) l22 c22 k22
 have F23 := fun_mk (st := s_q1) l23 c23 k23
 have F24 := fun_mk (st := s_qg) l24 c24 k24
 have F25 := fun_mk (st := s_q6) l25 c25 k25
 have F26 := fun_mk (st := s_qn) l26 c26 k26
 have F27 := fun_mk (st := s_ql) l27 c27 k27
 have F28 := fun_mk (st := s_qs) l28 c28 k28
 have T : Txt K mg f0 _ f1 _ f2 _ f3 _ f4 _ f5 _ f6 _ f7 _ f8 _ f9 _ f10 _ f11 _ f12 _ f13 _ f14 _ f15 _ f16 _ f17 _ f18 _ f19 _ f20 _ f21 _ f22 _ f23 _ f24 _ f25 _ f26 _ f27 _ fa _ w z_STEPS z_RIGHT_OF := ⟨(F0), (PySem.W.mg_of X G a0), (F0.binds (ps := ["thing"]) fun _ _ _ _ _ _ us hl => us1 (p := fun us => bindArgs _ ⟨us, []⟩ = pure (List.zip _ us)) hl fun _ => rfl), (F1), (PySem.W.mg_of X G a1), (F1.binds (ps := ["floor"]) fun _ _ _ _ _ _ us hl => us1 (p := fun us => bindArgs _ ⟨us, []⟩ = pure (List.zip _ us)) hl fun _ => rfl), (F2), (PySem.W.mg_of X G a2), (F2.binds (ps := ["things"]) fun _ _ _ _ _ _ us hl => us1 (p := fun us => bindArgs _ ⟨us, []⟩ = pure (List.zip _ us)) hl fun _ => rfl), (F3), (PySem.W.mg_of X G a3), (F3.binds (ps := ["one", "other"]) fun _ _ _ _ _ _ us hl => us2 (p := fun us => bindArgs _ ⟨us, []⟩ = pure (List.zip _ us)) hl fun _ _ => rfl), (F4), (PySem.W.mg_of X G a4), (F4.binds (ps := ["cells"]) fun _ _ _ _ _ _ us hl => us1 (p := fun us => bindArgs _ ⟨us, []⟩ = pure (List.zip _ us)) hl fun _ => rfl), (F5), (PySem.W.mg_of X G a5), (F5.binds (ps := ["one", "other"]) fun _ _ _ _ _ _ us hl => us2 (p := fun us => bindArgs _ ⟨us, []⟩ = pure (List.zip _ us)) hl fun _ _ => rfl), (F6), (PySem.W.mg_of X G a6), (F6.binds (ps := ["cell", "word"]) fun _ _ _ _ _ _ us hl => us2 (p := fun us => bindArgs _ ⟨us, []⟩ = pure (List.zip _ us)) hl fun _ _ => rfl), (F7), (PySem.W.mg_of X G a7), (F7.binds (ps := ["eye"]) fun _ _ _ _ _ _ us hl => us1 (p := fun us => bindArgs _ ⟨us, []⟩ = pure (List.zip _ us)) hl fun _ => rfl), (F8), (PySem.W.mg_of X G a8), (F8.binds (ps := ["_law_script", "_law_k"]) fun _ _ _ _ _ _ us hl => us2 (p := fun us => bindArgs _ ⟨us, []⟩ = pure (List.zip _ us)) hl fun _ _ => rfl), (F9), (PySem.W.mg_of X G a9), (F9.binds (ps := ["_law_floor_here"]) fun _ _ _ _ _ _ us hl => us1 (p := fun us => bindArgs _ ⟨us, []⟩ = pure (List.zip _ us)) hl fun _ => rfl), (F10), (PySem.W.mg_of X G a10), (F10.binds (ps := ["thing"]) fun _ _ _ _ _ _ us hl => us1 (p := fun us => bindArgs _ ⟨us, []⟩ = pure (List.zip _ us)) hl fun _ => rfl), (F11), (PySem.W.mg_of X G a11), (F11.binds (ps := ["floor"]) fun _ _ _ _ _ _ us hl => us1 (p := fun us => bindArgs _ ⟨us, []⟩ = pure (List.zip _ us)) hl fun _ => rfl), (F12), (PySem.W.mg_of X G a12), (F12.binds (ps := ["solids", "one", "other"]) fun _ _ _ _ _ _ us hl => us3 (p := fun us => bindArgs _ ⟨us, []⟩ = pure (List.zip _ us)) hl fun _ _ _ => rfl), (F13), (PySem.W.mg_of X G a13), (F13.binds (ps := ["eye", "cell"]) fun _ _ _ _ _ _ us hl => us2 (p := fun us => bindArgs _ ⟨us, []⟩ = pure (List.zip _ us)) hl fun _ _ => rfl), (F14), (PySem.W.mg_of X G a14), (F14.binds (ps := ["_law_script", "_law_k", "_law_many"]) fun _ _ _ _ _ _ us hl => us3 (p := fun us => bindArgs _ ⟨us, []⟩ = pure (List.zip _ us)) hl fun _ _ _ => rfl), (F15), (PySem.W.mg_of X G a15), (F15.binds (ps := ["_law_floor_here"]) fun _ _ _ _ _ _ us hl => us1 (p := fun us => bindArgs _ ⟨us, []⟩ = pure (List.zip _ us)) hl fun _ => rfl), (F16), (PySem.W.mg_of X G a16), (F16.binds (ps := ["floor", "thing"]) fun _ _ _ _ _ _ us hl => us2 (p := fun us => bindArgs _ ⟨us, []⟩ = pure (List.zip _ us)) hl fun _ _ => rfl), (F17), (PySem.W.mg_of X G a17), (F17.binds (ps := ["solids", "one", "other"]) fun _ _ _ _ _ _ us hl => us3 (p := fun us => bindArgs _ ⟨us, []⟩ = pure (List.zip _ us)) hl fun _ _ _ => rfl), (F18), (PySem.W.mg_of X G a18), (F18.binds (ps := ["_law_script", "_law_at", "_law_most"]) fun _ _ _ _ _ _ us hl => us3 (p := fun us => bindArgs _ ⟨us, []⟩ = pure (List.zip _ us)) hl fun _ _ _ => rfl), (F19), (PySem.W.mg_of X G a19), (F19.binds (ps := ["floor", "cell"]) fun _ _ _ _ _ _ us hl => us2 (p := fun us => bindArgs _ ⟨us, []⟩ = pure (List.zip _ us)) hl fun _ _ => rfl), (F20), (PySem.W.mg_of X G a20), (F20.binds (ps := ["solids", "eye", "cell"]) fun _ _ _ _ _ _ us hl => us3 (p := fun us => bindArgs _ ⟨us, []⟩ = pure (List.zip _ us)) hl fun _ _ _ => rfl), (F21), (PySem.W.mg_of X G a21), (F21.binds (ps := ["floor", "cell"]) fun _ _ _ _ _ _ us hl => us2 (p := fun us => bindArgs _ ⟨us, []⟩ = pure (List.zip _ us)) hl fun _ _ => rfl), (F22), (PySem.W.mg_of X G a22), (F22.binds (ps := ["solids", "eyes", "cell"]) fun _ _ _ _ _ _ us hl => us3 (p := fun us => bindArgs _ ⟨us, []⟩ = pure (List.zip _ us)) hl fun _ _ _ => rfl), (F23), (PySem.W.mg_of X G a23), (F23.binds (ps := ["floor", "cell"]) fun _ _ _ _ _ _ us hl => us2 (p := fun us => bindArgs _ ⟨us, []⟩ = pure (List.zip _ us)) hl fun _ _ => rfl), (F24), (PySem.W.mg_of X G a24), (F24.binds (ps := ["floor", "cell"]) fun _ _ _ _ _ _ us hl => us2 (p := fun us => bindArgs _ ⟨us, []⟩ = pure (List.zip _ us)) hl fun _ _ => rfl), (F25), (PySem.W.mg_of X G a25), (F25.binds (ps := ["floor", "eyes"]) fun _ _ _ _ _ _ us hl => us2 (p := fun us => bindArgs _ ⟨us, []⟩ = pure (List.zip _ us)) hl fun _ _ => rfl), (F26), (PySem.W.mg_of X G a26), (F26.binds (ps := ["floor", "eye"]) fun _ _ _ _ _ _ us hl => us2 (p := fun us => bindArgs _ ⟨us, []⟩ = pure (List.zip _ us)) hl fun _ _ => rfl), (F27), (PySem.W.mg_of X G a27), (F27.binds (ps := ["floor", "eyes", "cell"]) fun _ _ _ _ _ _ us hl => us3 (p := fun us => bindArgs _ ⟨us, []⟩ = pure (List.zip _ us)) hl fun _ _ _ => rfl), (F28), (PySem.W.mg_of X G a28), (F28.binds (ps := ["_law_script"]) fun _ _ _ _ _ _ us hl => us1 (p := fun us => bindArgs _ ⟨us, []⟩ = pure (List.zip _ us)) hl fun _ => rfl), (PySem.W.mg_none_of X G z0), (PySem.W.mg_none_of X G z1), (PySem.W.mg_none_of X G z2), (PySem.W.mg_none_of X G z3), (PySem.W.mg_none_of X G z4), (PySem.W.mg_none_of X G z5), (PySem.W.mg_none_of X G z6), (PySem.W.mg_none_of X G z7), (PySem.W.mg_none_of X G z8), (PySem.W.mg_none_of X G z9), (PySem.W.mg_none_of X G z10), (PySem.W.mg_none_of X G z11), (PySem.W.mg_of X G ytn_STEPS), (⟨_, _, yts_STEPS, (TEnt.cons (v := .ref za0_STEPS) yvh0_STEPS rfl (fun F H => Rep.tup (vs := [.int 0, .int (-1)]) (.inr ⟨_, _, _, yuv0_STEPS, rfl, rfl, line1000 (show 2 <= 1000 by decide), (.cons ⟨_, rfl⟩ (.cons ⟨_, rfl⟩ .nil))⟩) (.cons (.int _) (.cons (.int _) .nil))) (TEnt.cons (v := .ref za1_STEPS) yvh1_STEPS rfl (fun F H => Rep.tup (vs := [.int 1, .int 0]) (.inr ⟨_, _, _, yuv1_STEPS, rfl, rfl, line1000 (show 2 <= 1000 by decide), (.cons ⟨_, rfl⟩ (.cons ⟨_, rfl⟩ .nil))⟩) (.cons (.int _) (.cons (.int _) .nil))) (TEnt.cons (v := .ref za2_STEPS) yvh2_STEPS rfl (fun F H => Rep.tup (vs := [.int 0, .int 1]) (.inr ⟨_, _, _, yuv2_STEPS, rfl, rfl, line1000 (show 2 <= 1000 by decide), (.cons ⟨_, rfl⟩ (.cons ⟨_, rfl⟩ .nil))⟩) (.cons (.int _) (.cons (.int _) .nil))) (TEnt.cons (v := .ref za3_STEPS) yvh3_STEPS rfl (fun F H => Rep.tup (vs := [.int (-1), .int 0]) (.inr ⟨_, _, _, yuv3_STEPS, rfl, rfl, line1000 (show 2 <= 1000 by decide), (.cons ⟨_, rfl⟩ (.cons ⟨_, rfl⟩ .nil))⟩) (.cons (.int _) (.cons (.int _) .nil))) TEnt.nil))))⟩), (PySem.W.mg_of X G ytn_RIGHT_OF), (⟨_, _, yts_RIGHT_OF, (TEnt.cons (v := .str _) yvh0_RIGHT_OF ⟨_, rfl⟩ (fun F H => .str _) (TEnt.cons (v := .str _) yvh1_RIGHT_OF ⟨_, rfl⟩ (fun F H => .str _) (TEnt.cons (v := .str _) yvh2_RIGHT_OF ⟨_, rfl⟩ (fun F H => .str _) (TEnt.cons (v := .str _) yvh3_RIGHT_OF ⟨_, rfl⟩ (fun F H => .str _) TEnt.nil))))⟩)⟩
 refine ⟨PySem.W.fnOf "law" "law" (defArgs s_qs) (defBody s_qs) (defScope s_qs) .none kV28 dc28 pm28 an28 cd28 ct28, fun s v => .of_eq rfl, fun base _ _ => ?_⟩
 have G_qj := ok_qj (P := l.prog) (w := w) (base := base) T
 have G_qf := ok_qf (P := l.prog) (w := w) (base := base) T
 have G_qr := ok_qr (P := l.prog) (w := w) (base := base) T
 have G_qo := ok_qo (P := l.prog) (w := w) (base := base) T
 have G_q4 := ok_q4 (P := l.prog) (w := w) (base := base) T
 have G_q5 := ok_q5 (P := l.prog) (w := w) (base := base) T
 have G_qq := ok_qq (P := l.prog) (w := w) (base := base) T
 have G_qp := ok_qp (P := l.prog) (w := w) (base := base) T
 have G_qc := ok_qc (P := l.prog) (w := w) (base := base) T
 have G_q9 := ok_q9 (P := l.prog) (w := w) (base := base) T
 have G_q2 := ok_q2 (P := l.prog) (w := w) (base := base) T G_qj
 have G_qb := ok_qb (P := l.prog) (w := w) (base := base) T G_qf
 have G_qk := ok_qk (P := l.prog) (w := w) (base := base) T G_qo G_q4
 have G_qi := ok_qi (P := l.prog) (w := w) (base := base) T G_qq
 have G_qa := ok_qa (P := l.prog) (w := w) (base := base) T G_qc
 have G_qe := ok_qe (P := l.prog) (w := w) (base := base) T G_q9
 have G_qm := ok_qm (P := l.prog) (w := w) (base := base) T G_q2
 have G_q3 := ok_q3 (P := l.prog) (w := w) (base := base) T G_qk
 have G_q8 := ok_q8 (P := l.prog) (w := w) (base := base) T G_qa
 have G_q0 := ok_q0 (P := l.prog) (w := w) (base := base) T G_qm
 have G_qd := ok_qd (P := l.prog) (w := w) (base := base) T G_q3 G_qi G_q5
 have G_qh := ok_qh (P := l.prog) (w := w) (base := base) T G_q0
 have G_q7 := ok_q7 (P := l.prog) (w := w) (base := base) T G_qd
 have G_q1 := ok_q1 (P := l.prog) (w := w) (base := base) T G_qh
 have G_qg := ok_qg (P := l.prog) (w := w) (base := base) T G_q1 G_qr G_qb G_qk
 have G_q6 := ok_q6 (P := l.prog) (w := w) (base := base) T G_q1
 have G_qn := ok_qn (P := l.prog) (w := w) (base := base) T G_q6 G_qr G_qb G_qd
 have G_ql := ok_ql (P := l.prog) (w := w) (base := base) T G_q6 G_q0 G_q7 G_qr
 have G_qs := ok_qs (P := l.prog) (w := w) (base := base) T G_q8 G_qe G_qa G_qn G_qp G_ql G_qg
 exact law_D G_qs main
theorem walk {l : PySem.W.OpenLaw} {q : Program} {loose : List Str} {XP : (Str -> Option Value) -> Heap -> Prop} {YP : World -> Heap -> Prop} {d : DefRec} {K : Params -> PySem.W.Frag} (hn : l.most = some 63) (hdf : d.params.defaults = [])
  (hY : ∀ (w : World) (h : Heap), YP w h -> (K w.params).In h)
  (F : ∀ (w : World) (mg : Str -> Option Value) (fa : Addr) (h : Heap), (K w.params).In h -> h.Ns mainGlobals mg -> mg d.name = some (.ref fa) ->
   ∃ fd : FuncData, (∀ (s : Shared) (u : Value), BindsTo s fd ⟨[u], []⟩ [("_law_script", u)]) /\ ∀ base : Heap, (K w.params).In base -> base.Ns mainGlobals mg -> FnOk l.prog w (K w.params) mg base CX0 9 fa fd ["_law_script"] (spLaw (K w.params) Glaw)) :
  PySem.W.WalkO q loose XP YP l.row.toRowW d [] (fun f vs => PySem.call f vs) :=
 L2.walk_of (n := 63) (k := 9) (x := "_law_script") (CX := fun _ => CX0) (sp := fun w => spLaw (K w.params) Glaw) hn (by decide) hdf ⟨rfl, by decide, by decide, rfl⟩ hY F (fun _ _ a ns hl _ hS => ⟨a, ns, rfl, hS, hl, fun _ => rfl⟩) fun _ _ _ _ _ z => z
end My
open PySem PySem.W PyProof.Rows
set_option maxRecDepth 100000 in
set_option maxHeartbeats 0 in
theorem PySem.Challenge.cw_lampfloor_k81_whole_eyes_holds : PySem.Challenge.rw_lampfloor_k81_whole_eyes.Holds := by
 w_on; o_law; k_head; (case hw => w_witness2)
 k_fill
 refine My.walk (l := PySem.Challenge.rw_lampfloor_k81_whole_eyes) rfl rfl (fun w h Y => PySem.W.kIn_of Y) ?F
 case F =>
  intro w mg fa h KX G hmg
  refine' My.all_mk My.main KX G hmg ?a0 ?l0 ?c0 ?k0 ?a1 ?l1 ?c1 ?k1 ?a2 ?l2 ?c2 ?k2 ?a3 ?l3 ?c3 ?k3 ?a4 ?l4 ?c4 ?k4 ?a5 ?l5 ?c5 ?k5 ?a6 ?l6 ?c6 ?k6 ?a7 ?l7 ?c7 ?k7 ?a8 ?l8 ?c8 ?k8 ?a9 ?l9 ?c9 ?k9 ?a10 ?l10 ?c10 ?k10 ?a11 ?l11 ?c11 ?k11 ?a12 ?l12 ?c12 ?k12 ?a13 ?l13 ?c13 ?k13 ?a14 ?l14 ?c14 ?k14 ?a15 ?l15 ?c15 ?k15 ?a16 ?l16 ?c16 ?k16 ?a17 ?l17 ?c17 ?k17 ?a18 ?l18 ?c18 ?k18 ?a19 ?l19 ?c19 ?k19 ?a20 ?l20 ?c20 ?k20 ?a21 ?l21 ?c21 ?k21 ?a22 ?l22 ?c22 ?k22 ?a23 ?l23 ?c23 ?k23 ?a24 ?l24 ?c24 ?k24 ?a25 ?l25 ?c25 ?k25 ?a26 ?l26 ?c26 ?k26 ?a27 ?l27 ?c27 ?k27 ?a28 ?l28 ?c28 ?k28 ?z0 ?z1 ?z2 ?z3 ?z4 ?z5 ?z6 ?z7 ?z8 ?z9 ?z10 ?z11 ?ytn_STEPS ?yts_STEPS ?yuv0_STEPS ?yvh0_STEPS ?yuv1_STEPS ?yvh1_STEPS ?yuv2_STEPS ?yvh2_STEPS ?yuv3_STEPS ?yvh3_STEPS ?ytn_RIGHT_OF ?yts_RIGHT_OF ?yvh0_RIGHT_OF ?yvh1_RIGHT_OF ?yvh2_RIGHT_OF ?yvh3_RIGHT_OF
  (case a0 => k_is)
  (case l0 => k_is)
  (case c0 => k_is)
  (case k0 => k_is)
  (case a1 => k_is)
  (case l1 => k_is)
  (case c1 => k_is)
  (case k1 => k_is)
  (case a2 => k_is)
  (case l2 => k_is)
  (case c2 => k_is)
  (case k2 => k_is)
  (case a3 => k_is)
  (case l3 => k_is)
  (case c3 => k_is)
  (case k3 => k_is)
  (case a4 => k_is)
  (case l4 => k_is)
  (case c4 => k_is)
  (case k4 => k_is)
  (case a5 => k_is)
  (case l5 => k_is)
  (case c5 => k_is)
  (case k5 => k_is)
  (case a6 => k_is)
  (case l6 => k_is)
  (case c6 => k_is)
  (case k6 => k_is)
  (case a7 => k_is)
  (case l7 => k_is)
  (case c7 => k_is)
  (case k7 => k_is)
  (case a8 => k_is)
  (case l8 => k_is)
  (case c8 => k_is)
  (case k8 => k_is)
  (case a9 => k_is)
  (case l9 => k_is)
  (case c9 => k_is)
  (case k9 => k_is)
  (case a10 => k_is)
  (case l10 => k_is)
  (case c10 => k_is)
  (case k10 => k_is)
  (case a11 => k_is)
  (case l11 => k_is)
  (case c11 => k_is)
  (case k11 => k_is)
  (case a12 => k_is)
  (case l12 => k_is)
  (case c12 => k_is)
  (case k12 => k_is)
  (case a13 => k_is)
  (case l13 => k_is)
  (case c13 => k_is)
  (case k13 => k_is)
  (case a14 => k_is)
  (case l14 => k_is)
  (case c14 => k_is)
  (case k14 => k_is)
  (case a15 => k_is)
  (case l15 => k_is)
  (case c15 => k_is)
  (case k15 => k_is)
  (case a16 => k_is)
  (case l16 => k_is)
  (case c16 => k_is)
  (case k16 => k_is)
  (case a17 => k_is)
  (case l17 => k_is)
  (case c17 => k_is)
  (case k17 => k_is)
  (case a18 => k_is)
  (case l18 => k_is)
  (case c18 => k_is)
  (case k18 => k_is)
  (case a19 => k_is)
  (case l19 => k_is)
  (case c19 => k_is)
  (case k19 => k_is)
  (case a20 => k_is)
  (case l20 => k_is)
  (case c20 => k_is)
  (case k20 => k_is)
  (case a21 => k_is)
  (case l21 => k_is)
  (case c21 => k_is)
  (case k21 => k_is)
  (case a22 => k_is)
  (case l22 => k_is)
  (case c22 => k_is)
  (case k22 => k_is)
  (case a23 => k_is)
  (case l23 => k_is)
  (case c23 => k_is)
  (case k23 => k_is)
  (case a24 => k_is)
  (case l24 => k_is)
  (case c24 => k_is)
  (case k24 => k_is)
  (case a25 => k_is)
  (case l25 => k_is)
  (case c25 => k_is)
  (case k25 => k_is)
  (case a26 => k_is)
  (case l26 => k_is)
  (case c26 => k_is)
  (case k26 => k_is)
  (case a27 => k_is)
  (case l27 => k_is)
  (case c27 => k_is)
  (case k27 => k_is)
  (case a28 => k_is)
  (case l28 => k_is)
  (case c28 => k_is)
  (case k28 => k_is)
  (case z0 => k_is)
  (case z1 => k_is)
  (case z2 => k_is)
  (case z3 => k_is)
  (case z4 => k_is)
  (case z5 => k_is)
  (case z6 => k_is)
  (case z7 => k_is)
  (case z8 => k_is)
  (case z9 => k_is)
  (case z10 => k_is)
  (case z11 => k_is)
  (case ytn_STEPS => k_is)
  (case ytn_RIGHT_OF => k_is)
  (case yts_STEPS => k_is)
  (case yts_RIGHT_OF => k_is)
  (case yuv0_STEPS => k_is)
  (case yuv1_STEPS => k_is)
  (case yuv2_STEPS => k_is)
  (case yuv3_STEPS => k_is)
  (case yvh0_STEPS => rfl)
  (case yvh1_STEPS => rfl)
  (case yvh2_STEPS => rfl)
  (case yvh3_STEPS => rfl)
  (case yvh0_RIGHT_OF => rfl)
  (case yvh1_RIGHT_OF => rfl)
  (case yvh2_RIGHT_OF => rfl)
  (case yvh3_RIGHT_OF => rfl)
