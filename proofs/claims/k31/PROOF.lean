import PyProof.Rows.All
import Wide.All
import OpenK.AllK
import Wide.FinOn
import Lean
import PyProof.EqAt
import PyProof.EqKinds
import PyProof.TupleCall
import PyProof.Rows.SortShellK
import PyProof.StationsW
import PyProof.SetKind
import PyProof.TupleKey
import PyProof.DictKinds
import PyProof.IsRules
import PyProof.Slots
import PyProof.Rows.SetFrom
import PyProof.SetRoads
import PyProof.WalksMore
import KE.KDictSum
import PyProof.Draws
import PyProof.Rows.EnumRows
import PyProof.ConsumeWalk
import KE.KDictOf
import PyProof.DictRoadsH
import PyProof.AttrMissSeq
import PyProof.Conv_int_bool
import PySem.Challenge.RW_lampfloor_k31_whole_solid
open PySem renaming wpAny_bind → Qa, wpAny_pure → Qb, wpAny_setState_of → QR, wpAny_holding → Ya, sizeLine_eq → Ye, wpAny_call_entry → Yj, wpAny_newObj_type → Yl, wpAny_callSpecial?_slot → Yy, wpAny_mono → YO, wpAny_typeOf → YS, wpAny_passesOwn → Y3, codeAny_builtin → Y4, wpAny_truthy_bool → Y5, wpAny_storeSet_of → Y6, wpAny_forIn_list → Ja, putSet_of → Jc, wpAny_Call_Name_kw → Ji, wpAny_rule → Jr, codeAny_mono → Js, wpAny_setEntries_of → Jw, wpAny_field → JE
open PySem.Heap renaming get?_push_of_some → Qc, lt_size → Qk, get?_push_size → Qx, get?_update_self → Q9, size_push → Ym
open List renaming mem_cons_of_mem → Qd, getElem?_eq_some_iff → Qe, mem_cons_self → Qf, length_map → Qg, mem_cons → Qh, getElem?_eq_getElem → Qi, map_cons → Ql, length_append → Qm, mem_map → Qr, getElem?_set_ne → Qu, mem_append_right → Qy, contains_iff_mem → Qz, getElem?_set_self → QA, mem_singleton → QB, mem_append → QC, size_toArray → QE, all_eq_true → QF, mem_filter → QK, mem_range → QL, length_cons → QM, lookup_cons → QN, mem_of_getElem? → QO, length_filter_le → QP, getElem?_map → QQ, map_append → QS, getElem?_of_mem → QU, map_map → QV, length_range → QW, length_singleton → Q0, append_assoc → Q1, length_take → Q2, pairwise_cons → Q3, nodup_cons → Q5, pairwise_map → Q6, mem_append_left → Yb, take_append_drop → Yc, getD_eq_getElem?_getD → Yd, foldl_cons → Yf, length_drop → Yi, append_nil → Yn, drop_eq_getElem_cons → Yq, getElem?_zip_eq_some → Ys, map_congr_left → Yt, getElem_mem → Yz, getElem?_append_right → YB, filter_eq_nil_iff → YD, getElem?_append_left → YG, cons_append → YI, any_eq_true → YJ, find?_cons → YQ, any_cons → YX, nodup_nil → Y0, filter_congr → Y8, getElem?_replicate → Y9, all_eq_not_any_not → Jg, eq_nil_of_length_eq_zero → Jh, find?_eq_none → Jk, take_of_length_le → Jm, nodup_append → Jq, filterMap_cons → Jv, map_eq_nil_iff → Jy, length_nil → JA
open Nat renaming le_refl → Qj, ne_of_lt → Qq, le_trans → Qt, lt_of_lt_of_le → QD, zero_le → QY, lt_of_le_of_lt → Q7, le_add_right → Yk, le_of_lt → Yv, not_lt_zero → Yx, lt_succ_of_lt → YC, ne_of_gt → YK, le_of_lt_succ → YM, lt_irrefl → YV, eq_or_lt_of_le → YY, le_of_not_lt → Jb, mul_le_mul → Jf, zero_add → Jt, le_antisymm → JB
open Array renaming length_toList → Qo, getElem?_eq_getElem → QG, getElem?_toList → QI, getElem?_eq_none → Yp, size_map → YZ, toList_filterMap → Jl
open Bool renaming false_eq_true → Qp, false_ne_true → Qs, and_eq_true → Qw, and_eq_true_iff → QH, eq_iff_iff → Yg, or_eq_true_iff → YE, not_true → YL, not_eq_true' → YN, true_and → YW, not_eq_true → Jd, and_self → Jo, and_comm → Jz, or_eq_true → JD
open Option renaming bind_some → Qv
open Option.some renaming inj → QJ
open PySem.SeqAt renaming canLay_of_shaped → QT
open PySem.Heap.SameBut renaming update → QX
open LawfulBEq renaming eq_of_beq → QZ
open PyProof.Rows renaming wpS_bind → Q8, wpS_pure → Yu, callWith_type1 → YA, slot_tuple_getitem → YF, pairsOf_size → Ju, KK_mirror_equal → JC
open PySem.PassesOwn renaming never → Yh
open List.Nodup renaming length_le_of_subset → Yo
open Classical renaming byContradiction → Yr
open PyProof.Rows.KeyOrd renaming kle_refl → Yw
open Int renaming natCast_nonneg → YH, ofNat_lt → YU, emod_lt_of_pos → Jj, toNat_natCast → Jp, toNat_of_nonneg → Jx
open PySem.List renaming filterMap_getElem?_range_length → YR
open PySem.SetTable renaming insertAt_perm → YT
open PySem.Obj renaming data_mapFields → Y1
open PySem.F renaming slot_tuple_iterator_next → Y2
open PySem.Around renaming under_plainId → Y7
open PyProof.Rows.F renaming plain_set_update_loop → Je
open Prod renaming ext → Jn
set_option Elab.async false
set_option linter.all false
set_option maxRecDepth 100000
set_option maxHeartbeats 4000000
set_option compiler.extract_closed false
set_option genInjectivity false
set_option genSizeOf false
set_option genSizeOfSpec false
set_option bootstrap.genMatcherCode false
noncomputable section
namespace L2
open PySem PySem.Spec PyProof.Rows
abbrev Key := Sum Int Str
noncomputable def zHX : Key -> Value -> Bool
 | .inl k, v => Value.isInt k v
 | .inr x, v => Value.isStrOf x v
noncomputable def keyH (w : World) : Key -> Int
 | .inl k => hashInt k
 | .inr x => hashStr w x
theorem zBI : ∀ {k : Key} {v : Value}, zHX k v = true -> (∃ i t, k = Sum.inl i /\ v = Value.int i t) ∨ (∃ x t, k = Sum.inr x /\ v = Value.str x t)
 | .inl i, v, h => by
  obtain ⟨t, e⟩ := Value.isInt_shape (k := i) (v := v) h
  exact .inl ⟨i, t, rfl, e⟩
 | .inr x, v, h => by
  obtain ⟨t, e⟩ := Value.isStrOf_shape (x := x) (v := v) h
  exact .inr ⟨x, t, rfl, e⟩
theorem zLt (a b : Int) : decide ((Sum.inl a : Key) = Sum.inl b) = (a == b) := by
 by_cases e : a = b
 ·subst e; simp
 ·have h : ¬ (Sum.inl a : Key) = Sum.inl b := fun q => e (Sum.inl.inj q)
  rw [decide_eq_false h]
  exact (beq_eq_false_iff_ne.mpr e).symm
theorem zLw (a b : Str) : decide ((Sum.inr a : Key) = Sum.inr b) = decide (a = b) := by
 by_cases e : a = b
 ·subst e; simp
 ·have h : ¬ (Sum.inr a : Key) = Sum.inr b := fun q => e (Sum.inr.inj q)
  rw [decide_eq_false h, decide_eq_false e]
theorem zLu (a : Int) (b : Str) : decide ((Sum.inl a : Key) = Sum.inr b) = false := decide_eq_false (fun q => nomatch q)
theorem zLv (a : Str) (b : Int) : decide ((Sum.inr a : Key) = Sum.inl b) = false := decide_eq_false (fun q => nomatch q)
noncomputable def zIc (prog : Program) (w : World) : PySem.KeyKind prog w Key where
 is := zHX
 hash := keyH w
 inj := fun v a b ha hb => by
  rcases zBI ha with ⟨i, t, rfl, rfl⟩ | ⟨x, t, rfl, rfl⟩
  ·rcases zBI hb with ⟨j, u, rfl, e⟩ | ⟨y, u, rfl, e⟩
   ·injection e with e1 _; rw [e1]
   ·exact nomatch e
  ·rcases zBI hb with ⟨j, u, rfl, e⟩ | ⟨y, u, rfl, e⟩
   ·exact nomatch e
   ·injection e with e1 _; rw [e1]
 byValue := fun k v h => by
  rcases zBI h with ⟨i, t, rfl, rfl⟩ | ⟨x, t, rfl, rfl⟩ <;> rfl
 pyHash := fun hv h => by
  rcases zBI hv with ⟨i, t, rfl, rfl⟩ | ⟨x, t, rfl, rfl⟩
  ·exact wpAny_pyHash_int h
  ·exact wpAny_pyHash_str h
 eqBool := fun hu hv h => by
  rcases zBI hu with ⟨i, t, rfl, rfl⟩ | ⟨x, t, rfl, rfl⟩
  ·rcases zBI hv with ⟨j, u, rfl, rfl⟩ | ⟨y, u, rfl, rfl⟩
   ·rw [zLt] at h; exact wpAny_eqBool_int h
   ·rw [zLu] at h; exact SeqAt.EqAt.int_str i t y u _ _ _ _ h
  ·rcases zBI hv with ⟨j, u, rfl, rfl⟩ | ⟨y, u, rfl, rfl⟩
   ·rw [zLv] at h; exact SeqAt.EqAt.str_int x t j u _ _ _ _ h
   ·rw [zLw] at h; exact wpAny_eqBool_str h
 «strs» := fun k x t v h => by
  rcases zBI h with ⟨i, u, rfl, e⟩ | ⟨y, u, rfl, e⟩
  ·exact nomatch e
  ·injection e with e1 _
   subst e1
   cases v <;> rfl
end L2
namespace L2
open PySem PySem.Spec PyProof.Rows
inductive V where
 | non | bl (b : Bool) | int (i : Int) | str (x : Str) | byt (b : Array UInt8) | flt (b : UInt64) | ref (a : Addr) | ty (n : String)
 deriving DecidableEq
noncomputable def RelV : V -> Value -> Prop
 | .non, u => u = Value.none
 | .bl b, u => u = Value.bool b
 | .int i, u => ∃ t, u = Value.int i t
 | .str x, u => ∃ t, u = Value.str x t
 | .byt b, u => ∃ t, u = Value.bytes b t
 | .flt b, u => ∃ t, u = Value.float b t
 | .ref a, u => u = Value.ref a
 | .ty n, u => u = Value.type n
abbrev Vals : List V -> List Value -> Prop := Paired RelV
theorem Vals.length {xs : List V} {us : List Value} (r : Vals xs us) : xs.length = us.length := Paired.length r
theorem Vals.get : ∀ {xs : List V} {us : List Value} {i : Nat} {x : V}, Vals xs us -> xs[i]? = some x -> ∃ u, us[i]? = some u /\ RelV x u
 | _, _, _, _, .nil, e => by simp at e
 | _, _, 0, _, .cons r _, e => by simp at e; subst e; exact ⟨_, rfl, r⟩
 | _, _, i + 1, x, .cons _ t, e => by
  obtain ⟨u, h1, h2⟩ := Vals.get (i := i) (x := x) t (by simpa using e)
  exact ⟨u, by simpa using h1, h2⟩
theorem Vals.append : ∀ {xs ys : List V} {us ws : List Value}, Vals xs us -> Vals ys ws -> Vals (xs ++ ys) (us ++ ws)
 | _, _, _, _, .nil, s => s
 | _, _, _, _, .cons r t, s => .cons r (Vals.append t s)
theorem Vals.take : ∀ {xs : List V} {us : List Value} (n : Nat), Vals xs us -> Vals (xs.take n) (us.take n)
 | _, _, 0, _ => .nil
 | _, _, _ + 1, .nil => .nil
 | _, _, n + 1, .cons r t => .cons r (Vals.take n t)
theorem Vals.drop : ∀ {xs : List V} {us : List Value} (n : Nat), Vals xs us -> Vals (xs.drop n) (us.drop n)
 | _, _, 0, r => r
 | _, _, _ + 1, .nil => .nil
 | _, _, n + 1, .cons _ t => Vals.drop n t
noncomputable def RelO : Option V -> Option Value -> Prop
 | some v, some u => RelV v u
 | none, none => True
 | _, _ => False
noncomputable def KV {κ : Type} : List (κ × V) -> List (κ × Value) -> Prop := Paired fun (p : κ × V) (q : κ × Value) => p.1 = q.1 /\ RelV p.2 q.2
noncomputable def kV : Key -> V
 | .inl i => .int i
 | .inr x => .str x
inductive HO where
 | lst (xs : List V)
 | tup (xs : List V)
 | dK (kvs : List (Key × V)) | dT (kvs : List (List Key × V))
 | set (S : Int -> Bool) (n : Nat)
 | ins (C dx : Addr) (fs : List (Str × V))
 | own (x : Addr)
 | xd (fs : List (Str × V))
 | met (f x : Addr)
 | rng (lo hi : Int)
 | frz (o : Obj) (u : HO)
 | tbl (ps : Array Value)
 | ext (φ : Heap -> Prop)
abbrev Hp := Addr -> Option HO
noncomputable def upd (H : Hp) (a : Addr) (o : HO) : Hp := fun b => if b = a then some o else H b
theorem zAC {H : Hp} {a : Addr} {o : HO} : upd H a o a = some o := by unfold upd; rw [if_pos rfl]
theorem zAg {H : Hp} {a b : Addr} {o : HO} (h : b ≠ a) : upd H a o b = H b := by unfold upd; rw [if_neg h]
theorem zOl {H : Hp} {a : Addr} {o u : HO} : upd (upd H a o) a u = upd H a u := by
 funext b; unfold upd; split <;> rfl
theorem zBd {H : Hp} {a b : Addr} {o : HO} (h : H a = some o) (h' : H b = none) : a ≠ b := by
 intro e; subst e; rw [h] at h'; cases h'
section
variable (P : Program) (w : World)
noncomputable def zAL (H : Hp) (h : Heap) (a : Addr) : HO -> Prop
 | .lst xs => xs.length <= sizeLine /\ ∃ (its : List Value) (n : Nat), Vals xs its /\ h.get? a = some { cls := .type "list", data := .seq its.toArray n }
 | .tup xs => xs.length <= sizeLine /\ ∃ its : List Value, Vals xs its /\ IsTup h a its.toArray
 | .dK kvs => kvs.length <= sizeLine /\ (a == sysModules) = false /\ ∃ vs, KV kvs vs /\ h.DictOf (zIc P w) a vs
 | .dT kvs => kvs.length <= sizeLine /\ (a == sysModules) = false /\ ∃ xs : List (List Key × Addr × Value),
   Paired (fun (p : List Key × V) (q : List Key × Addr × Value) => p.1 = q.1 /\ H q.2.1 = some (.tup (p.1.map kV)) /\ RelV p.2 q.2.2) kvs xs /\
   ∃ o es ep, h.get? a = some o /\ o.ExactDict /\ o.data = .dict es ep /\ es.toList = xs.map (entryOfKey (tupleKind (zIc P w))) /\ (xs.map (·.1)).Nodup
 | .set S n => h.SetOf (intKind P w) a S n
 | .ins C dx fs => H dx = some (.own a) /\ fs.length <= 1000 /\ dx ≠ a /\ h.get? a = some (PySem.W.instObj C dx) /\
   ∃ mA, h.Ns1 dx mA /\ (∀ f, RelO (fs.lookup f) (mA f)) /\ PySem.Within mA (fs.map (·.1))
 | .own _ => ∃ o, h.get? a = some o
 | .xd fs => ∃ mA, h.Ns1 a mA /\ ∀ f, RelO (fs.lookup f) (mA f)
 | .rng lo hi => ∃ t u v, h.get? a = some { cls := .type "range", data := .fields #[.int lo t, .int hi u, .int 1 v] }
 | .frz o u => h.get? a = some o /\ zAL H h a u
 | .tbl ps => h.get? a = some { cls := .none, data := .fields ps }
 | .met f x => h.get? a = some (PySem.W.methodObj (.ref f) (.ref x))
 | .ext φ => φ h /\ (∃ o, h.get? a = some o) /\ ∀ h1 h2 : Heap, φ h1 -> (∀ o, h1.get? a = some o -> h2.get? a = some o) -> φ h2
noncomputable def HOk (H : Hp) (h : Heap) : Prop := ∀ a o, H a = some o -> zAL P w H h a o
end
section
variable {P : Program} {w : World} {H H' : Hp} {h h' : Heap} {a : Addr} {o : HO}
theorem zAL.lt (x : zAL P w H h a o) : a < h.objs.size := by
 cases o with
 | lst xs => obtain ⟨_, _, _, _, e⟩ := x; exact Qk e
 | tup xs => obtain ⟨_, _, _, p⟩ := x; exact p.lt
 | dK kvs => obtain ⟨_, _, _, _, o, _, _, e, _⟩ := x; exact Qk e
 | dT kvs => obtain ⟨_, _, _, _, o, _, _, e, _⟩ := x; exact Qk e
 | set S n => obtain ⟨o, _, _, _, e, _⟩ := x; exact Qk e
 | ins C dx fs => obtain ⟨_, _, _, e, _⟩ := x; exact Qk e
 | own y => obtain ⟨_, e⟩ := x; exact Qk e
 | xd fs => obtain ⟨_, ⟨_, _, _, e, _⟩, _⟩ := x; exact Qk e
 | rng lo hi => obtain ⟨_, _, _, e⟩ := x; exact Qk e
 | frz ob u => obtain ⟨e, _⟩ := x; exact Qk e
 | tbl ps => exact Qk (show h.get? a = some _ from x)
 | met f y => exact Qk (show h.get? a = some _ from x)
 | ext φ => obtain ⟨_, ⟨_, e⟩, _⟩ := x; exact Qk e
theorem Paired.mapP {α β : Type} {F G : α -> β -> Prop} : ∀ {l₁ : List α} {l₂ : List β}, Paired F l₁ l₂ -> (∀ a b, F a b -> G a b) -> Paired G l₁ l₂
 | _, _, .nil, _ => .nil
 | _, _, .cons r t, f => .cons (f _ _ r) (Paired.mapP t f)
theorem Paired.imp' {α β : Type} {F G : α -> β -> Prop} (f : ∀ a b, F a b -> G a b) {l₁ : List α} {l₂ : List β} (r : Paired F l₁ l₂) : Paired G l₁ l₂ := Paired.mapP r f
theorem zAL.stay (x : zAL P w H h a o) (k : ∀ b u, (b = a ∨ H b = some (.own a)) -> h.get? b = some u -> h'.get? b = some u)
  (ho : ∀ b, H b = some (.own a) -> H' b = some (.own a)) (ht : ∀ b xs, H b = some (.tup xs) -> H' b = some (.tup xs)) : zAL P w H' h' a o := by
 induction o with
 | lst xs => obtain ⟨z, its, n, r, e⟩ := x; exact ⟨z, its, n, r, k _ _ (.inl rfl) e⟩
 | tup xs => obtain ⟨z, its, r, ob, e, c⟩ := x; exact ⟨z, its, r, ob, k _ _ (.inl rfl) e, c⟩
 | dK kvs => obtain ⟨z, y, vs, r, ob, es, ep, e, c⟩ := x; exact ⟨z, y, vs, r, ob, es, ep, k _ _ (.inl rfl) e, c⟩
 | dT kvs =>
  obtain ⟨z, y, xs, r, ob, es, ep, e, c⟩ := x
  exact ⟨z, y, xs, Paired.mapP r fun p q z => ⟨z.1, ht _ _ z.2.1, z.2.2⟩, ob, es, ep, k _ _ (.inl rfl) e, c⟩
 | set S n => obtain ⟨ob, es, ep, t, e, c⟩ := x; exact ⟨ob, es, ep, t, k _ _ (.inl rfl) e, c⟩
 | ins C dx fs =>
  obtain ⟨d, z, ne, e, mA, ⟨od, es, ep, e2, c⟩, r⟩ := x
  exact ⟨ho _ d, z, ne, k _ _ (.inl rfl) e, mA, ⟨od, es, ep, k _ _ (.inr d) e2, c⟩, r⟩
 | own y => obtain ⟨ob, e⟩ := x; exact ⟨ob, k _ _ (.inl rfl) e⟩
 | xd fs => obtain ⟨mA, ⟨od, es, ep, e, c⟩, r⟩ := x; exact ⟨mA, ⟨od, es, ep, k _ _ (.inl rfl) e, c⟩, r⟩
 | rng lo hi => obtain ⟨t, u, v, e⟩ := x; exact ⟨t, u, v, k _ _ (.inl rfl) e⟩
 | frz ob u ih => obtain ⟨e, q⟩ := x; exact ⟨k _ _ (.inl rfl) e, ih q⟩
 | tbl ps =>
  have e : h.get? a = some { cls := .none, data := .fields ps } := x
  show h'.get? a = some { cls := .none, data := .fields ps }
  exact k a _ (.inl rfl) e
 | met f y =>
  have e : h.get? a = some (PySem.W.methodObj (.ref f) (.ref y)) := x
  show h'.get? a = some (PySem.W.methodObj (.ref f) (.ref y))
  exact k a _ (.inl rfl) e
 | ext φ => obtain ⟨p, ⟨o, e⟩, st⟩ := x; exact ⟨st _ _ p fun o q => k _ _ (.inl rfl) q, ⟨o, k _ _ (.inl rfl) e⟩, st⟩
theorem HOk.lt (x : HOk P w H h) (e : H a = some o) : a < h.objs.size := (x a o e).lt
theorem HOk.fresh (x : HOk P w H h) (e : h.objs.size <= a) : H a = none := by
 cases q : H a with
 | none => rfl
 | some u => exact absurd (QD (x.lt q) e) (YV _)
theorem HOk.kept (x : HOk P w H h) (k : ∀ b u, h.get? b = some u -> h'.get? b = some u) : HOk P w H h' := fun a o e =>
 (x a o e).stay (fun b u _ q => k b u q) (fun _ q => q) fun _ _ q => q
theorem HOk.laid (x : HOk P w H h) (k : ∀ b u, h.get? b = some u -> h'.get? b = some u) (hp : h.objs.size <= a) (new : zAL P w (upd H a o) h' a o) : HOk P w (upd H a o) h' := fun b u e => by
 have hn := x.fresh hp
 by_cases hb : b = a
 ·subst hb; rw [zAC] at e; cases e; exact new
 ·rw [zAg hb] at e
  exact (x b u e).stay (fun c v _ q => k c v q) (fun c q => by rw [zAg (zBd q hn)]; exact q) fun c xs q => by rw [zAg (zBd q hn)]; exact q
end
noncomputable def Rd (H : Hp) (a : Addr) (u : HO) : Prop := H a = some u ∨ ∃ o, H a = some (.frz o u)
theorem Rd.ok {P : Program} {w : World} {H : Hp} {h : Heap} {a : Addr} {u : HO} (r : Rd H a u) (x : HOk P w H h) : zAL P w H h a u := by
 rcases r with r | ⟨o, r⟩
 ·exact x a u r
 ·obtain ⟨_, q⟩ := x a _ r
  exact q
noncomputable def Mut : Option HO -> Prop
 | some (.lst _) => True
 | some (.dK _) => True
 | some (.dT _) => True
 | some (.set _ _) => True
 | some (.ins _ _ _) => True
 | some (.ext _) => True
 | _ => False
section
variable {P : Program} {w : World} {H : Hp} {h h' : Heap} {x e : Addr} {o' : HO}
theorem HOk.write (ok : HOk P w H h) (mu : Mut (H x)) (he : e = x ∨ H e = some (.own x)) (k : ∀ b u, b ≠ e -> h.get? b = some u -> h'.get? b = some u) (heo : ∃ u, h'.get? e = some u)
  (new : zAL P w (upd H x o') h' x o') : HOk P w (upd H x o') h' := fun b u q => by
 have nown : ∀ c y, H c = some (.own y) -> c ≠ x := fun c y r z => by subst z; rw [r] at mu; exact mu
 have ntup : ∀ c xs, H c = some (.tup xs) -> c ≠ x := fun c xs r z => by subst z; rw [r] at mu; exact mu
 by_cases hb : b = x
 ·subst hb; rw [zAC] at q; cases q; exact new
 ·rw [zAg hb] at q
  by_cases hbe : b = e
  ·have q' : H b = some (.own x) := by
    rcases he with z | z
    ·exact absurd (hbe.trans z) hb
    ·rw [hbe]; exact z
   rw [q] at q'; cases q'
   obtain ⟨v, hv⟩ := heo
   exact ⟨v, by rw [hbe]; exact hv⟩
  ·refine (ok b u q).stay (fun c v hc r => k c v ?_ r) (fun c r => by rw [zAg (nown c b r)]; exact r) fun c xs r => by rw [zAg (ntup c xs r)]; exact r
   rcases hc with rfl | hc
   ·exact hbe
   ·rintro rfl
    rcases he with z | z
    ·exact nown c b hc z
    ·rw [hc] at z; cases z; exact hb rfl
end
structure Un (fs ex : List Addr) (H H' : Hp) (h h' : Heap) : Prop where
 keep : ∀ b o, h.get? b = some o -> H b = none -> b ∉ fs -> b ∉ ex -> h'.get? b = some o
 slot : ∀ b o, h.get? b = some o -> H b = none -> b ∈ fs -> b ∉ ex -> ∃ sl, h'.get? b = some { o with slots := sl }
 free : ∀ b o, h.get? b = some o -> H b = none -> b ∉ ex -> H' b = none
 there : ∀ b o, h.get? b = some o -> b ∉ ex -> ∃ o', h'.get? b = some o'
 tups : ∀ b xs, H b = some (.tup xs) -> H' b = some (.tup xs)
 frzs : ∀ b o u, H b = some (.frz o u) -> H' b = some (.frz o u)
 tbls : ∀ b ps, H b = some (.tbl ps) -> ∃ more, H' b = some (.tbl (ps ++ more))
section
variable {fs fs' ex ex' : List Addr} {H H1 H2 : Hp} {h h1 h2 h' : Heap} {a x e : Addr} {o : HO}
theorem Un.any (u : Un fs ex H H1 h h1) {b : Addr} {ob : Obj} (q : h.get? b = some ob) (n : H b = none) (hx : b ∉ ex) : ∃ sl, h1.get? b = some { ob with slots := sl } := by
 by_cases hb : b ∈ fs
 ·exact u.slot b ob q n hb hx
 ·exact ⟨ob.slots, u.keep b ob q n hb hx⟩
theorem Un.kept (k : ∀ b u, h.get? b = some u -> h'.get? b = some u) : Un fs ex H H h h' :=
 ⟨fun b ob q _ _ _ => k b ob q, fun b ob q _ _ _ => ⟨ob.slots, k b ob q⟩, fun _ _ _ n _ => n, fun b ob q _ => ⟨ob, k b ob q⟩, fun _ _ q => q, fun _ _ _ q => q, fun _ ps q => ⟨#[], by rw [q]; simp⟩⟩
theorem Un.refl : Un fs ex H H h h := Un.kept fun _ _ q => q
theorem Un.laid (k : ∀ b u, h.get? b = some u -> h'.get? b = some u) (hp : h.objs.size <= a) (hn : H a = none) : Un fs ex H (upd H a o) h h' where
 keep := fun b u q _ _ _ => k b u q
 slot := fun b u q _ _ _ => ⟨u.slots, k b u q⟩
 free := fun b u q n _ => by rw [zAg (Qq (QD (Qk q) hp))]; exact n
 there := fun b u q _ => ⟨u, k b u q⟩
 tups := fun b xs q => by rw [zAg (zBd q hn)]; exact q
 frzs := fun b u xs q => by rw [zAg (zBd q hn)]; exact q
 tbls := fun b ps q => ⟨#[], by rw [zAg (zBd q hn), q]; simp⟩
theorem Un.write (mu : Mut (H x)) (he : e = x ∨ H e = some (.own x)) (k : ∀ b u, b ≠ e -> h.get? b = some u -> h'.get? b = some u) (heo : ∃ u, h'.get? e = some u) : Un fs ex H (upd H x o) h h' := by
 have hx : ∀ b, H b = none -> b ≠ x := fun b n z => by subst z; rw [n] at mu; exact mu
 have hb : ∀ b, H b = none -> b ≠ e := fun b n z => by
  subst z
  rcases he with r | r
  ·exact hx b n r
  ·rw [n] at r; cases r
 have hm : ∀ b u, H b = some u -> ¬ Mut (some u) -> b ≠ x := fun b u q nm z => by subst z; rw [q] at mu; exact nm mu
 refine ⟨fun b u q n _ _ => k b u (hb b n) q, fun b u q n _ _ => ⟨u.slots, k b u (hb b n) q⟩, fun b u q n _ => by rw [zAg (hx b n)]; exact n, fun b u q _ => ?_,
  fun b xs q => by rw [zAg (hm b _ q fun z => z)]; exact q, fun b u xs q => by rw [zAg (hm b _ q fun z => z)]; exact q, fun b ps q => ⟨#[], by rw [zAg (hm b _ q fun z => z), q]; simp⟩⟩
 by_cases hbe : b = e
 ·subst hbe; exact heo
 ·exact ⟨u, k b u hbe q⟩
end
noncomputable def trk (h : Heap) (H : Hp) : List Addr := (List.range h.objs.size).filter fun a => (H a).isSome
noncomputable def hidT (h : Heap) (H : Hp) : Heap := PySem.W.hideAll h (trk h H)
theorem zK6 (h : Heap) (H : Hp) : (hidT h H).objs.size = h.objs.size := PySem.W.hideAll_size _ _
theorem zK5 {h : Heap} {H : Hp} {b : Addr} {o : Obj} (e : h.get? b = some o) (n : H b = none) : (hidT h H).get? b = some o :=
 PySem.W.hideAll_get _ e fun hm => by
  have q : (H b).isSome = true := (QK.mp hm).2
  rw [n] at q; simp at q
theorem zMt {h : Heap} {H : Hp} {b : Addr} {o : Obj} (e : (hidT h H).get? b = some o) : h.get? b = some o /\ H b = none := by
 have e' : h.get? b = some o := PySem.W.of_hideAll (trk h H) e
 refine ⟨e', ?_⟩
 cases q : H b with
 | none => rfl
 | some x =>
  have hm : b ∈ trk h H := QK.mpr ⟨QL.mpr (Qk e'), by simp [q]⟩
  have z : (hidT h H).get? b = none := PySem.W.hideAll_none (trk h H) hm
  rw [z] at e; cases e
end L2
namespace L2
open PySem PySem.Spec PyProof.Rows
structure Mod (K : PySem.W.Frag) (mg : Str -> Option Value) (base : Heap) : Prop where
 kin : K.In base
 glob : base.Ns mainGlobals mg
 blt : ∃ mb, base.Ns builtinsNs mb /\ ∀ x : Str, x ≠ "__name__" -> mb x = bootBuiltins x
 nolimit : base.NoLimit
structure Cx where
 prog : Program
 w : World
 K : PySem.W.Frag
 mg : Str -> Option Value
 base : Heap
 A : Around
 N : List Str
 s₀ : Shared
 H₀ : Hp
 env : Env
 outer : List Env
 stack : List Env
 ex : List Addr
 fn : Str -> Bool
 calm : Bool
 pn : List (Addr × Obj)
 xe : Value -> Shared -> Prop
noncomputable def frs (l : List Env) : List Addr := l.filterMap (·.frame)
abbrev Cx.fs (X : Cx) : List Addr := frs X.outer
noncomputable def Vis (sc : Scope) (x : Str) : Prop := sc.names.lookup x = some .local ∨ sc.names.lookup x = some .cell ∨ sc.names.lookup x = some .free
noncomputable def Loc (sc : Scope) (x : Str) : Prop := sc.names.lookup x = some .local ∨ sc.names.lookup x = some .cell
noncomputable def Look (env : Env) (h : Heap) (m : Str -> Option Value) (x : Str) (u : Value) : Prop :=
 (env.kindOf x = some .local /\ m x = some u) ∨ ((env.kindOf x = some .cell ∨ env.kindOf x = some .free) /\ ∃ c, env.cells.lookup x = some c /\ h.IsCell c (some u))
structure Cx.Ok (X : Cx) : Prop where
 mod : Mod X.K X.mg X.base
 kind : X.env.scope.kind = .function
 glob : X.env.globals = mainGlobals
 blt : X.env.builtins = builtinsNs
 above : X.s₀.heap.objs.size <= X.env.locals
 inj : ∀ x y c, X.env.cells.lookup x = some c -> X.env.cells.lookup y = some c -> x = y
 has : ∀ x, (X.env.kindOf x = some .cell ∨ X.env.kindOf x = some .free) -> ∃ c, X.env.cells.lookup x = some c
 cab : ∀ x c, X.fn x = true -> X.env.cells.lookup x = some c -> X.s₀.heap.objs.size <= c
 hd : X.calm = true -> X.A.handled = none
 frames : X.A.frames = some X.stack
 stk : X.stack = X.outer ∨ (X.stack = X.env :: X.outer /\ X.env.frame = some X.env.locals)
 exf : ∀ b ∈ X.ex, b ≠ X.env.locals /\ ∀ x c, X.env.cells.lookup x = some c -> c ≠ b
 bs : ∀ b o, X.base.get? b = some o -> X.s₀.heap.get? b = some o /\ X.H₀ b = none
 bsz : X.base.objs.size <= X.s₀.heap.objs.size
 noex : ∀ b o, X.base.get? b = some o -> b ∉ X.ex
 exfs : ∀ b ∈ X.ex, b ∉ X.fs
 funs : X.s₀.heap.FunFrames X.base X.outer
 frf : ∀ b ∈ X.fs, X.H₀ b = none
structure Inv (X : Cx) (pins : List (Addr × Obj)) (σ : List (Option V)) (H : Hp) (s : Shared) : Prop where
 ok : X.Ok
 os : s.os = X.s₀.os
 bare : AllBare s.gens
 base : Un X.fs X.ex X.H₀ H X.s₀.heap s.heap
 loc : ∃ m, s.heap.Ns X.env.locals m /\ ∀ (i : Nat) (x : Str) (v : V), X.N[i]? = some x -> σ[i]? = some (some v) -> Vis X.env.scope x -> ∃ u, RelV v u /\ Look X.env s.heap m x u
 cell : ∀ x c, X.env.cells.lookup x = some c -> ∃ v, s.heap.IsCell c v
 free : H X.env.locals = none
 freeC : ∀ x c, X.env.cells.lookup x = some c -> H c = none
 pin : ∀ p ∈ X.pn ++ pins, s.heap.get? p.1 = some p.2 /\ H p.1 = none /\ p.1 ≠ X.env.locals /\ p.1 ∉ X.fs /\ ∀ v, p.2.data ≠ .cell v
 hok : HOk X.prog X.w H s.heap
 len : σ.length = X.N.length
section
variable {X : Cx} {pins : List (Addr × Obj)} {σ : List (Option V)} {H H' : Hp} {s : Shared} {h' : Heap}
theorem Cx.Ok.nofr (ok : X.Ok) {b : Addr} {o : Obj} (e : X.base.get? b = some o) : b ∉ X.fs := fun hb => by
 have := (ok.funs.mem hb).1
 rw [e] at this; cases this
theorem Inv.bs (I : Inv X pins σ H s) : ∀ b o, X.base.get? b = some o -> s.heap.get? b = some o /\ H b = none := fun b o e =>
 ⟨I.base.keep b o (I.ok.bs b o e).1 (I.ok.bs b o e).2 (I.ok.nofr e) (I.ok.noex b o e), I.base.free b o (I.ok.bs b o e).1 (I.ok.bs b o e).2 (I.ok.noex b o e)⟩
theorem Inv.bk (I : Inv X pins σ H s) : ∀ b o, X.base.get? b = some o -> s.heap.get? b = some o := fun b o e => (I.bs b o e).1
theorem Inv.mod (I : Inv X pins σ H s) : Mod X.K X.mg X.base := I.ok.mod
theorem Inv.kIn (I : Inv X pins σ H s) : X.K.In s.heap := I.ok.mod.kin.keeps I.bk
theorem Inv.lt (I : Inv X pins σ H s) : X.env.locals < s.heap.objs.size := let ⟨_, hn, _⟩ := I.loc; hn.lt
theorem Inv.sz (I : Inv X pins σ H s) : X.s₀.heap.objs.size <= s.heap.objs.size := Qt I.ok.above (Yv I.lt)
theorem Inv.nofs (I : Inv X pins σ H s) {a : Addr} (h : s.heap.objs.size <= a) : a ∉ X.fs := fun hb => by
 obtain ⟨_, o, ho, _⟩ := I.ok.funs.mem hb
 exact absurd (QD (Qk ho) (Qt I.sz h)) (YV _)
theorem Inv.cne (I : Inv X pins σ H s) : ∀ x c, X.env.cells.lookup x = some c -> c ≠ X.env.locals := fun x c e z => by
 obtain ⟨v, o, ho, hd⟩ := I.cell x c e
 obtain ⟨m, ⟨o', es, ep, ho', hd', _⟩, _⟩ := I.loc
 rw [z, ho'] at ho; cases ho; rw [hd'] at hd; cases hd
theorem Inv.funs (I : Inv X pins σ H s) : s.heap.FunFrames X.base X.outer := by
 have all : ∀ (l : List Env), (∀ b ∈ frs l, b ∈ X.fs) -> X.s₀.heap.FunFrames X.base l -> s.heap.FunFrames X.base l := by
  intro l
  induction l with
  | nil => intro _ _; trivial
  | cons env r ih =>
   intro hs hl
   obtain ⟨hk, ⟨L, o, hf, hn, ho, hd⟩, hr⟩ := hl
   have hL : L ∈ X.fs := hs L (by unfold frs; rw [Jv, hf]; exact Qf)
   obtain ⟨sl, e⟩ := I.base.slot L o ho (I.ok.frf L hL) hL fun z => I.ok.exfs L z hL
   exact ⟨hk, ⟨L, _, hf, hn, e, hd⟩, ih (fun b hb => hs b (by unfold frs; rw [Jv, hf]; exact Qd _ hb)) hr⟩
 exact all X.outer (fun _ hb => hb) I.ok.funs
theorem Inv.stack (I : Inv X pins σ H s) : s.heap.FunFrames X.base X.stack := by
 rcases I.ok.stk with e | ⟨e, hf⟩
 ·rw [e]; exact I.funs
 ·rw [e]
  obtain ⟨m, hn, _⟩ := I.loc
  refine .cons (by rw [I.ok.kind]; decide) hf hn ?_ I.funs
  exact Heap.get?_none_of_le (Qt I.ok.bsz I.ok.above)
theorem Inv.stkSub (I : Inv X pins σ H s) : ∀ b ∈ frs X.stack, b ∈ X.env.locals :: X.fs := fun b hb => by
 rcases I.ok.stk with e | ⟨e, hf⟩
 ·rw [e] at hb; exact Qd _ hb
 ·rw [e] at hb
  unfold frs at hb
  rw [Jv, hf] at hb
  exact hb
theorem Inv.stkFree (I : Inv X pins σ H s) : ∀ b ∈ frs X.stack, H b = none := fun b hb => by
 rcases Qh.mp (I.stkSub b hb) with e | hb
 ·rw [e]; exact I.free
 ·obtain ⟨_, o, ho, _⟩ := I.ok.funs.mem hb
  exact I.base.free b o ho (I.ok.frf b hb) fun z => I.ok.exfs b z hb
theorem Inv.step {g' : Array GenState} {t' : Nat} {d' : Drawn} {ch : List Addr} (I : Inv X pins σ H s)
  (hch : ∀ b ∈ ch, (b ∈ X.ex ∨ X.s₀.heap.objs.size <= b) /\ b ≠ X.env.locals /\ (∀ x c, X.env.cells.lookup x = some c -> c ≠ b) /\ ∀ p ∈ X.pn ++ pins, p.1 ≠ b)
  (keep : ∀ b o, b ≠ X.env.locals -> b ∉ X.fs -> b ∉ ch -> s.heap.get? b = some o -> H b = none -> h'.get? b = some o)
  (slot : ∀ b o, b ≠ X.env.locals -> b ∈ X.fs -> b ∉ ch -> s.heap.get? b = some o -> H b = none -> ∃ sl, h'.get? b = some { o with slots := sl }) (free : ∀ b o, b ∉ ch -> s.heap.get? b = some o -> H b = none -> H' b = none)
  (there : ∀ b o, b ∉ ch -> s.heap.get? b = some o -> ∃ o', h'.get? b = some o')
  (tups : ∀ b xs, H b = some (.tup xs) -> H' b = some (.tup xs)) (frzs : ∀ b o u, H b = some (.frz o u) -> H' b = some (.frz o u)) (tbls : ∀ b ps, H b = some (.tbl ps) -> ∃ more, H' b = some (.tbl (ps ++ more)))
  (ns : ∀ m, s.heap.Ns X.env.locals m -> h'.Ns X.env.locals m) (hok : HOk X.prog X.w H' h') (hg : AllBare g') :
  Inv X pins σ H' { s with heap := h', gens := g', drawn := d', toks := t' } := by
 have neL : ∀ b o, X.s₀.heap.get? b = some o -> b ≠ X.env.locals := fun b o e => Qq (QD (Qk e) I.ok.above)
 have neC : ∀ b o, X.s₀.heap.get? b = some o -> b ∉ X.ex -> b ∉ ch := fun b o e hx hb => by
  rcases (hch b hb).1 with z | z
  ·exact hx z
  ·exact absurd (QD (Qk e) z) (YV _)
 have cellK : ∀ x c, X.env.cells.lookup x = some c -> ∀ v, s.heap.IsCell c v -> h'.IsCell c v := fun x c e v zz => by
  obtain ⟨o, ho, hd⟩ := zz
  have nch : c ∉ ch := fun z => (hch c z).2.2.1 x c e rfl
  by_cases hc : c ∈ X.fs
  ·obtain ⟨sl, q⟩ := slot c o (I.cne x c e) hc nch ho (I.freeC x c e)
   exact ⟨_, q, hd⟩
  ·exact ⟨o, keep c o (I.cne x c e) hc nch ho (I.freeC x c e), hd⟩
 refine ⟨I.ok, I.os, hg, ⟨fun b o e n hb hx => ?_, fun b o e n hb hx => ?_, fun b o e n hx => ?_, fun b o e hx => ?_, fun b xs e => tups b xs (I.base.tups b xs e), fun b o xs e => frzs b o xs (I.base.frzs b o xs e), fun b ps e => ?_⟩, ?_, fun x c e => ?_, ?_, fun x c e => ?_, fun p hp => ?_, hok, I.len⟩
 ·exact keep b o (neL b o e) hb (neC b o e hx) (I.base.keep b o e n hb hx) (I.base.free b o e n hx)
 ·obtain ⟨sl, e1⟩ := I.base.slot b o e n hb hx
  obtain ⟨sl', e2⟩ := slot b _ (neL b o e) hb (neC b o e hx) e1 (I.base.free b o e n hx)
  exact ⟨sl', e2⟩
 ·obtain ⟨o', e1⟩ := I.base.there b o e hx
  exact free b o' (neC b o e hx) e1 (I.base.free b o e n hx)
 ·obtain ⟨o', e1⟩ := I.base.there b o e hx
  exact there b o' (neC b o e hx) e1
 ·obtain ⟨m1, e1⟩ := I.base.tbls b ps e
  obtain ⟨m2, e2⟩ := tbls b _ e1
  exact ⟨m1 ++ m2, by rw [e2, Array.append_assoc]⟩
 ·obtain ⟨m, hn, hl⟩ := I.loc
  refine ⟨m, ns m hn, fun i x v e1 e2 e3 => ?_⟩
  obtain ⟨u, r, l⟩ := hl i x v e1 e2 e3
  refine ⟨u, r, ?_⟩
  rcases l with l | ⟨k, c, e, z⟩
  ·exact .inl l
  ·exact .inr ⟨k, c, e, cellK x c e _ z⟩
 ·obtain ⟨v, z⟩ := I.cell x c e
  exact ⟨v, cellK x c e v z⟩
 ·obtain ⟨m, ⟨o, _, _, ho, _⟩, _⟩ := I.loc
  exact free _ o (fun z => (hch _ z).2.1 rfl) ho I.free
 ·obtain ⟨v, o, ho, hd⟩ := I.cell x c e
  exact free c o (fun z => (hch c z).2.2.1 x c e rfl) ho (I.freeC x c e)
 ·obtain ⟨e, n, ne, nf, d⟩ := I.pin p hp
  have nch : p.1 ∉ ch := fun z => (hch p.1 z).2.2.2 p hp rfl
  exact ⟨keep p.1 p.2 ne nf nch e n, free p.1 p.2 nch e n, ne, nf, d⟩
theorem Inv.un {t' : Nat} (I : Inv X pins σ H s) (u : Un X.fs [] H H' s.heap h') (hok : HOk X.prog X.w H' h') : Inv X pins σ H' { s with heap := h', toks := t' } := by
 obtain ⟨m, ⟨o, es, ep, ho, r⟩, _⟩ := id I.loc
 obtain ⟨sl, hL⟩ := u.any ho I.free (by simp)
 exact I.step (g' := s.gens) (d' := s.drawn) (ch := []) (fun _ z => nomatch z) (fun b o _ hb _ e n => u.keep b o e n hb (by simp)) (fun b o _ hb _ e n => u.slot b o e n hb (by simp)) (fun b o _ e n => u.free b o e n (by simp)) (fun b o _ e => u.there b o e (by simp)) u.tups u.frzs u.tbls (fun m' hm => by
  obtain ⟨o', es', ep', ho', r'⟩ := hm
  rw [ho] at ho'; cases ho'
  exact ⟨_, es', ep', hL, r'⟩) hok I.bare
theorem Inv.call {g' : Array GenState} {t' : Nat} {d' : Drawn} {ch : List Addr} (I : Inv X pins σ H s) (u : Un (frs X.stack) ch H H' s.heap h') (hok : HOk X.prog X.w H' h') (hg : AllBare g')
  (hch : ∀ b ∈ ch, (b ∈ X.ex ∨ X.s₀.heap.objs.size <= b) /\ b ≠ X.env.locals /\ (∀ x c, X.env.cells.lookup x = some c -> c ≠ b) /\ ∀ p ∈ X.pn ++ pins, p.1 ≠ b) :
  Inv X pins σ H' { s with heap := h', gens := g', drawn := d', toks := t' } := by
 obtain ⟨m, ⟨o, es, ep, ho, r⟩, _⟩ := id I.loc
 obtain ⟨sl, hL⟩ := u.any ho I.free fun z => (hch _ z).2.1 rfl
 exact I.step (ch := ch) hch (fun b o hL hb hc e n => u.keep b o e n (fun z => (Qh.mp (I.stkSub b z)).elim hL hb) hc) (fun b o _ _ hc e n => u.any e n hc) (fun b o hc e n => u.free b o e n hc) (fun b o hc e => u.there b o e hc) u.tups u.frzs u.tbls (fun m' hm => by
  obtain ⟨o', es', ep', ho', r'⟩ := hm
  rw [ho] at ho'; cases ho'
  exact ⟨_, es', ep', hL, r'⟩) hok hg
theorem Inv.turned {t' : Nat} {it : Addr} (I : Inv X pins σ H s) (k : ∀ b o, b ≠ it -> s.heap.get? b = some o -> h'.get? b = some o) (hn : H it = none) (hL : it ≠ X.env.locals)
  (h1 : it ∈ X.ex ∨ X.s₀.heap.objs.size <= it) (h2 : ∀ x c, X.env.cells.lookup x = some c -> c ≠ it) (h3 : ∀ p ∈ X.pn ++ pins, p.1 ≠ it) : Inv X pins σ H { s with heap := h', toks := t' } := by
 have nit : ∀ b u, H b = some u -> b ≠ it := fun b u e z => by rw [z, hn] at e; cases e
 refine I.step (g' := s.gens) (d' := s.drawn) (ch := [it]) (fun b hb => ?_) (fun b o _ _ hc e _ => k b o (fun z => hc (by simp [z])) e) (fun b o _ _ hc e _ => ⟨o.slots, k b o (fun z => hc (by simp [z])) e⟩) (fun _ _ _ _ n => n)
  (fun b o hc e => ⟨o, k b o (fun z => hc (by simp [z])) e⟩) (fun _ _ e => e) (fun _ _ _ e => e) (fun b ps e => ⟨#[], by rw [e]; simp⟩) (fun m hm => ?_) (fun b u e => ?_) I.bare
 ·have e : b = it := by simpa using hb
  subst e
  exact ⟨h1, hL, h2, h3⟩
 ·obtain ⟨o, es, ep, ho, r⟩ := hm
  exact ⟨o, es, ep, k _ o (Ne.symm hL) ho, r⟩
 ·refine (I.hok b u e).stay (fun c v hc q => k c v ?_ q) (fun _ q => q) fun _ _ q => q
  rcases hc with z | z
  ·rw [z]; exact nit b u e
  ·exact nit c _ z
theorem Inv.tok (I : Inv X pins σ H s) (t : Nat) : Inv X pins σ H { s with toks := t } := I.un (h' := s.heap) (t' := t) Un.refl I.hok
theorem Inv.kept {t' : Nat} (I : Inv X pins σ H s) (k : ∀ b u, s.heap.get? b = some u -> h'.get? b = some u) : Inv X pins σ H { s with heap := h', toks := t' } := I.un (Un.kept k) (I.hok.kept k)
theorem Inv.laid {a : Addr} {o : HO} {t' : Nat} (I : Inv X pins σ H s) (k : ∀ b u, s.heap.get? b = some u -> h'.get? b = some u) (hp : s.heap.objs.size <= a) (new : zAL X.prog X.w (upd H a o) h' a o) :
  Inv X pins σ (upd H a o) { s with heap := h', toks := t' } := I.un (Un.laid k hp (I.hok.fresh hp)) (I.hok.laid k hp new)
theorem Inv.write {x e : Addr} {o : HO} {t' : Nat} (I : Inv X pins σ H s) (mu : Mut (H x)) (he : e = x ∨ H e = some (.own x)) (k : ∀ b u, b ≠ e -> s.heap.get? b = some u -> h'.get? b = some u) (heo : ∃ u, h'.get? e = some u)
  (new : zAL X.prog X.w (upd H x o) h' x o) : Inv X pins σ (upd H x o) { s with heap := h', toks := t' } := I.un (Un.write mu he k heo) (I.hok.write mu he k heo new)
theorem Inv.pins_of {pins' : List (Addr × Obj)} (I : Inv X pins σ H s) (h : ∀ p ∈ pins', s.heap.get? p.1 = some p.2 /\ H p.1 = none /\ p.1 ≠ X.env.locals /\ p.1 ∉ X.fs /\ ∀ v, p.2.data ≠ .cell v) : Inv X pins' σ H s :=
 ⟨I.ok, I.os, I.bare, I.base, I.loc, I.cell, I.free, I.freeC, fun p hp => (QC.mp hp).elim (fun z => I.pin p (Yb _ z)) (h p), I.hok, I.len⟩
theorem zIj {N : List Str} (hN : N.Nodup) {i j : Nat} {x : Str} (a : N[i]? = some x) (b : N[j]? = some x) : i = j := by
 obtain ⟨h1, e1⟩ := Qe.mp a
 obtain ⟨h2, e2⟩ := Qe.mp b
 exact (List.getElem_inj hN).mp (e1.trans e2.symm)
theorem zJh {M : Model} {A : Around} {E : Value -> Shared -> Prop} {i : Nat} {x : Str} {v : V} {u : Value} {Q : Unit -> Shared -> Prop} (I : Inv X pins σ H s) (hN : X.N.Nodup) (hi : X.N[i]? = some x) (hx : Loc X.env.scope x) (r : RelV v u)
  (h : ∀ s', Inv X pins (σ.set i (some v)) H s' -> (∃ a, Heap.SameBut a s.heap s'.heap /\ (a = X.env.locals ∨ X.env.cells.lookup x = some a)) -> Q () s') (hf : X.fn x = true ∨ X.env.scope.names.lookup x = some .local := by first | exact .inl rfl | exact .inr rfl | assumption) : wpAny M A (storeName X.env x u) Q E s := by
 obtain ⟨m, hn, hl⟩ := id I.loc
 have hcls : (X.env.scope.kind == .class || (X.env.scope.kind == .module && X.env.locals != X.env.globals)) = false := by rw [I.ok.kind]; rfl
 have hiσ : i < σ.length := by rw [I.len]; exact (Qe.mp hi).1
 have cne := I.cne
 have tracked : ∀ {a : Addr} {h' : Heap}, (∃ o, s.heap.get? a = some o /\ H a = none) -> Heap.SameBut a s.heap h' -> HOk X.prog X.w H h' := fun {a h'} ha hs b ob e => by
  obtain ⟨_, _, hfree⟩ := ha
  refine (I.hok b ob e).stay (fun c w' hc q => (hs.2 c ?_).trans q) (fun _ q => q) fun _ _ q => q
  rintro rfl
  rcases hc with rfl | hc
  ·rw [hfree] at e; cases e
  ·rw [hfree] at hc; cases hc
 rcases hx with hk | hk
 ·refine wpAny_storeName_local hk hn (fun h' hn' hs => ?_) hcls
  obtain ⟨oL, _, _, hoL, _⟩ := id hn
  refine h _ ⟨I.ok, I.os, I.bare, ⟨fun b o e n hb hx => ?_, fun b o e n hb hx => ?_, I.base.free, fun b o e hx => ?_, I.base.tups, I.base.frzs, I.base.tbls⟩, ⟨_, hn', fun j y v' e1 e2 e3 => ?_⟩, fun y c e => ?_, I.free, I.freeC, fun p hp => ?_, tracked ⟨oL, hoL, I.free⟩ hs, by simpa using I.len⟩ ⟨_, hs, .inl rfl⟩
  ·exact (hs.2 b (Qq (QD (Qk e) I.ok.above))).trans (I.base.keep b o e n hb hx)
  ·obtain ⟨sl, e1⟩ := I.base.slot b o e n hb hx
   exact ⟨sl, (hs.2 b (Qq (QD (Qk e) I.ok.above))).trans e1⟩
  ·obtain ⟨o', e1⟩ := I.base.there b o e hx
   exact ⟨o', (hs.2 b (Qq (QD (Qk e) I.ok.above))).trans e1⟩
  ·by_cases hj : j = i
   ·subst hj
    rw [hi] at e1; cases e1
    rw [QA hiσ] at e2
    cases e2
    exact ⟨u, r, .inl ⟨hk, by simp⟩⟩
   ·rw [Qu (Ne.symm hj)] at e2
    obtain ⟨u', r', q⟩ := hl j y v' e1 e2 e3
    refine ⟨u', r', ?_⟩
    rcases q with ⟨k, e⟩ | ⟨k, c, e, z⟩
    ·refine .inl ⟨k, ?_⟩
     have : y ≠ x := fun e => hj (zIj hN e1 (e ▸ hi))
     simp [this, e]
    ·exact .inr ⟨k, c, e, z.sameBut hs (cne y c e)⟩
  ·obtain ⟨w', z⟩ := I.cell y c e
   exact ⟨w', z.sameBut hs (cne y c e)⟩
  ·obtain ⟨e, n, ne, nf, d⟩ := I.pin p hp
   exact ⟨(hs.2 p.1 ne).trans e, n, ne, nf, d⟩
 ·have hfn : X.fn x = true := by
   rcases hf with z | z
   ·exact z
   ·rw [z] at hk; cases hk
  obtain ⟨c, hc⟩ := I.ok.has x (.inl hk)
  obtain ⟨w', z⟩ := I.cell x c hc
  refine wpAny_storeName_cell I.ok.kind hk hc z (fun h' hc' hs => ?_)
  obtain ⟨oc, hoc, hocd⟩ := id z
  refine h { s with heap := h' } ⟨I.ok, I.os, I.bare, ⟨fun b o e n hb hx => ?_, fun b o e n hb hx => ?_, I.base.free, fun b o e hx => ?_, I.base.tups, I.base.frzs, I.base.tbls⟩, ⟨m, hn.sameBut hs (Ne.symm (cne x c hc)), fun j y v' e1 e2 e3 => ?_⟩, fun y c' e => ?_, I.free, I.freeC, fun p hp => ?_, tracked ⟨oc, hoc, I.freeC x c hc⟩ hs, by simpa using I.len⟩ ⟨c, hs, .inr hc⟩
  ·exact (hs.2 b (Qq (QD (Qk e) (I.ok.cab x c hfn hc)))).trans (I.base.keep b o e n hb hx)
  ·obtain ⟨sl, e1⟩ := I.base.slot b o e n hb hx
   exact ⟨sl, (hs.2 b (Qq (QD (Qk e) (I.ok.cab x c hfn hc)))).trans e1⟩
  ·obtain ⟨o', e1⟩ := I.base.there b o e hx
   exact ⟨o', (hs.2 b (Qq (QD (Qk e) (I.ok.cab x c hfn hc)))).trans e1⟩
  ·by_cases hj : j = i
   ·subst hj
    rw [hi] at e1; cases e1
    rw [QA hiσ] at e2
    cases e2
    exact ⟨u, r, .inr ⟨.inl hk, c, hc, hc'⟩⟩
   ·rw [Qu (Ne.symm hj)] at e2
    obtain ⟨u', r', q⟩ := hl j y v' e1 e2 e3
    refine ⟨u', r', ?_⟩
    rcases q with q | ⟨k, c', e, z'⟩
    ·exact .inl q
    ·refine .inr ⟨k, c', e, z'.sameBut hs ?_⟩
     rintro rfl
     exact hj (zIj hN e1 (I.ok.inj _ _ _ e hc ▸ hi))
  ·by_cases hcc : c' = c
   ·subst hcc; exact ⟨_, hc'⟩
   ·obtain ⟨w2, z2⟩ := I.cell y c' e
    exact ⟨w2, z2.sameBut hs hcc⟩
  ·obtain ⟨e, n, ne, nf, d⟩ := I.pin p hp
   refine ⟨(hs.2 p.1 ?_).trans e, n, ne, nf, d⟩
   intro q
   rw [q, hoc] at e
   have q' : oc = p.2 := QJ e
   exact d w' (by rw [<- q']; exact hocd)
theorem zJg {M : Model} {A : Around} {E : Value -> Shared -> Prop} {i : Nat} {x : Str} {v : V} {u : Value} {Q : Unit -> Shared -> Prop} (I : Inv X pins σ H s) (hN : X.N.Nodup) (hi : X.N[i]? = some x) (hx : Loc X.env.scope x) (r : RelV v u)
  (h : ∀ s', Inv X pins (σ.set i (some v)) H s' -> Q () s') (hf : X.fn x = true ∨ X.env.scope.names.lookup x = some .local := by first | exact .inl rfl | exact .inr rfl | assumption) : wpAny M A (storeName X.env x u) Q E s :=
 zJh I hN hi hx r (fun s' I' _ => h s' I') hf
theorem Inv.call' {s' : Shared} {ch : List Addr} (I : Inv X pins σ H s) (ho : s'.os = s.os) (u : Un (frs X.stack) ch H H' s.heap s'.heap) (hok : HOk X.prog X.w H' s'.heap) (hg : AllBare s'.gens)
  (hch : ∀ b ∈ ch, (b ∈ X.ex ∨ X.s₀.heap.objs.size <= b) /\ b ≠ X.env.locals /\ (∀ x c, X.env.cells.lookup x = some c -> c ≠ b) /\ ∀ p ∈ X.pn ++ pins, p.1 ≠ b) : Inv X pins σ H' s' := by
 obtain ⟨h', g', d', t', o'⟩ := s'
 have e : o' = s.os := ho
 subst e
 exact I.call (g' := g') (t' := t') (d' := d') u hok hg hch
end
abbrev XK := Value -> Option Addr -> Hp -> Prop
abbrev St := List (Option V)
abbrev VK := V -> Hp -> Prop
abbrev TE := St -> Hp -> VK -> Prop
abbrev TT := St -> Hp -> (Bool -> Hp -> Prop) -> Prop
abbrev TA := St -> Hp -> (List V -> Hp -> Prop) -> Prop
structure Ends where
 nx : St -> Hp -> Prop
 rt : VK
 bk : St -> Hp -> Prop := fun _ _ => False
 ct : St -> Hp -> Prop := fun _ _ => False
abbrev TS := Ends -> St -> Hp -> Prop
noncomputable def EP (X : Cx) (pins : List (Addr × Obj)) (σ : St) (Q : VK) (u : Value) (s' : Shared) : Prop := ∃ v H', Inv X pins σ H' s' /\ RelV v u /\ Q v H'
noncomputable def TP (X : Cx) (pins : List (Addr × Obj)) (σ : St) (Q : Bool -> Hp -> Prop) (b : Bool) (s' : Shared) : Prop := ∃ H', Inv X pins σ H' s' /\ Q b H'
noncomputable def AP (X : Cx) (pins : List (Addr × Obj)) (σ : St) (Q : List V -> Hp -> Prop) (us : List Value) (s' : Shared) : Prop := ∃ vs H', Inv X pins σ H' s' /\ Vals vs us /\ Q vs H'
noncomputable def SP (X : Cx) (pins : List (Addr × Obj)) (D : Ends) (f : Flow) (s' : Shared) : Prop :=
 match f with
 | .next => ∃ σ' H', Inv X pins σ' H' s' /\ D.nx σ' H'
 | .brk => ∃ σ' H', Inv X pins σ' H' s' /\ D.bk σ' H'
 | .cont => ∃ σ' H', Inv X pins σ' H' s' /\ D.ct σ' H'
 | .ret u => ∃ v σ' H', Inv X pins σ' H' s' /\ RelV v u /\ D.rt v H'
noncomputable def PE (X : Cx) (e : Expr) (t : TE) : Prop :=
 ∀ (pins : List (Addr × Obj)) (s : Shared) (σ : St) (H : Hp) (Q : VK), Inv X pins σ H s -> t σ H Q -> wpAny (model X.prog X.w) X.A (eval e X.env) (EP X pins σ Q) X.xe s
noncomputable def PT (X : Cx) (e : Expr) (t : TT) : Prop :=
 ∀ (pins : List (Addr × Obj)) (s : Shared) (σ : St) (H : Hp) (Q : Bool -> Hp -> Prop), Inv X pins σ H s -> t σ H Q -> wpAny (model X.prog X.w) X.A (isTrue e X.env (eval e X.env)) (TP X pins σ Q) X.xe s
noncomputable def PW (X : Cx) (e : Expr) (t : TT) : Prop :=
 ∀ (whole : Sem Value) (pins : List (Addr × Obj)) (s : Shared) (σ : St) (H : Hp) (Q : Bool -> Hp -> Prop), Inv X pins σ H s -> t σ H Q -> wpAny (model X.prog X.w) X.A (isTrue e X.env whole) (TP X pins σ Q) X.xe s
theorem PW.pt {X : Cx} {e : Expr} {t : TT} (h : PW X e t) : PT X e t := h _
noncomputable def PA (X : Cx) (es : List Expr) (t : TA) : Prop :=
 ∀ (pos : Pos) (pins : List (Addr × Obj)) (s : Shared) (σ : St) (H : Hp) (Q : List V -> Hp -> Prop), Inv X pins σ H s -> t σ H Q -> wpAny (model X.prog X.w) X.A (spliced (backTo pos (starEach es X.env))) (AP X pins σ Q) X.xe s
noncomputable def PS (X : Cx) (st : Stmt) (t : TS) : Prop :=
 ∀ (pins : List (Addr × Obj)) (s : Shared) (σ : St) (H : Hp) (D : Ends), Inv X pins σ H s -> t D σ H -> wpAny (model X.prog X.w) X.A (exec st X.env) (SP X pins D) X.xe s
noncomputable def PSs (X : Cx) (st : List Stmt) (t : TS) : Prop :=
 ∀ (pins : List (Addr × Obj)) (s : Shared) (σ : St) (H : Hp) (D : Ends), Inv X pins σ H s -> t D σ H -> wpAny (model X.prog X.w) X.A (execs st X.env) (SP X pins D) X.xe s
theorem thn {α : Type} {t : Sem α} {Q Q' : α -> Shared -> Prop} {M : Model} {A : Around} {E : Value -> Shared -> Prop} {s : Shared} (h : wpAny M A t Q E s) (hQ : ∀ a s, Q a s -> Q' a s) : wpAny M A t Q' E s := YO h hQ fun _ _ x => x
end L2
namespace L2
open PySem PySem.Spec PyProof.Rows
section
variable {X : Cx}
noncomputable def tVar (i : Nat) : TE := fun σ H Q => ∃ v, σ[i]? = some (some v) /\ Q v H
noncomputable def tC (v : V) : TE := fun _ H Q => Q v H
theorem zDk {i : Nat} {x : Str} {pos : Pos} (hN : X.N[i]? = some x) (hv : Vis X.env.scope x) (hd : (x == ("__debug__" : Str)) = false := by decide) (hcd : (x == ("__classdict__" : Str)) = false := by decide) : PE X (.Name x pos) (tVar i) := by
 intro pins s σ H Q I h
 obtain ⟨v, e, h⟩ := h
 obtain ⟨m, hn, hl⟩ := I.loc
 obtain ⟨u, r, l⟩ := hl i x v hN e hv
 have fin : EP X pins σ Q u s := ⟨v, H, I, r, h⟩
 rcases l with ⟨hk, hm⟩ | ⟨hk, c, hc, hcell⟩
 ·exact wpAny_Name (wpAny_loadName_local I.ok.kind hk hn hm fin) hd
 ·rcases hk with hk | hk
  ·exact wpAny_Name (wpAny_loadName_cell I.ok.kind hk hc hcell fin) hd
  ·exact wpAny_Name (wpAny_loadName_free I.ok.kind hk hc hcell fin hcd) hd
theorem zMS {i j pos} : PE X (.Constant (.int i) j pos) (tC (.int i)) := fun _ _ _ H _ I h => wpAny_Constant_int ⟨.int i, H, I.tok _, ⟨_, rfl⟩, h⟩
theorem pe_bl {b j pos} : PE X (.Constant (.bool b) j pos) (tC (.bl b)) := fun _ _ _ H _ I h => Constant_bool ⟨.bl b, H, I, rfl, h⟩
noncomputable def Gl (X : Cx) (x : Str) : Prop := X.env.kindOf x = some .globalImplicit
theorem zLD {E : Value -> Shared -> Prop} {pins : List (Addr × Obj)} {s : Shared} {σ : St} {H : Hp} {x : Str} {u : Value} {pos : Pos} {Q : Value -> Shared -> Prop} (I : Inv X pins σ H s) (hg : Gl X x) (hm : X.mg x = some u) (h : Q u s)
  (hd : (x == ("__debug__" : Str)) = false := by decide) : wpAny (model X.prog X.w) X.A (eval (.Name x pos) X.env) Q E s :=
 Calls.Name_function_global I.ok.kind hg (Calls.loadGlobal_global (by rw [I.ok.glob]; exact I.mod.glob.keeps I.bk) hm h) hd
theorem zBU {E : Value -> Shared -> Prop} {pins : List (Addr × Obj)} {s : Shared} {σ : St} {H : Hp} {x : Str} {u : Value} {pos : Pos} {Q : Value -> Shared -> Prop} (I : Inv X pins σ H s) (hg : Gl X x) (hm : X.mg x = none) (hv : bootBuiltins x = some u) (h : Q u s)
  (hn : x ≠ "__name__" := by decide) (hd : (x == ("__debug__" : Str)) = false := by decide) : wpAny (model X.prog X.w) X.A (eval (.Name x pos) X.env) Q E s := by
 obtain ⟨mb, h1, h2⟩ := I.mod.blt
 exact Calls.Name_function_global I.ok.kind hg (Calls.loadGlobal_builtin (by rw [I.ok.glob]; exact I.mod.glob.keeps I.bk) hm (by rw [I.ok.blt]; exact h1.keeps I.bk) ((h2 x hn).trans hv) h) hd
theorem zMJ {x : Str} {v : V} {u : Value} {pos : Pos} (hg : Gl X x) (hm : X.mg x = none) (hv : bootBuiltins x = some u) (r : RelV v u) (hn : x ≠ "__name__" := by decide) (hd : (x == ("__debug__" : Str)) = false := by decide) : PE X (.Name x pos) (tC v) :=
 fun _ _ _ H _ I h => zBU I hg hm hv ⟨v, H, I, r, h⟩ hn hd
variable {a b : Expr} {ta tb : TE} {pos : Pos}
noncomputable def tB (t : TE) : TT := fun σ H Q => t σ H fun x H1 => ∃ c, x = .bl c /\ Q c H1
theorem zNm {e : Expr} {t : TE} (h : PE X e t) (he : ∀ whole, isTrue e X.env whole = (do let v <- whole; standAt e.pos; holding [v] (truthy v)) := by intro _; rfl) : PT X e (tB t) := by
 intro pins s σ H Q I hw
 refine isTrue_plain (thn (h pins s σ H _ I hw) fun v s1 ⟨x, H1, I1, r1, q1⟩ => ?_) (he _)
 obtain ⟨d, rfl, q⟩ := q1
 cases r1
 exact Y5 ⟨H1, I1, q⟩
variable {tA tB' : TT} {rest : List Expr}
noncomputable def tAnd (t u : TT) : TT := fun σ H Q => t σ H fun c H1 => if c = true then u σ H1 Q else Q false H1
noncomputable def tOr (t u : TT) : TT := fun σ H Q => t σ H fun c H1 => if c = true then Q true H1 else u σ H1 Q
noncomputable def tNot (t : TT) : TT := fun σ H Q => t σ H fun c H1 => Q (!c) H1
theorem zNr (ha : PT X a tA) : PW X (.BoolOp .And [a] pos) tA := by
 intro wh pins s σ H Q I h
 refine isTrue_and (thn (ha pins s σ H Q I h) fun c s1 e => ?_)
 cases c with
 | true => exact isTrue_and_nil e
 | false => exact e
theorem zNs (ha : PT X a tA) : PW X (.BoolOp .Or [a] pos) tA := by
 intro wh pins s σ H Q I h
 refine isTrue_or (thn (ha pins s σ H Q I h) fun c s1 e => ?_)
 cases c with
 | false => exact isTrue_or_nil e
 | true => exact e
theorem zNq (ha : PT X a tA) (hb : PW X (.BoolOp .And (b :: rest) pos) tB') : PW X (.BoolOp .And (a :: b :: rest) pos) (tAnd tA tB') := by
 intro wh pins s σ H Q I h
 refine isTrue_and (thn (ha pins s σ H _ I h) fun c s1 zz => ?_)
 obtain ⟨H1, I1, q1⟩ := zz
 cases c with
 | true => exact hb wh pins s1 σ H1 Q I1 q1
 | false => exact ⟨H1, I1, q1⟩
theorem pw_or (ha : PT X a tA) (hb : PW X (.BoolOp .Or (b :: rest) pos) tB') : PW X (.BoolOp .Or (a :: b :: rest) pos) (tOr tA tB') := by
 intro wh pins s σ H Q I h
 refine isTrue_or (thn (ha pins s σ H _ I h) fun c s1 zz => ?_)
 obtain ⟨H1, I1, q1⟩ := zz
 cases c with
 | true => exact ⟨H1, I1, q1⟩
 | false => exact hb wh pins s1 σ H1 Q I1 q1
theorem zNl (ha : PT X a tA) : PT X (.UnaryOp .Not a pos) (tNot tA) := by
 intro pins s σ H Q I h
 exact isTrue_not (ha pins s σ H (fun c H1 => Q (!c) H1) I h)
noncomputable def tAndV (ta tb : TE) : TE := fun σ H Q => ta σ H fun x H1 => ∃ c, x = .bl c /\ if c = true then tb σ H1 Q else Q (.bl false) H1
noncomputable def tNotV (ta : TE) : TE := fun σ H Q => ta σ H fun x H1 => ∃ c, x = .bl c /\ Q (.bl (!c)) H1
theorem zMV {op} {t : TE} (h : PE X a t) : PE X (.BoolOp op [a] pos) t := fun pins s σ H Q I hw => BoolOp_one (h pins s σ H Q I hw)
theorem zMI (ha : PE X a ta) (hb : PE X (.BoolOp .And (b :: rest) pos) tb) : PE X (.BoolOp .And (a :: b :: rest) pos) (tAndV ta tb) := by
 intro pins s σ H Q I h
 refine BoolOp_and (thn (ha pins s σ H _ I h) fun v s1 zz => ?_)
 obtain ⟨x, H1, I1, r1, q1⟩ := zz
 obtain ⟨c, rfl, q1⟩ := q1
 cases r1
 refine Y5 ?_
 cases c with
 | true => exact hb pins s1 σ H1 Q I1 q1
 | false => exact ⟨.bl false, H1, I1, rfl, q1⟩
theorem zMU (ha : PE X a ta) : PE X (.UnaryOp .Not a pos) (tNotV ta) := by
 intro pins s σ H Q I h
 refine UnaryOp_ (thn (ha pins s σ H _ I h) fun v s1 zz => ?_)
 obtain ⟨x, H1, I1, r1, q1⟩ := zz
 obtain ⟨c, rfl, q1⟩ := q1
 cases r1
 exact not_of (Y5 ⟨.bl (!c), H1, I1, rfl, q1⟩)
noncomputable def tIf (t : TT) (ta tb : TE) : TE := fun σ H Q => t σ H fun c H1 => if c = true then ta σ H1 Q else tb σ H1 Q
theorem zMR {c : Expr} (hc : PT X c tA) (ha : PE X a ta) (hb : PE X b tb) : PE X (.IfExp c a b pos) (tIf tA ta tb) := by
 intro pins s σ H Q I h
 refine wpAny_IfExp (thn (hc pins s σ H _ I h) fun d s1 zz => ?_)
 obtain ⟨H1, I1, q1⟩ := zz
 cases d with
 | true => exact ha pins s1 σ H1 Q I1 q1
 | false => exact hb pins s1 σ H1 Q I1 q1
end
end L2
namespace L2
open PySem PySem.Spec PyProof.Rows
noncomputable def SqL (K : PySem.W.Frag) (H : Hp) (a : Addr) (xs : List V) : Prop :=
 Rd H a (.lst xs) ∨
  ∃ (o : Obj) (its : Array Value) (n : Nat), K.lookup a = some o /\ o.cls = .type "list" /\ o.dict = none /\ o.data = .seq its n /\ its.size <= sizeLine /\ Vals xs its.toList
noncomputable def SqT (K : PySem.W.Frag) (H : Hp) (a : Addr) (xs : List V) : Prop :=
 Rd H a (.tup xs) ∨
  ∃ (o : Obj) (its : Array Value) (n : Nat), K.lookup a = some o /\ o.cls = .type "tuple" /\ o.data = .seq its n /\ its.size <= sizeLine /\ Vals xs its.toList
noncomputable def absV : Value -> Option V
 | .none => some .non
 | .bool b => some (.bl b)
 | .int i _ => some (.int i)
 | .str x _ => some (.str x)
 | .bytes b _ => some (.byt b)
 | .float b _ => some (.flt b)
 | .ref a => some (.ref a)
 | .type n => some (.ty n)
 | _ => none
theorem RelV.abs {x : V} {u : Value} (r : RelV x u) : absV u = some x := by
 cases x with
 | non => cases r; rfl
 | bl _ => cases r; rfl
 | int _ => obtain ⟨t, rfl⟩ := r; rfl
 | str _ => obtain ⟨t, rfl⟩ := r; rfl
 | byt _ => obtain ⟨t, rfl⟩ := r; rfl
 | flt _ => obtain ⟨t, rfl⟩ := r; rfl
 | ref _ => cases r; rfl
 | ty _ => cases r; rfl
theorem RelV.inj {x y : V} {u : Value} (r : RelV x u) (q : RelV y u) : x = y := QJ (r.abs.symm.trans q.abs)
theorem Vals.inj : ∀ {xs ys : List V} {us : List Value}, Vals xs us -> Vals ys us -> xs = ys
 | _, _, _, .nil, .nil => rfl
 | _, _, _, .cons r t, .cons r' t' => by rw [r.inj r', Vals.inj t t']
section
variable {X : Cx} {pins : List (Addr × Obj)} {σ : St} {H : Hp} {s : Shared} {a : Addr} {xs ys : List V}
theorem SqL.of {K : PySem.W.Frag} (h : H a = some (.lst xs)) : SqL K H a xs := .inl (.inl h)
theorem Inv.list (I : Inv X pins σ H s) (h : SqL X.K H a xs) : ∃ its : List Value, Vals xs its /\ PlainL s.heap a its.toArray /\ xs.length <= sizeLine := by
 rcases h with h | ⟨o, its, n, hk, hc, hd, hs, hz, r⟩
 ·obtain ⟨z, its, n, r, e⟩ := h.ok I.hok
  exact ⟨its, r, ⟨_, n, e, rfl, rfl, rfl⟩, z⟩
 ·refine ⟨its.toList, r, ⟨o, n, I.kIn a o hk, hc, hd, by simpa using hs⟩, ?_⟩
  have e := r.length
  simp only [Qo] at e
  lia
theorem Inv.tuple (I : Inv X pins σ H s) (h : SqT X.K H a xs) : ∃ its : List Value, Vals xs its /\ IsTup s.heap a its.toArray /\ xs.length <= sizeLine := by
 rcases h with h | ⟨o, its, n, hk, hc, hs, hz, r⟩
 ·obtain ⟨z, its, r, p⟩ := h.ok I.hok
  exact ⟨its, r, p, z⟩
 ·refine ⟨its.toList, r, ⟨o, I.kIn a o hk, hc, n, by simpa using hs⟩, ?_⟩
  have e := r.length
  simp only [Qo] at e
  lia
theorem Inv.list_inj (I : Inv X pins σ H s) (h : SqL X.K H a xs) (h' : SqL X.K H a ys) : xs = ys := by
 obtain ⟨its, r, ⟨o, n, e, _, _, d⟩, _⟩ := I.list h
 obtain ⟨its', r', ⟨o', n', e', _, _, d'⟩, _⟩ := I.list h'
 rw [e] at e'; cases e'
 rw [d] at d'
 injection d' with d1 _
 have : its = its' := by simpa using congrArg Array.toList d1
 subst this
 exact r.inj r'
theorem Inv.tuple_inj (I : Inv X pins σ H s) (h : SqT X.K H a xs) (h' : SqT X.K H a ys) : xs = ys := by
 obtain ⟨its, r, ⟨o, e, _, n, d⟩, _⟩ := I.tuple h
 obtain ⟨its', r', ⟨o', e', _, n', d'⟩, _⟩ := I.tuple h'
 rw [e] at e'; cases e'
 rw [d] at d'
 injection d' with d1 _
 have : its = its' := by simpa using congrArg Array.toList d1
 subst this
 exact r.inj r'
end
abbrev Cx.wish (X : Cx) (E : Value -> Shared -> Prop) : Cx := { X with xe := E }
abbrev Cx.nox (X : Cx) : Cx := X.wish fun _ _ => False
theorem Cx.Ok.wish {X : Cx} (ok : X.Ok) (E : Value -> Shared -> Prop) : (X.wish E).Ok :=
 ⟨ok.mod, ok.kind, ok.glob, ok.blt, ok.above, ok.inj, ok.has, ok.cab, ok.hd, ok.frames, ok.stk, ok.exf, ok.bs, ok.bsz, ok.noex, ok.exfs, ok.funs, ok.frf⟩
theorem Cx.Ok.unwish {X : Cx} {E : Value -> Shared -> Prop} (ok : (X.wish E).Ok) : X.Ok :=
 ⟨ok.mod, ok.kind, ok.glob, ok.blt, ok.above, ok.inj, ok.has, ok.cab, ok.hd, ok.frames, ok.stk, ok.exf, ok.bs, ok.bsz, ok.noex, ok.exfs, ok.funs, ok.frf⟩
section
variable {X : Cx} {pins : List (Addr × Obj)} {σ : St} {H : Hp} {s : Shared} {E : Value -> Shared -> Prop}
theorem Inv.wish (I : Inv X pins σ H s) (E : Value -> Shared -> Prop) : Inv (X.wish E) pins σ H s := ⟨I.ok.wish E, I.os, I.bare, I.base, I.loc, I.cell, I.free, I.freeC, I.pin, I.hok, I.len⟩
theorem Inv.unwish (I : Inv (X.wish E) pins σ H s) : Inv X pins σ H s := ⟨I.ok.unwish, I.os, I.bare, I.base, I.loc, I.cell, I.free, I.freeC, I.pin, I.hok, I.len⟩
theorem SP.unwish {D : Ends} {f : Flow} {s' : Shared} (h : SP (X.wish E) pins D f s') : SP X pins D f s' := by
 cases f with
 | next => obtain ⟨σ', H', I, q⟩ := h; exact ⟨σ', H', I.unwish, q⟩
 | brk => obtain ⟨σ', H', I, q⟩ := h; exact ⟨σ', H', I.unwish, q⟩
 | cont => obtain ⟨σ', H', I, q⟩ := h; exact ⟨σ', H', I.unwish, q⟩
 | ret u => obtain ⟨v, σ', H', I, r, q⟩ := h; exact ⟨v, σ', H', I.unwish, r, q⟩
theorem PSs.nox {st : List Stmt} {t : TS} (h : PSs X.nox st t) : PSs X st t := fun pins s σ H D I hw =>
 YO (h pins s σ H D (I.wish _) hw) (fun _ _ q => q.unwish) fun _ _ z => False.elim z
end
section
variable {X : Cx} {st : Stmt} {rest : List Stmt} {t u : TS} {e : Expr} {te : TE} {pos : Pos}
noncomputable def tNext : TS := fun D σ H => D.nx σ H
noncomputable def tSeq (t u : TS) : TS := fun D σ H => t { D with nx := u D } σ H
theorem zNh : PSs X [] tNext := fun _ _ σ H _ I h => wpAny_execs_nil ⟨σ, H, I, h⟩
theorem zNg (h1 : PS X st t) (h2 : PSs X rest u) : PSs X (st :: rest) (tSeq t u) := by
 intro pins s σ H D I h
 refine wpAny_execs_cons (thn (h1 pins s σ H { D with nx := u D } I h) fun f s1 q => ?_)
 cases f with
 | next =>
  obtain ⟨σ', H', I', q⟩ := q
  exact h2 pins s1 σ' H' D I' q
 | ret v => exact q
 | brk => exact q
 | cont => exact q
theorem zNi (h1 : PS X st t) : PSs X [st] t := by
 intro pins s σ H D I h
 refine wpAny_execs_cons (thn (h1 pins s σ H D I h) fun f s1 q => ?_)
 cases f with
 | next => exact wpAny_execs_nil q
 | ret v => exact q
 | brk => exact q
 | cont => exact q
theorem Inv.quiet {pins : List (Addr × Obj)} {σ : St} {H : Hp} {s : Shared} (I : Inv X pins σ H s) : interactive X.env = false := by simp [interactive, I.ok.kind]
noncomputable def tDrop (te : TE) : TS := fun D σ H => te σ H fun _ H1 => D.nx σ H1
theorem zD6 (he : PE X e te) (hs : swapsWith e none pos.line X.env = pure false := by rfl) : PS X (.Expr e pos) (tDrop te) := by
 intro pins s σ H D I h
 exact wpAny_Expr_any (thn (he pins s σ H _ I h) fun v s1 ⟨x, H1, I1, r1, q1⟩ => ⟨σ, H1, I1, q1⟩) I.quiet hs
noncomputable def tRet (te : TE) : TS := fun D σ H => te σ H D.rt
theorem zIG (he : PE X e te) : PS X (.Return (some e) pos) (tRet te) := by
 intro pins s σ H D I h
 exact wpAny_Return_some (thn (he pins s σ H _ I h) fun v s1 ⟨x, H1, I1, r1, q1⟩ => ⟨x, σ, H1, I1, r1, q1⟩)
noncomputable def tIfS (c : TT) (t u : TS) : TS := fun D σ H => c σ H fun b H1 => if b = true then t D σ H1 else u D σ H1
theorem ps_if {c : Expr} {a b : List Stmt} {tc : TT} (hc : PT X c tc) (ha : PSs X a t) (hb : PSs X b u) : PS X (.If c a b pos) (tIfS tc t u) := by
 intro pins s σ H D I h
 refine wpAny_If (thn (hc pins s σ H _ I h) fun d s1 zz => ?_)
 obtain ⟨H1, I1, q1⟩ := zz
 cases d with
 | true => exact ha pins s1 σ H1 D I1 q1
 | false => exact hb pins s1 σ H1 D I1 q1
end
abbrev TG := V -> St -> Hp -> (St -> Hp -> Prop) -> Prop
abbrev TGs := List V -> St -> Hp -> (St -> Hp -> Prop) -> Prop
noncomputable def PG (X : Cx) (target : Expr) (t : TG) : Prop :=
 ∀ (pins : List (Addr × Obj)) (s : Shared) (σ : St) (H : Hp) (v : V) (u : Value) (Q : St -> Hp -> Prop), Inv X pins σ H s -> RelV v u -> t v σ H Q ->
  wpAny (model X.prog X.w) X.A (assign target X.env u) (fun _ s' => ∃ σ' H', Inv X pins σ' H' s' /\ Q σ' H') X.xe s
noncomputable def PGs (X : Cx) (ts : List Expr) (t : TGs) : Prop :=
 ∀ (pins : List (Addr × Obj)) (s : Shared) (σ : St) (H : Hp) (vs : List V) (us : List Value) (Q : St -> Hp -> Prop), Inv X pins σ H s -> Vals vs us -> t vs σ H Q ->
  wpAny (model X.prog X.w) X.A (assignInOrder ((assignEach ts X.env).map (·.2)) us) (fun _ s' => ∃ σ' H', Inv X pins σ' H' s' /\ Q σ' H') X.xe s
section
variable {X : Cx} {pos : Pos}
noncomputable def zDM (i : Nat) : TG := fun v σ H Q => Q (σ.set i (some v)) H
theorem zM0 {i : Nat} {x : Str} (hN : X.N.Nodup) (hi : X.N[i]? = some x) (hx : Loc X.env.scope x) (hf : X.fn x = true ∨ X.env.scope.names.lookup x = some .local := by first | exact .inl rfl | exact .inr rfl | assumption) : PG X (.Name x pos) (zDM i) := by
 intro pins s σ H v u Q I r h
 exact wpAny_assign_Name (zJg I hN hi hx r (fun s' I' => ⟨_, H, I', h⟩) hf)
noncomputable def gNil : TGs := fun vs σ H Q => vs = [] /\ Q σ H
noncomputable def gCons (t : TG) (u : TGs) : TGs := fun vs σ H Q => ∃ v r, vs = v :: r /\ t v σ H fun σ' H' => u r σ' H' Q
theorem zM3 : PGs X [] gNil := by
 intro pins s σ H vs us Q I r h
 obtain ⟨e, h⟩ := h
 subst e
 cases r
 exact assignInOrder_nil ⟨σ, H, I, h⟩
theorem zM2 {e : Expr} {es : List Expr} {t : TG} {u : TGs} (h1 : PG X e t) (h2 : PGs X es u)
  (hs : (assignEach (e :: es) X.env).map (·.2) = assign e X.env :: (assignEach es X.env).map (·.2) := by rfl) : PGs X (e :: es) (gCons t u) := by
 intro pins s σ H vs us Q I r h
 obtain ⟨v, vr, e1, h⟩ := h
 subst e1
 cases r with
 | cons r rr =>
  rw [hs]
  refine assignInOrder_cons (thn (h1 pins s σ H _ _ _ I r h) fun _ s1 zz => ?_)
  obtain ⟨σ1, H1, I1, q1⟩ := zz
  exact h2 pins s1 σ1 H1 _ _ Q I1 rr q1
noncomputable def gTup (K : PySem.W.Frag) (n : Nat) (t : TGs) : TG := fun v σ H Q => ∃ a xs, v = .ref a /\ SqT K H a xs /\ xs.length = n /\ t xs σ H Q
theorem zM1 {es : List Expr} {k : Nat} {t : TGs} {n : Nat} (hc : X.calm = true) (h : PGs X es t)
  (hn : (assignEach es X.env).length = n := by rfl) (hst : (assignEach es X.env).findIdx? (·.1) = none := by rfl) : PG X (.Tuple es k pos) (gTup X.K n t) := by
 intro pins s σ H v u Q I r hw
 obtain ⟨a, xs, e1, hq, hl, hw⟩ := hw
 subst e1
 cases r
 obtain ⟨its, rv, ht, hz⟩ := I.tuple hq
 refine assign_Tuple_tuple (I.ok.hd hc) ht (by simp [hn, <- hl, rv.length]) hst fun h' hx => ?_
 have I1 : Inv X pins σ H { s with heap := h' } := I.kept (t' := s.toks) fun b o e => hx b o (Qq (Qk e)) e
 exact h pins _ σ H xs _ Q I1 (by simpa using rv) hw
noncomputable def tAsg (te : TE) (g : TG) : TS := fun D σ H => te σ H fun x H1 => g x σ H1 D.nx
theorem zDn {i : Nat} {x : Str} {e : Expr} {te : TE} {pos' : Pos} (hN : X.N.Nodup) (hi : X.N[i]? = some x) (hx : Loc X.env.scope x) (he : PE X e te) (hs : swapsWith e (some (.Name x pos')) pos.line X.env = pure false := by rfl) (hf : X.fn x = true ∨ X.env.scope.names.lookup x = some .local := by first | exact .inl rfl | exact .inr rfl | assumption) :
  PS X (.Assign [.Name x pos'] e pos) (tAsg te (zDM i)) := by
 intro pins s σ H D I h
 refine wpAny_Assign_Name (thn (he pins s σ H _ I h) fun v s1 ⟨y, H1, I1, r1, q1⟩ => ?_) hs
 exact zJg I1 hN hi hx r1 (fun s2 I2 => ⟨_, H1, I2, q1⟩) hf
end
section
variable {X : Cx} {pos : Pos}
noncomputable def zN6 (c : TT) (tb : TS) : TS := fun D σ H => ∃ W : Nat -> St -> Hp -> Prop, (∃ m, W m σ H) /\ ∀ m σ H, W m σ H ->
 c σ H fun b H1 => if b = true then ∃ N : St -> Hp -> Prop, (∀ σ' H', N σ' H' -> ∃ m', m' < m /\ W m' σ' H') /\ tb { D with nx := N, ct := N, bk := D.nx } σ H1 else D.nx σ H1
theorem zNf {c : Expr} {body : List Stmt} {tc : TT} {tb : TS} (hp : PassesOwn (model X.prog X.w) X.A X.env X.xe) (hc : PT X c tc) (hb : PSs X body tb) : PS X (.While c body [] pos) (zN6 tc tb) := by
 intro pins s σ H D I h
 obtain ⟨W, ⟨m0, w0⟩, turn⟩ := h
 refine wpAny_While (codeAny_whileLoop (fun n s' => ∃ σ' H', Inv X pins σ' H' s' /\ W n σ' H') ?_ m0 ⟨σ, H, I, w0⟩)
 rintro n s1 ⟨σ1, H1, I1, w1⟩
 refine Y3 hp (thn (hc pins s1 σ1 H1 _ I1 (turn n σ1 H1 w1)) fun b s2 zz => ?_)
 obtain ⟨H2, I2, q2⟩ := zz
 cases b with
 | true =>
  obtain ⟨N, hN, q2⟩ := q2
  rw [if_pos rfl]
  refine Y3 hp (thn (hb pins s2 σ1 H2 _ I2 q2) fun f s3 q3 => ?_)
  cases f with
  | next =>
   obtain ⟨σ3, H3, I3, n3⟩ := q3
   obtain ⟨m', hm, w3⟩ := hN σ3 H3 n3
   exact ⟨m', hm, σ3, H3, I3, w3⟩
  | cont =>
   obtain ⟨σ3, H3, I3, n3⟩ := q3
   obtain ⟨m', hm, w3⟩ := hN σ3 H3 n3
   exact ⟨m', hm, σ3, H3, I3, w3⟩
  | brk => exact q3
  | ret v => exact q3
 | false =>
  rw [if_neg Qs]
  exact wpAny_execs_nil ⟨σ1, H2, I2, q2⟩
end
structure It where
 go : Nat -> Hp -> Prop
 yld : Nat -> Hp -> V -> Hp -> Prop
 stop : Nat -> Hp -> Prop
noncomputable def FpOk (X : Cx) (pins : List (Addr × Obj)) (H : Hp) (b : Addr) : Prop :=
 H b = none /\ b ≠ X.env.locals /\ b ∉ X.fs /\ (b ∈ X.ex ∨ X.s₀.heap.objs.size <= b) /\ (∀ x c, X.env.cells.lookup x = some c -> c ≠ b) /\ ∀ p ∈ X.pn ++ pins, p.1 ≠ b
theorem Inv.fpOk {X : Cx} {pins : List (Addr × Obj)} {σ : St} {H H' : Hp} {s : Shared} {b : Addr} (I : Inv X pins σ H s) (hb : s.heap.objs.size <= b) (hn : H' b = none) : FpOk X pins H' b := by
 refine ⟨hn, YK (QD I.lt hb), I.nofs hb, .inr (Qt I.sz hb), fun x c e z => ?_, fun p hp z => ?_⟩
 ·obtain ⟨v, q⟩ := I.cell x c e
  exact absurd (QD q.lt (by rw [z]; exact hb)) (YV _)
 ·exact absurd (QD (Qk (I.pin p hp).1) (by rw [z]; exact hb)) (YV _)
structure Turn (P : Program) (w : World) (K : PySem.W.Frag) (tg : Expr) (J : It) (fp : List Addr) (it : Addr) (tn : Nat -> Heap -> Prop) : Prop where
 mem : it ∈ fp
 obj : ∀ i h, tn i h -> ∀ b ∈ fp, ∃ o, h.get? b = some o /\ ∀ v, o.data ≠ .cell v
 keep : ∀ i h h', tn i h -> (∀ b ∈ fp, ∀ o, h.get? b = some o -> h'.get? b = some o) -> tn i h'
 item : ∀ (X : Cx), X.prog = P -> X.w = w -> X.K = K -> X.calm = true -> ∀ (i : Nat) (pins : List (Addr × Obj)) (s : Shared) (σ : St) (H : Hp) (E : Value -> Shared -> Prop), Inv X pins σ H s -> (∀ b ∈ fp, FpOk X pins H b) -> tn i s.heap -> J.go i H ->
  wpAny (model P w) X.A (pyNext (.ref it)) (fun r s1 => ∃ u, r = some u /\
   wpAny (model P w) X.A (letOwnedTupleGo tg (.ref it) u) (fun _ s2 => ∃ x H', Inv X pins σ H' s2 /\ RelV x u /\ J.yld i H x H' /\ tn (i + 1) s2.heap /\ ∀ b ∈ fp, H' b = none) E s1) E s
 done : ∀ (X : Cx), X.prog = P -> X.w = w -> X.K = K -> X.calm = true -> ∀ (i : Nat) (pins : List (Addr × Obj)) (s : Shared) (σ : St) (H : Hp) (E : Value -> Shared -> Prop), Inv X pins σ H s -> (∀ b ∈ fp, FpOk X pins H b) -> tn i s.heap -> J.stop i H ->
  wpAny (model P w) X.A (pyNext (.ref it)) (fun r s1 => r = none /\ Inv X pins σ H s1) E s
 self : ∀ (A : Around) (i : Nat) (s : Shared) (Q : Value -> Shared -> Prop) (E : Value -> Shared -> Prop), tn i s.heap -> Q (.ref it) s -> wpAny (model P w) A (pyIter (.ref it)) Q E s
abbrev TI := St -> Hp -> (It -> Hp -> Prop) -> Prop
noncomputable def PIE (X : Cx) (pins : List (Addr × Obj)) (σ : St) (tg : Expr) (R : It -> Hp -> Prop) (itv : Value) (s2 : Shared) : Prop :=
 ∃ (it : Addr) (fp : List Addr) (tn : Nat -> Heap -> Prop) (J : It) (H' : Hp), itv = .ref it /\ Inv X pins σ H' s2 /\ Turn X.prog X.w X.K tg J fp it tn /\ tn 0 s2.heap /\ (∀ b ∈ fp, FpOk X pins H' b) /\ R J H'
noncomputable def PI (X : Cx) (tg iter : Expr) (wi : TI) : Prop :=
 ∀ (pins : List (Addr × Obj)) (s : Shared) (σ : St) (H : Hp) (R : It -> Hp -> Prop), Inv X pins σ H s -> wi σ H R ->
  wpAny (model X.prog X.w) X.A (eval iter X.env) (fun v s1 => wpAny (model X.prog X.w) X.A (pyIter v) (PIE X pins σ tg R) X.xe s1) X.xe s
theorem zFm {M : Model} {A : Around} {E : Value -> Shared -> Prop} {s : Shared} {tg : Expr} {it : Addr} {u : Value} {o : Obj} {n : String} {vs : Array Value} {Q : Unit -> Shared -> Prop} (ho : s.heap.get? it = some o) (hc : o.cls = .type n) (hd : o.data = .fields vs)
  (hn : ["enumerate", "zip", "dict_itemiterator", "dict_reverseitemiterator", "odict_iterator", "itertools.zip_longest", "itertools.pairwise"].contains n = false) (hQ : Q () s) : wpAny M A (letOwnedTupleGo tg (.ref it) u) Q E s := by
 unfold letOwnedTupleGo
 cases tg <;> first
  | exact Qb hQ
  | (cases u <;> first
    | exact Qb hQ
    | (refine Qa (wpAny_load ho ?_)
       rw [hc, hd]
       show wpAny M A (if (["enumerate", "zip", "dict_itemiterator", "dict_reverseitemiterator", "odict_iterator", "itertools.zip_longest", "itertools.pairwise"].contains n && vs[0]? == some (rawInt _)) = true then _ else _) Q E s
       rw [if_neg (by intro h; rw [hn, Bool.false_and] at h; cases h)]
       exact Qb hQ))
noncomputable def Itl (K : PySem.W.Frag) (a : Addr) : It :=
 ⟨fun i H => ∃ xs x, SqL K H a xs /\ xs[i]? = some x, fun i H x H' => H' = H /\ ∀ xs, SqL K H a xs -> xs[i]? = some x, fun i H => ∃ xs, SqL K H a xs /\ xs.length <= i⟩
noncomputable def Itt (K : PySem.W.Frag) (a : Addr) : It :=
 ⟨fun i H => ∃ xs x, SqT K H a xs /\ xs[i]? = some x, fun i H x H' => H' = H /\ ∀ xs, SqT K H a xs -> xs[i]? = some x, fun i H => ∃ xs, SqT K H a xs /\ xs.length <= i⟩
noncomputable def Itr (lo : Int) (n : Nat) : It := ⟨fun i _ => i < n, fun i H x H' => H' = H /\ x = .int (lo + i), fun i _ => n <= i⟩
theorem zOb {P : Program} {w : World} {K : PySem.W.Frag} {tg : Expr} (a it : Addr) : Turn P w K tg (Itl K a) [it] it (fun i h => h.IsListIter it a i) where
 mem := by simp
 obj := fun i h st b hb => by
  have e : b = it := by simpa using hb
  subst e
  obtain ⟨o, e, c, d⟩ := st
  exact ⟨o, e, fun v z => by rw [d] at z; cases z⟩
 keep := fun i h h' st k => st.at fun o e => k it (by simp) o e
 item := by
  intro X hP hw hK hc i pins s σ H E I hf st hg
  subst hP hw hK
  obtain ⟨xs, x, hq, hx⟩ := hg
  obtain ⟨its, rv, p, hz⟩ := I.list hq
  obtain ⟨u, hu, ru⟩ := rv.get hx
  obtain ⟨f0, f1, f2, f3, f4, f5⟩ := hf it (by simp)
  refine wpAny_pyNext_list_item st p.isList (x := u) (by simpa using hu) fun h' st' sb => ?_
  have I1 : Inv X pins σ H { s with heap := h' } := I.turned (t' := s.toks) (fun b o hb e => (sb.2 b hb).trans e) f0 f1 f3 f4 f5
  obtain ⟨o, e, c, d⟩ := id st'
  exact ⟨u, rfl, zFm (s := { s with heap := h' }) e c d (by decide) ⟨x, H, I1, ru, ⟨rfl, fun ys hy => by rw [I.list_inj hy hq]; exact hx⟩, st', fun b hb => (hf b hb).1⟩⟩
 done := by
  intro X hP hw hK hc i pins s σ H E I hf st hg
  subst hP hw hK
  obtain ⟨xs, hq, hx⟩ := hg
  obtain ⟨its, rv, p, hz⟩ := I.list hq
  obtain ⟨f0, f1, f2, f3, f4, f5⟩ := hf it (by simp)
  have hl := rv.length
  exact wpAny_pyNext_list_end (I.ok.hd hc) st p.isList (by simp; lia) fun h' eb => ⟨rfl, I.turned (t' := s.toks) (fun b o hb e => eb b o hb e) f0 f1 f3 f4 f5⟩
 self := fun _ _ _ _ _ st h => wpAny_pyIter_listiter st h
theorem zOd {P : Program} {w : World} {K : PySem.W.Frag} {tg : Expr} (a it : Addr) : Turn P w K tg (Itt K a) [it] it (fun i h => h.IsTupleIter it a i) where
 mem := by simp
 obj := fun i h st b hb => by
  have e : b = it := by simpa using hb
  subst e
  obtain ⟨o, e, c, d⟩ := st
  exact ⟨o, e, fun v z => by rw [d] at z; cases z⟩
 keep := fun i h h' st k => st.at fun o e => k it (by simp) o e
 item := by
  intro X hP hw hK hc i pins s σ H E I hf st hg
  subst hP hw hK
  obtain ⟨xs, x, hq, hx⟩ := hg
  obtain ⟨its, rv, p, hz⟩ := I.tuple hq
  obtain ⟨u, hu, ru⟩ := rv.get hx
  obtain ⟨f0, f1, f2, f3, f4, f5⟩ := hf it (by simp)
  refine wpAny_pyNext_tuple_item st (show s.heap.IsTuple a its.toArray from p) (x := u) (by simpa using hu) fun h' st' sb => ?_
  have I1 : Inv X pins σ H { s with heap := h' } := I.turned (t' := s.toks) (fun b o hb e => (sb.2 b hb).trans e) f0 f1 f3 f4 f5
  obtain ⟨o, e, c, d⟩ := id st'
  exact ⟨u, rfl, zFm (s := { s with heap := h' }) e c d (by decide) ⟨x, H, I1, ru, ⟨rfl, fun ys hy => by rw [I.tuple_inj hy hq]; exact hx⟩, st', fun b hb => (hf b hb).1⟩⟩
 done := by
  intro X hP hw hK hc i pins s σ H E I hf st hg
  subst hP hw hK
  obtain ⟨xs, hq, hx⟩ := hg
  obtain ⟨its, rv, p, hz⟩ := I.tuple hq
  obtain ⟨f0, f1, f2, f3, f4, f5⟩ := hf it (by simp)
  have hl := rv.length
  exact wpAny_pyNext_tuple_end (I.ok.hd hc) st (show s.heap.IsTuple a its.toArray from p) (by simp; lia) fun h' eb => ⟨rfl, I.turned (t' := s.toks) (fun b o hb e => eb b o hb e) f0 f1 f3 f4 f5⟩
 self := fun _ _ _ _ _ st h => wpAny_pyIter_tupleiter st h
theorem zOc {P : Program} {w : World} {K : PySem.W.Frag} {tg : Expr} (it : Addr) (lo : Int) (n : Nat) : Turn P w K tg (Itr lo n) [it] it (fun i h => IsRangeIter h it (lo + (i : Nat) * 1) ((n : Int) - (i : Nat)) 1) where
 mem := by simp
 obj := fun i h st b hb => by
  have e : b = it := by simpa using hb
  subst e
  exact ⟨_, st, fun v z => by
   have z' : Data.fields _ = Data.cell v := z
   cases z'⟩
 keep := fun i h h' st k => k it (by simp) _ st
 item := by
  intro X hP hw hK hc i pins s σ H E I hf st hg
  subst hP hw hK
  obtain ⟨f0, f1, f2, f3, f4, f5⟩ := hf it (by simp)
  have W := Walks.range (prog := X.prog) (w := X.w) (I.ok.hd hc) it lo 1 n
  refine W.item i s _ _ hg st fun v h' tk hv st' kk => ?_
  obtain ⟨t, rfl⟩ := hv
  have I1 : Inv X pins σ H { s with heap := h', toks := tk } := I.turned (fun b o hb e => kk b o (by simpa using hb) e) f0 f1 f3 f4 f5
  refine ⟨_, rfl, zFm (s := { s with heap := h', toks := tk }) (n := "range_iterator") st' rfl rfl (by decide) ⟨.int (lo + i), H, I1, ⟨t, ?_⟩, ⟨rfl, rfl⟩, st', fun b hb => (hf b hb).1⟩⟩
  rw [Int.mul_one]
 done := by
  intro X hP hw hK hc i pins s σ H E I hf st hg
  subst hP hw hK
  obtain ⟨f0, f1, f2, f3, f4, f5⟩ := hf it (by simp)
  exact wpAny_pyNext_range_end (I.ok.hd hc) st (by have : n <= i := hg; lia) fun h' eb => ⟨rfl, I.turned (t' := s.toks) (fun b o hb e => eb b o hb e) f0 f1 f3 f4 f5⟩
 self := fun _ _ _ _ _ st h => wpAny_pyIter_rangeiter st h
end L2
namespace L2
open PySem PySem.Spec PyProof.Rows
section
variable {X : Cx} {tg : Expr}
theorem zNv {pins : List (Addr × Obj)} {σ : St} {H : Hp} {s : Shared} {R : It -> Hp -> Prop} {E : Value -> Shared -> Prop} {lo hi : Int} {t u v : Tok} {tk : Nat} (I : Inv X pins σ H s) (h1 : -(2 ^ 62) <= lo) (h2 : lo < 2 ^ 62) (h3 : -(2 ^ 62) <= hi) (h4 : hi < 2 ^ 62)
  (q : R (Itr lo (hi - lo).toNat) H) : wpAny (model X.prog X.w) X.A (pyIter (.ref s.heap.objs.size)) (PIE X pins σ tg R) E { s with heap := s.heap.push { cls := .type "range", data := .fields #[.int lo t, .int hi u, .int 1 v] }, toks := tk } := by
 refine wpAny_pyIter_range (IsRange.new ..) (small_one h1 h2 h3 h4) ?_
 have I1 : Inv X pins σ H { s with heap := s.heap.push { cls := .type "range", data := .fields #[.int lo t, .int hi u, .int 1 v] }, toks := tk } := I.kept fun b o e => Qc _ e
 refine ⟨(s.heap.push { cls := .type "range", data := .fields #[.int lo t, .int hi u, .int 1 v] }).objs.size, [(s.heap.push { cls := .type "range", data := .fields #[.int lo t, .int hi u, .int 1 v] }).objs.size], _, _, H, rfl,
  I1.kept (t' := tk) fun b o e => Qc _ e, zOc _ lo (hi - lo).toNat, ?_, fun b hb => ?_, q⟩
 ·have e1 : lo + ((0 : Nat) : Int) * 1 = lo := by simp
  have e2 : (((hi - lo).toNat : Nat) : Int) - ((0 : Nat) : Int) = Builtin.Range.rangeSize lo hi 1 := by rw [rangeSize_one]; split <;> lia
  show IsRangeIter _ _ (lo + ((0 : Nat) : Int) * 1) ((((hi - lo).toNat : Nat) : Int) - ((0 : Nat) : Int)) 1
  rw [e1, e2]
  exact Qx _ rfl
 ·have e : b = (s.heap.push { cls := .type "range", data := .fields #[.int lo t, .int hi u, .int 1 v] }).objs.size := by simpa using hb
  subst e
  exact I1.fpOk (Qj _) (I1.hok.fresh (Qj _))
noncomputable def zBb (ta : TA) : TI := fun σ H R => ta σ H fun vs H1 => ∃ j : Int, vs = [.int j] /\ -(2 ^ 62) <= j /\ j < 2 ^ 62 /\ R (Itr 0 j.toNat) H1
theorem zM5 {a : Expr} {ta : TA} {p pos : Pos} (hg : Gl X "range") (hm : X.mg "range" = none) (ha : PA X [a] ta) (hs : starEach [a] X.env = [(false, eval a X.env)] := by rfl) : PI X tg (.Call (.Name "range" p) [a] [] pos) (zBb ta) := by
 intro pins s σ H R I h
 refine Call_ (zBU I hg hm boot_range (YA (thn (ha pos pins s σ H _ I h) fun us s1 ⟨vs, H1, I1, r1, q1⟩ => ?_) hs rfl))
 obtain ⟨j, e, q1, q2, q⟩ := q1
 subst e
 cases r1 with
 | cons r rr =>
  cases rr
  obtain ⟨t, rfl⟩ := r
  exact call_range_1 (zNv I1 (by lia) (by lia) q1 q2 (by simpa using q))
noncomputable def tFor (wi : TI) (g : TG) (tb : TS) : TS := fun D σ H => wi σ H fun J H1 => ∃ W : Nat -> Nat -> St -> Hp -> Prop, (∃ m, W 0 m σ H1) /\ ∀ i m σ H, W i m σ H ->
 (J.stop i H /\ D.nx σ H) ∨ (J.go i H /\ ∃ N : St -> Hp -> Prop, (∀ σ' H', N σ' H' -> ∃ m', m' < m /\ W (i + 1) m' σ' H') /\ ∀ x H', J.yld i H x H' -> g x σ H' fun σ2 H2 => tb { D with nx := N, ct := N, bk := D.nx } σ2 H2)
noncomputable def zDm (fp : List Addr) (h : Heap) : List (Addr × Obj) := fp.filterMap fun b => (h.get? b).map fun o => (b, o)
theorem zDZ {fp : List Addr} {h : Heap} {b : Addr} {o : Obj} (hb : b ∈ fp) (e : h.get? b = some o) : (b, o) ∈ zDm fp h := List.mem_filterMap.mpr ⟨b, hb, by rw [e]; rfl⟩
theorem zMu {fp : List Addr} {h : Heap} {p : Addr × Obj} (hp : p ∈ zDm fp h) : p.1 ∈ fp /\ h.get? p.1 = some p.2 := by
 obtain ⟨b, hb, e⟩ := List.mem_filterMap.mp hp
 cases q : h.get? b with
 | none => rw [q] at e; cases e
 | some o =>
  rw [q] at e
  have e' : (b, o) = p := QJ e
  subst e'
  exact ⟨hb, q⟩
theorem Inv.pinned {pins : List (Addr × Obj)} {σ : St} {H : Hp} {s : Shared} {fp : List Addr} (I : Inv X pins σ H s) (hf : ∀ b ∈ fp, FpOk X pins H b) (ho : ∀ b ∈ fp, ∃ o, s.heap.get? b = some o /\ ∀ v, o.data ≠ .cell v) : Inv X (pins ++ zDm fp s.heap) σ H s :=
 I.pins_of fun p hp => (QC.mp hp).elim (fun z => I.pin p (Qy _ z)) fun z => by
  obtain ⟨hb, e⟩ := zMu z
  obtain ⟨f0, f1, f2, _⟩ := hf p.1 hb
  obtain ⟨o, e', d⟩ := ho p.1 hb
  rw [e] at e'; cases e'
  exact ⟨e, f0, f1, f2, d⟩
theorem Inv.unpinned {pins pl : List (Addr × Obj)} {σ : St} {H : Hp} {s : Shared} (I : Inv X (pins ++ pl) σ H s) : Inv X pins σ H s := I.pins_of fun p hp => I.pin p (Qy _ (Yb _ hp))
theorem zNe {iter : Expr} {body : List Stmt} {wi : TI} {g : TG} {tb : TS} {pos : Pos} (hp : PassesOwn (model X.prog X.w) X.A X.env X.xe) (hc : X.calm = true) (hi : PI X tg iter wi) (hg : PG X tg g) (hb : PSs X body tb)
  (hs : ∀ x, foldedSetIterable iter X.env x = pure x := by intro _; rfl) : PS X (.For tg iter body [] pos) (tFor wi g tb) := by
 intro pins s σ H D I h
 refine wpAny_For (thn (hi pins s σ H _ I h) fun v s1 h1 => thn h1 fun itv s2 h2 => ?_) hs
 obtain ⟨it, fp, tn, J, H2, e, I2, T, st2, f2, W, ⟨m0, w0⟩, turn⟩ := h2
 subst e
 have stat : ∀ {H' : Hp}, (∀ b ∈ fp, H' b = none) -> ∀ b ∈ fp, FpOk X pins H' b := fun hn b hb => ⟨hn b hb, (f2 b hb).2⟩
 refine codeAny_forLoop_any (fun n s' => ∃ i σ' H', Inv X pins σ' H' s' /\ tn i s'.heap /\ (∀ b ∈ fp, H' b = none) /\ W i n σ' H') ?_ m0 ⟨0, σ, H2, I2, st2, fun b hb => (f2 b hb).1, w0⟩
 rintro n s3 ⟨i, σ3, H3, I3, st3, fr3, w3⟩
 rcases turn i n σ3 H3 w3 with ⟨stop, qn⟩ | ⟨go, N, hN, step⟩
 ·refine Y3 hp (thn (T.done X rfl rfl rfl hc i pins s3 σ3 H3 X.xe I3 (stat fr3) st3 stop) fun r s4 zz => ?_)
  obtain ⟨hr, I4⟩ := zz
  subst hr
  exact wpAny_execs_nil ⟨σ3, H3, I4, qn⟩
 ·refine Y3 hp (thn (T.item X rfl rfl rfl hc i pins s3 σ3 H3 X.xe I3 (stat fr3) st3 go) fun r s4 zz => ?_)
  obtain ⟨u, hr, h4⟩ := zz
  subst hr
  refine Y3 hp (thn h4 fun _ s5 zz => ?_)
  obtain ⟨x, H5, I5, r5, y5, st5, fr5⟩ := zz
  have I5' := I5.pinned (stat fr5) (T.obj _ _ st5)
  refine Y3 hp (thn (hg _ s5 σ3 H5 x u _ I5' r5 (step x H5 y5)) fun _ s6 zz => ?_)
  obtain ⟨σ6, H6, I6, q6⟩ := zz
  refine Y3 hp (thn (hb _ s6 σ6 H6 _ I6 q6) fun f s7 q7 => ?_)
  have again : ∀ {σ7 : St} {H7 : Hp}, Inv X (pins ++ zDm fp s5.heap) σ7 H7 s7 -> N σ7 H7 -> ∃ m, m < n /\ ∃ i σ' H', Inv X pins σ' H' s7 /\ tn i s7.heap /\ (∀ b ∈ fp, H' b = none) /\ W i m σ' H' := fun {σ7 H7} I7 n7 => by
   obtain ⟨m', hm, w7⟩ := hN σ7 H7 n7
   refine ⟨m', hm, i + 1, σ7, H7, I7.unpinned, T.keep _ _ _ st5 fun b hb o e => (I7.pin (b, o) (Qy _ (Qy _ (zDZ hb e)))).1, fun b hb => ?_, w7⟩
   obtain ⟨o, e, d⟩ := T.obj _ _ st5 b hb
   exact (I7.pin (b, o) (Qy _ (Qy _ (zDZ hb e)))).2.1
  cases f with
  | next => obtain ⟨σ7, H7, I7, n7⟩ := q7; exact again I7 n7
  | cont => obtain ⟨σ7, H7, I7, n7⟩ := q7; exact again I7 n7
  | brk => obtain ⟨σ7, H7, I7, q7⟩ := q7; exact ⟨σ7, H7, I7.unpinned, q7⟩
  | ret v => obtain ⟨x7, σ7, H7, I7, r7, q7⟩ := q7; exact ⟨x7, σ7, H7, I7.unpinned, r7, q7⟩
end
end L2
namespace L2
open PySem PySem.Spec PyProof.Rows
abbrev R2 := V -> V -> Hp -> VK -> Prop
noncomputable def OpR (X : Cx) (f : Value -> Value -> Sem Value) (r : R2) : Prop :=
 ∀ (pins : List (Addr × Obj)) (s : Shared) (σ : St) (H : Hp) (x y : V) (v u : Value) (Q : VK), Inv X pins σ H s -> RelV x v -> RelV y u -> r x y H Q ->
  wpAny (model X.prog X.w) X.A (f v u) (EP X pins σ Q) X.xe s
noncomputable def UnR (X : Cx) (f : Value -> Sem Value) (r : V -> Hp -> VK -> Prop) : Prop :=
 ∀ (pins : List (Addr × Obj)) (s : Shared) (σ : St) (H : Hp) (x : V) (v : Value) (Q : VK), Inv X pins σ H s -> RelV x v -> r x H Q ->
  wpAny (model X.prog X.w) X.A (f v) (EP X pins σ Q) X.xe s
noncomputable def zAR (X : Cx) (f : Value) (r : List V -> Hp -> VK -> Prop) : Prop :=
 ∀ (pins : List (Addr × Obj)) (s : Shared) (σ : St) (H : Hp) (xs : List V) (us : List Value) (Q : VK), Inv X pins σ H s -> Vals xs us -> r xs H Q ->
  wpAny (model X.prog X.w) X.A (call f us) (EP X pins σ Q) X.xe s
noncomputable def tOp (r : R2) (ta tb : TE) : TE := fun σ H Q => ta σ H fun x H1 => tb σ H1 fun y H2 => r x y H2 Q
noncomputable def tUn (r : V -> Hp -> VK -> Prop) (ta : TE) : TE := fun σ H Q => ta σ H fun x H1 => r x H1 Q
noncomputable def rI (C : Int -> Int -> Prop) (g : Int -> Int -> V) : R2 := fun x y H Q => ∃ i j, x = .int i /\ y = .int j /\ C i j /\ Q (g i j) H
noncomputable def rI0 (g : Int -> Int -> V) : R2 := fun x y H Q => ∃ i j, x = .int i /\ y = .int j /\ Q (g i j) H
noncomputable def rU (g : Int -> V) : V -> Hp -> VK -> Prop := fun x H Q => ∃ i, x = .int i /\ Q (g i) H
section
variable {X : Cx} {a b c : Expr} {ta tb tc : TE} {pos : Pos}
theorem binT (ha : PE X a ta) (hb : PE X b tb) {pins : List (Addr × Obj)} {s : Shared} {σ : St} {H : Hp} {R : V -> V -> Hp -> Prop} (I : Inv X pins σ H s)
  (h : ta σ H fun x H1 => tb σ H1 fun y H2 => R x y H2) {Q : Value -> Shared -> Prop} {f : Value -> Value -> Sem Value}
  (hf : ∀ v u s2 x y H2, Inv X pins σ H2 s2 -> RelV x v -> RelV y u -> R x y H2 -> wpAny (model X.prog X.w) X.A (f v u) Q X.xe s2) :
  wpAny (model X.prog X.w) X.A (eval a X.env) (fun v s₁ => wpAny (model X.prog X.w) X.A (eval b X.env) (fun u s₂ => wpAny (model X.prog X.w) X.A (f v u) Q X.xe s₂) X.xe s₁) X.xe s := by
 refine thn (ha pins s σ H _ I h) fun v s1 zz => ?_
 obtain ⟨x, H1, I1, r1, q1⟩ := zz
 refine thn (hb pins s1 σ H1 _ I1 q1) fun u s2 zz => ?_
 obtain ⟨y, H2, I2, r2, q2⟩ := zz
 exact hf v u s2 x y H2 I2 r1 r2 q2
theorem pe_op {op : Operator} {r : R2} (ho : OpR X (binaryOp op) r) (ha : PE X a ta) (hb : PE X b tb) : PE X (.BinOp a op b pos) (tOp r ta tb) := by
 intro pins s σ H Q I h
 exact wpAny_BinOp (binT ha hb I h fun v u s2 x y H2 I2 rx ry q => ho pins s2 σ H2 x y v u Q I2 rx ry q)
theorem pe_un {op : UnaryOp} {r : V -> Hp -> VK -> Prop} (ho : UnR X (unaryOp op) r) (ha : PE X a ta) : PE X (.UnaryOp op a pos) (tUn r ta) := by
 intro pins s σ H Q I h
 exact UnaryOp_ (thn (ha pins s σ H _ I h) fun v s1 ⟨x, H1, I1, r1, q1⟩ => ho pins s1 σ H1 x v Q I1 r1 q1)
theorem opI {f : Value -> Value -> Sem Value} {C : Int -> Int -> Prop} {g : Int -> Int -> Int}
  (rule : ∀ (i j : Int) (t u : Tok) (s : Shared) (Q : Value -> Shared -> Prop) (E : Value -> Shared -> Prop), C i j -> Q (.int (g i j) s.toks) { s with toks := s.toks + 1 } -> wpAny (model X.prog X.w) X.A (f (.int i t) (.int j u)) Q E s) :
  OpR X f (rI C fun i j => .int (g i j)) := by
 intro pins s σ H x y v u Q I rx ry h
 obtain ⟨i, j, rfl, rfl, hc, q⟩ := h
 obtain ⟨t, rfl⟩ := rx
 obtain ⟨t', rfl⟩ := ry
 exact rule i j t t' s _ _ hc ⟨.int (g i j), H, I.tok _, ⟨_, rfl⟩, q⟩
theorem opI0 {f : Value -> Value -> Sem Value} {g : Int -> Int -> Int}
  (rule : ∀ (i j : Int) (t u : Tok) (s : Shared) (Q : Value -> Shared -> Prop) (E : Value -> Shared -> Prop), Q (.int (g i j) s.toks) { s with toks := s.toks + 1 } -> wpAny (model X.prog X.w) X.A (f (.int i t) (.int j u)) Q E s) :
  OpR X f (rI0 fun i j => .int (g i j)) := by
 intro pins s σ H x y v u Q I rx ry h
 obtain ⟨i, j, rfl, rfl, q⟩ := h
 obtain ⟨t, rfl⟩ := rx
 obtain ⟨t', rfl⟩ := ry
 exact rule i j t t' s _ _ ⟨.int (g i j), H, I.tok _, ⟨_, rfl⟩, q⟩
theorem opB0 {f : Value -> Value -> Sem Value} {g : Int -> Int -> Bool}
  (rule : ∀ (i j : Int) (t u : Tok) (s : Shared) (Q : Value -> Shared -> Prop) (E : Value -> Shared -> Prop), Q (.bool (g i j)) s -> wpAny (model X.prog X.w) X.A (f (.int i t) (.int j u)) Q E s) :
  OpR X f (rI0 fun i j => .bl (g i j)) := by
 intro pins s σ H x y v u Q I rx ry h
 obtain ⟨i, j, rfl, rfl, q⟩ := h
 obtain ⟨t, rfl⟩ := rx
 obtain ⟨t', rfl⟩ := ry
 exact rule i j t t' s _ _ ⟨.bl (g i j), H, I, rfl, q⟩
noncomputable def CDiv (i j : Int) : Prop := 0 < j /\ j < 1073741824
noncomputable def CMul (i j : Int) : Prop := (-(2 ^ 64) < i /\ i < 2 ^ 64) ∨ (-(2 ^ 64) < j /\ j < 2 ^ 64)
theorem CMul.ok {i j : Int} (h : CMul i j) : IntMulOk i j := by
 rcases h with ⟨h1, h2⟩ | ⟨h1, h2⟩
 ·exact .of_left (intBits_le_64 h1 h2)
 ·exact .of_right (intBits_le_64 h1 h2)
theorem zMv : OpR X (binaryOp .Add) (rI0 fun i j => .int (i + j)) := opI0 fun _ _ _ _ _ _ _ q => add_int q
theorem zMB : OpR X (binaryOp .Sub) (rI0 fun i j => .int (i - j)) := opI0 fun _ _ _ _ _ _ _ q => sub_int q
theorem zMA : OpR X (binaryOp .Mult) (rI CMul fun i j => .int (i * j)) := opI fun _ _ _ _ _ _ _ hc q => mul_int q hc.ok
theorem zMx : OpR X (binaryOp .FloorDiv) (rI CDiv fun i j => .int (i / j)) := opI fun i j _ _ _ _ _ hc q => by
 have h1 : (0 : Int) < j := hc.1
 have h2 : j < 1073741824 := hc.2
 exact floordiv_int (by lia) (by rw [Int.fdiv_eq_ediv_of_nonneg i (by lia)]; exact q) (.inl (PyProof.noPylong_small (by lia)))
theorem zMz : OpR X (binaryOp .Mod) (rI (fun _ j => 0 < j) fun i j => .int (i % j)) := opI fun i j _ _ _ _ _ hc q => by
 have h1 : (0 : Int) < j := hc
 exact mod_int' (by lia) (by rw [Int.fmod_eq_emod_of_nonneg i (by lia)]; exact q)
theorem unI {f : Value -> Sem Value} {g : Int -> Int}
  (rule : ∀ (i : Int) (t : Tok) (s : Shared) (Q : Value -> Shared -> Prop) (E : Value -> Shared -> Prop), Q (.int (g i) s.toks) { s with toks := s.toks + 1 } -> wpAny (model X.prog X.w) X.A (f (.int i t)) Q E s) :
  UnR X f (rU fun i => .int (g i)) := by
 intro pins s σ H x v Q I rx h
 obtain ⟨i, rfl, q⟩ := h
 obtain ⟨t, rfl⟩ := rx
 exact rule i t s _ _ ⟨.int (g i), H, I.tok _, ⟨_, rfl⟩, q⟩
theorem zOh : UnR X (unaryOp .USub) (rU fun i => .int (-i)) := unI fun _ _ _ _ _ q => neg_int q
end
section
variable {X : Cx} {a b c : Expr} {ta tb tc : TE} {pos : Pos}
theorem op_lt : OpR X (compareOp .Lt) (rI0 fun i j => .bl (decide (i < j))) := opB0 fun _ _ _ _ _ _ _ q => lt_int q
theorem op_le : OpR X (compareOp .LtE) (rI0 fun i j => .bl (decide (i <= j))) := opB0 fun _ _ _ _ _ _ _ q => le_int q
theorem op_gt : OpR X (compareOp .Gt) (rI0 fun i j => .bl (decide (j < i))) := opB0 fun _ _ _ _ _ _ _ q => gt_int q
theorem OpR.or {f : Value -> Value -> Sem Value} {r r' : R2} (h : OpR X f r) (h' : OpR X f r') : OpR X f (fun x y H Q => r x y H Q ∨ r' x y H Q) := by
 intro pins s σ H x y v u Q I rx ry q
 rcases q with q | q
 ·exact h pins s σ H x y v u Q I rx ry q
 ·exact h' pins s σ H x y v u Q I rx ry q
theorem zAI (b : Expr) {op : CmpOp} (h : op ≠ .In := by decide) (h2 : op ≠ .NotIn := by decide) : behindInMarks op b = false := by
 have e1 : (op == CmpOp.In) = false := by cases op <;> first | rfl | exact absurd rfl h
 have e2 : (op == CmpOp.NotIn) = false := by cases op <;> first | rfl | exact absurd rfl h2
 cases b <;> simp [behindInMarks, e1, e2]
theorem zMN {op : CmpOp} {r : R2} (ho : OpR X (compareOp op) r) (ha : PE X a ta) (hb : PE X b tb) (hm : behindInMarks op b = false) : PE X (.Compare a [op] [b] pos) (tOp r ta tb) := by
 intro pins s σ H Q I h
 exact wpAny_Compare1 (binT ha hb I h fun v u s2 x y H2 I2 rx ry q => ho pins s2 σ H2 x y v u Q I2 rx ry q) hm
noncomputable def zJm (t : TE) : TT := fun σ H Q => t σ H fun x H' => ∃ k, x = .bl k /\ Q k H'
theorem zNk {op : CmpOp} {r : R2} (ho : OpR X (compareOp op) r) (ha : PE X a ta) (hb : PE X b tb) (hm : behindInMarks op b = false) : PT X (.Compare a [op] [b] pos) (zJm (tOp r ta tb)) := by
 intro pins s σ H Q I h
 refine wpAny_isTrue_Compare1 (thn (ha pins s σ H _ I h) fun v s1 ⟨x, H1, I1, r1, q1⟩ => thn (hb pins s1 σ H1 _ I1 q1) fun u s2 ⟨y, H2, I2, r2, q2⟩ =>
  thn (ho pins s2 σ H2 x y v u _ I2 r1 r2 q2) fun c s3 ⟨z, H3, I3, r3, k, e, q3⟩ => ?_) hm
 subst e
 cases r3
 exact Y5 ⟨H3, I3, q3⟩
noncomputable def zJk (r r' : R2) (ta tb tc : TE) : TE := fun σ H Q => ta σ H fun x H1 => tb σ H1 fun y H2 => r x y H2 fun z H3 => ∃ k, z = .bl k /\
 (if k = true then tc σ H3 fun w' H4 => r' y w' H4 Q else Q (.bl false) H3)
theorem zMM {op op' : CmpOp} {r r' : R2} (ho : OpR X (compareOp op) r) (ho' : OpR X (compareOp op') r') (ha : PE X a ta) (hb : PE X b tb) (hc : PE X c tc)
  (hm : lastMarks [op, op'] [b, c] = false := by with_unfolding_all rfl) : PE X (.Compare a [op, op'] [b, c] pos) (zJk r r' ta tb tc) := by
 intro pins s σ H Q I h
 refine Compare_chain (thn (ha pins s σ H _ I h) fun v s1 ⟨x, H1, I1, r1, q1⟩ => chain_link (thn (hb pins s1 σ H1 _ I1 q1) fun u s2 ⟨y, H2, I2, r2, q2⟩ =>
  thn (ho pins s2 σ H2 x y v u _ I2 r1 r2 q2) fun d s3 ⟨z, H3, I3, r3, k, e, q3⟩ => ?_)) hm
 subst e
 cases r3
 refine Y5 ?_
 cases k with
 | false => exact ite_ff ⟨.bl false, H3, I3, rfl, q3⟩
 | true => exact ite_tt (chain_last (thn (hc pins s3 σ H3 _ I3 q3) fun w' s4 ⟨z', H4, I4, r4, q4⟩ => ho' pins s4 σ H4 y z' u w' Q I4 r2 r4 q4))
theorem zFA : (sizeLine : Nat) < 2 ^ 63 := by rw [Ye]; decide
theorem zBN {x : V} {us : List Value} (r : Vals [x] us) : ∃ u, us = [u] /\ RelV x u := by
 cases r with
 | cons r1 r2 => cases r2; exact ⟨_, rfl, r1⟩
theorem vals2 {x y : V} {us : List Value} (r : Vals [x, y] us) : ∃ u w', us = [u, w'] /\ RelV x u /\ RelV y w' := by
 cases r with
 | cons r1 r2 =>
  cases r2 with
  | cons r3 r4 => cases r4; exact ⟨_, _, rfl, r1, r3⟩
theorem zJS : zAR X (.builtin "abs") (fun xs H Q => ∃ i, xs = [.int i] /\ Q (.int (if i < 0 then -i else i)) H) := by
 intro pins s σ H xs us Q I r h
 obtain ⟨i, rfl, q⟩ := h
 obtain ⟨u, rfl, t, rfl⟩ := zBN r
 exact call_abs_int fun u tk => ⟨.int (if i < 0 then -i else i), H, I.tok _, ⟨_, rfl⟩, q⟩
end
end L2
namespace L2
open PySem PySem.Spec PyProof.Rows
section
variable {prog : Program} {w : World} {A : Around} {E : Value -> Shared -> Prop} {s : Shared} {K : PySem.W.Frag} {x dx C f : Addr} {mA : Str -> Option Value} {name : Str} {v : Value}
end
section
variable {P : Program} {w : World} {H H' : Hp} {h h' : Heap} {a C dx : Addr} {fs fs' : List (Str × V)}
end
section
variable {X : Cx} {pins : List (Addr × Obj)} {σ : St} {H : Hp} {s : Shared} {a C dx : Addr} {fs : List (Str × V)} {f : Str} {v : V} {A : Around} {E : Value -> Shared -> Prop}
end
section
variable {X : Cx} {o e value : Expr} {f : Str} {pos pos' tpos : Pos} {ta tv : TE}
end
section
variable {X : Cx} {pins : List (Addr × Obj)} {σ : St} {H : Hp} {s : Shared} {A : Around} {E : Value -> Shared -> Prop} {Q : Value -> Shared -> Prop} {c : Value} {b : Bool}
end
end L2
namespace L2
open PySem PySem.Spec PyProof.Rows
structure Room (k : Nat) (A : Around) : Prop where
 hd : A.handled = none
 dp : A.depth + 3 * k + 5 < recursionLimit
 un : A.units + 16 * k + 200 < cLine
 gd : A.guards = some []
theorem Room.mono {j k : Nat} {A : Around} (r : Room k A) (h : j <= k) : Room j A := ⟨r.hd, by have := r.dp; lia, by have := r.un; lia, r.gd⟩
theorem Room.deeper {k : Nat} {A : Around} (r : Room (k + 1) A) (env : Env) : Room k (A.deeper env) :=
 ⟨r.hd, by have := r.dp; show A.depth + 1 + 3 * k + 5 < _; lia, by have := r.un; show A.units + 3 + 16 * k + 200 < _; lia, r.gd⟩
theorem Room.depth {k : Nat} {A : Around} (r : Room k A) : A.depth < recursionLimit := by have := r.dp; lia
noncomputable def tNil : TA := fun _ H Q => Q [] H
noncomputable def zJl (ta : TE) (tr : TA) : TA := fun σ H Q => ta σ H fun x H1 => tr σ H1 fun xs H2 => Q (x :: xs) H2
section
variable {X : Cx} {e : Expr} {es : List Expr} {te : TE} {t : TA} {pos : Pos}
theorem zBX : PA X [] tNil := fun _ _ _ _ H Q I h => Calls.spliced_nil ⟨[], H, I, .nil, h⟩
theorem zBx (ha : PE X e te) (hr : PA X es t) (hs : starEach (e :: es) X.env = (false, eval e X.env) :: starEach es X.env := by rfl) : PA X (e :: es) (zJl te t) := by
 intro pos pins s σ H Q I h
 rw [hs]
 show wpAny _ _ (spliced ((false, eval e X.env) :: backTo pos (starEach es X.env))) _ _ s
 refine Calls.spliced_cons (thn (ha pins s σ H _ I h) fun u s1 zz => ?_)
 obtain ⟨x, H1, I1, r1, q1⟩ := zz
 exact thn (hr pos pins s1 σ H1 _ I1 q1) fun us s2 ⟨xs, H2, I2, r2, q2⟩ => ⟨x :: xs, H2, I2, .cons r1 r2, q2⟩
noncomputable def tTup (t : TA) : TE := fun σ H Q => t σ H fun xs H1 => xs.length <= sizeLine /\ ∀ p, H1 p = none -> Q (.ref p) (upd H1 p (.tup xs))
noncomputable def tLst (t : TA) : TE := fun σ H Q => t σ H fun xs H1 => xs.length <= sizeLine /\ ∀ p, H1 p = none -> Q (.ref p) (upd H1 p (.lst xs))
theorem zMY {x1} (h : PA X es t) : PE X (.Tuple es x1 pos) (tTup t) := by
 intro pins s σ H Q I hq
 refine wpAny_Tuple_spliced (thn (h pos pins s σ H _ I hq) fun us s1 ⟨xs, H1, I1, r, z, q⟩ => ⟨by rw [<- r.length]; exact z, ?_⟩)
 have hf : H1 s1.heap.objs.size = none := I1.hok.fresh (Qj _)
 refine ⟨.ref s1.heap.objs.size, upd H1 s1.heap.objs.size (.tup xs), I1.laid (t' := s1.toks) (fun b u e => Qc _ e) (Qj _) ?_, rfl, q _ hf⟩
 exact ⟨z, us, r, ⟨_, Qx _ rfl, rfl, _, rfl⟩⟩
theorem zFQ (h : PA X es t) : PE X (.List es pos) (tLst t) := by
 intro pins s σ H Q I hq
 refine wpAny_List_spliced (thn (h pos pins s σ H _ I hq) fun us s1 ⟨xs, H1, I1, r, z, q⟩ => ⟨by rw [<- r.length]; exact z, ?_⟩)
 have hf : H1 s1.heap.objs.size = none := I1.hok.fresh (Qj _)
 refine ⟨.ref s1.heap.objs.size, upd H1 s1.heap.objs.size (.lst xs), I1.laid (t' := s1.toks) (fun b u e => Qc _ e) (Qj _) ?_, rfl, q _ hf⟩
 exact ⟨z, us, 0, r, Qx _ rfl⟩
end
abbrev Sp := List V -> Hp -> VK -> XK -> Prop
abbrev CXT := List Env -> Hp -> Shared -> XK -> Value -> Shared -> Prop
structure Env0 (P : Program) (w : World) (K : PySem.W.Frag) (mg : Str -> Option Value) (base : Heap) (A : Around) (outer : List Env) (s : Shared) (H : Hp) : Prop where
 frames : A.frames = some outer
 mod : Mod K mg base
 bs : ∀ b o, base.get? b = some o -> s.heap.get? b = some o /\ H b = none
 bsz : base.objs.size <= s.heap.objs.size
 funs : s.heap.FunFrames base outer
 frf : ∀ b ∈ frs outer, H b = none
 hok : HOk P w H s.heap
 bare : AllBare s.gens
noncomputable def CE (outer : List Env) (P : Program) (w : World) (H : Hp) (s : Shared) (Q : VK) (u : Value) (s' : Shared) : Prop :=
 ∃ v H', s'.os = s.os /\ AllBare s'.gens /\ Un (frs outer) [] H H' s.heap s'.heap /\ HOk P w H' s'.heap /\ RelV v u /\ Q v H'
noncomputable def CR (CX : CXT) (outer : List Env) (P : Program) (w : World) (H : Hp) (s : Shared) (Q : VK) (E : XK) (r : Result) (s' : Shared) : Prop :=
 match r with
 | .ok (.ret u) => CE outer P w H s Q u s'
 | .ok _ => False
 | .error e => CX outer H s E e s'
structure FnOk (P : Program) (w : World) (K : PySem.W.Frag) (mg : Str -> Option Value) (base : Heap) (CX : CXT) (k : Nat) (f : Addr) (fd : FuncData) (ps : List Str) (sp : Sp) : Prop where
 len : ∀ vs H Q E, sp vs H Q E -> vs.length = ps.length
 run : ∀ (A : Around) (outer : List Env) (s : Shared) (H : Hp) (args : Args) (us : List Value) (vs : List V) (Q : VK) (E : XK), Room k A -> Env0 P w K mg base A outer s H -> BindsTo s fd args (ps.zip us) -> Vals vs us -> sp vs H Q E ->
  codeAny (model P w) A (.call (.ref f) args) (CR CX outer P w H s Q E) s
theorem FnOk.imp {P : Program} {w : World} {K : PySem.W.Frag} {mg : Str -> Option Value} {base : Heap} {CX : CXT} {k : Nat} {f : Addr} {fd : FuncData} {ps : List Str} {sp sp' : Sp} (F : FnOk P w K mg base CX k f fd ps sp)
  (h : ∀ vs H Q E, sp' vs H Q E -> sp vs H Q E) : FnOk P w K mg base CX k f fd ps sp' :=
 ⟨fun vs H Q E q => F.len vs H Q E (h _ _ _ _ q), fun A outer s H args us vs Q E hr he hb hv hs => F.run A outer s H args us vs Q E hr he hb hv (h _ _ _ _ hs)⟩
section
variable {X : Cx} {pins : List (Addr × Obj)} {σ : St} {H : Hp} {s s' : Shared}
theorem Inv.env0 (I : Inv X pins σ H s) : Env0 X.prog X.w X.K X.mg X.base X.A X.stack s H :=
 ⟨I.ok.frames, I.ok.mod, I.bs, Qt I.ok.bsz I.sz, I.stack, I.stkFree, I.hok, I.bare⟩
theorem Inv.after {Q : VK} {u : Value} (I : Inv X pins σ H s) (h : CE X.stack X.prog X.w H s Q u s') : EP X pins σ Q u s' := by
 obtain ⟨v, H', os, bare, un, hok, r, q⟩ := h
 obtain ⟨hh, g, d, t, os'⟩ := s'
 obtain rfl : os' = s.os := os
 exact ⟨v, H', I.call (h' := hh) (g' := g) (d' := d) (t' := t) (ch := []) un hok bare (fun b z => absurd z (by simp)), r, q⟩
end
noncomputable def tCall (sp : Sp) (dvs : List V) (E : XK) (t : TA) : TE := fun σ H Q => t σ H fun vs H1 => sp (vs ++ dvs) H1 Q E
noncomputable def Binds (K : PySem.W.Frag) (fd : FuncData) (ps : List Str) (ds : List Value) : Prop :=
 ∀ (s : Shared) (us : List Value), K.In s.heap -> (us ++ ds).length = ps.length -> BindsTo s fd ⟨us, []⟩ (ps.zip (us ++ ds))
theorem Binds.all {K : PySem.W.Frag} {fd : FuncData} {ps : List Str} (h : ∀ us : List Value, us.length = ps.length -> bindArgs fd ⟨us, []⟩ = pure (ps.zip us)) : Binds K fd ps [] := fun s us _ hl => by
 rw [Yn] at hl ⊢
 exact .of_eq (h us hl)
noncomputable def zEv (CX : CXT) (X : Cx) (E : XK) : Prop := ∀ (pins : List (Addr × Obj)) (σ : St) (H : Hp) (s : Shared) (e : Value) (s' : Shared), Inv X pins σ H s -> CX X.stack H s E e s' -> X.xe e s'
section
variable {X : Cx} {CX : CXT} {k : Nat} {f C : Addr} {fd : FuncData} {ps : List Str} {sp : Sp} {dvs : List V} {ds : List Value} {E : XK} {x m : Str} {p pos apos : Pos} {e o : Expr} {es : List Expr} {ta : TE} {t : TA}
theorem zNE {pins : List (Addr × Obj)} {σ : St} {H : Hp} {s : Shared} {Q : VK} {us : List Value} {vs : List V} (F : FnOk X.prog X.w X.K X.mg X.base CX k f fd ps sp) (hr : Room k X.A) (hb : Binds X.K fd ps ds) (hd : Vals dvs ds) (hx : zEv CX X E)
  (I : Inv X pins σ H s) (r : Vals vs us) (h : sp (vs ++ dvs) H Q E) : wpAny (model X.prog X.w) X.A (call (.ref f) us) (EP X pins σ Q) X.xe s := by
 have r2 : Vals (vs ++ dvs) (us ++ ds) := r.append hd
 have hl : (us ++ ds).length = ps.length := by rw [<- r2.length]; exact F.len _ _ _ _ h
 refine wpAny_call (Js (F.run X.A X.stack s H ⟨us, []⟩ (us ++ ds) (vs ++ dvs) Q E hr I.env0 (hb s us I.kIn hl) r2 h) fun r s' hq => ?_)
 cases r with
 | error e => exact hx pins σ H s e s' I hq
 | ok fl =>
  cases fl with
  | ret u => exact I.after hq
  | next => exact False.elim hq
  | brk => exact False.elim hq
  | cont => exact False.elim hq
theorem zMK (F : FnOk X.prog X.w X.K X.mg X.base CX k f fd ps sp) (hr : Room k X.A) (hg : Gl X x) (hm : X.mg x = some (.ref f)) (hk : PySem.W.keepIn X.K (.ref f) = true) (hb : Binds X.K fd ps ds) (hd : Vals dvs ds) (hx : zEv CX X E)
  (ha : PA X (e :: es) t) (hdb : (x == ("__debug__" : Str)) = false := by decide) (he : starEach (e :: es) X.env = (false, eval e X.env) :: starEach es X.env := by rfl) (hpl : (backTo pos (starEach es X.env)).any (·.1) = false := by rfl) :
  PE X (.Call (.Name x p) (e :: es) [] pos) (tCall sp dvs E t) := by
 intro pins s σ H Q I h
 refine Ji (zLD I hg hm ?_ hdb)
 refine PySem.W.callWith_K (h₀ := X.base) I.ok.mod.kin hk (thn (ha pos pins s σ H _ I h) fun us s1 ⟨vs, H1, I1, r, q⟩ => ⟨I1.kIn, ?_⟩) he hpl
 exact zNE F hr hb hd hx I1 r q
end
section
variable {X : Cx} {CX : CXT} {k : Nat} {f C : Addr} {fd : FuncData} {ps ks : List Str} {sp : Sp} {E : XK} {x m : Str} {p pos apos kpos : Pos} {e o : Expr} {es : List Expr} {kws : List Keyword} {te ta : TE} {t tk : TA} {nm : Option Str}
variable {g : List Value -> List Value -> List Value} {gV : List V -> List V -> List V}
end
structure zAq (N P : List Str) (sc : Scope) : Prop where
 kind : sc.kind = .function
 co : sc.isCoroutine = false
 gen : sc.isGenerator = false
 nd : N.Nodup
 pre : N.take P.length = P
 par : ∀ x ∈ P, sc.names.lookup x = some .local ∨ sc.names.lookup x = some .cell
 nofree : ∀ y ∈ sc.names, y.2 ≠ .free
theorem zGM {kindOf : Str -> Option NameKind} {x : Str} : ∀ {binds : List (Str × Value)} {m : Str -> Option Value}, (∀ v, (x, v) ∉ binds) -> bindL kindOf binds m x = m x
 | [], _, _ => rfl
 | (n, v) :: r, m, h => by
  unfold bindL
  rw [zGM fun w hw => h w (Qd _ hw)]
  split
  ·have : x ≠ n := by rintro rfl; exact h v Qf
   simp [this]
  ·rfl
theorem zGK {kindOf : Str -> Option NameKind} {x : Str} : ∀ {binds : List (Str × Value)} {m : Str -> Option Value}, (∀ v, (x, v) ∉ binds) -> bindC kindOf binds m x = m x
 | [], _, _ => rfl
 | (n, v) :: r, m, h => by
  unfold bindC
  rw [zGK fun w hw => h w (Qd _ hw)]
  split
  ·rfl
  ·have : x ≠ n := by rintro rfl; exact h v Qf
   simp [this]
theorem zGL {kindOf : Str -> Option NameKind} {x : Str} {v : Value} : ∀ {P : List Str} {vs : List Value} {i : Nat} {m : Str -> Option Value}, P.Nodup -> P[i]? = some x -> vs[i]? = some v -> kindOf x = some .local ->
  bindL kindOf (P.zip vs) m x = some v
 | [], _, _, _, _, h, _, _ => by simp at h
 | _ :: _, [], _, _, _, _, h, _ => by simp at h
 | p :: P, w :: vs, 0, m, nd, h1, h2, hk => by
  simp at h1 h2; subst h1; subst h2
  show bindL kindOf ((p, w) :: P.zip vs) m p = _
  unfold bindL
  rw [zGM fun v hv => (Q5.mp nd).1 (List.of_mem_zip hv).1, if_pos hk]
  simp
 | p :: P, w :: vs, i + 1, m, nd, h1, h2, hk => by
  show bindL kindOf ((p, w) :: P.zip vs) m x = _
  unfold bindL
  exact zGL (i := i) (Q5.mp nd).2 (by simpa using h1) (by simpa using h2) hk
theorem zGJ {kindOf : Str -> Option NameKind} {x : Str} {v : Value} : ∀ {P : List Str} {vs : List Value} {i : Nat} {m : Str -> Option Value}, P.Nodup -> P[i]? = some x -> vs[i]? = some v -> kindOf x ≠ some .local ->
  bindC kindOf (P.zip vs) m x = some v
 | [], _, _, _, _, h, _, _ => by simp at h
 | _ :: _, [], _, _, _, _, h, _ => by simp at h
 | p :: P, w :: vs, 0, m, nd, h1, h2, hk => by
  simp at h1 h2; subst h1; subst h2
  show bindC kindOf ((p, w) :: P.zip vs) m p = _
  unfold bindC
  rw [zGK fun v hv => (Q5.mp nd).1 (List.of_mem_zip hv).1, if_neg hk]
  simp
 | p :: P, w :: vs, i + 1, m, nd, h1, h2, hk => by
  show bindC kindOf ((p, w) :: P.zip vs) m x = _
  unfold bindC
  exact zGJ (i := i) (Q5.mp nd).2 (by simpa using h1) (by simpa using h2) hk
noncomputable def start (N : List Str) (vs : List V) : St := vs.map some ++ List.replicate (N.length - vs.length) none
noncomputable def cxOf (CX : CXT) (P : Program) (w : World) (K : PySem.W.Frag) (mg : Str -> Option Value) (base : Heap) (N : List Str) (qual : Str) (scope : Scope) (f : Addr) (cd : Value) (A : Around) (outer : List Env) (s : Shared) (H : Hp) (E : XK) : Cx where
 prog := P
 w := w
 K := K
 mg := mg
 base := base
 A := A.deeper (envOfC qual scope s.heap.objs.size f cd)
 N := N
 s₀ := s
 H₀ := H
 env := envOfC qual scope s.heap.objs.size f cd
 outer := outer
 stack := envOfC qual scope s.heap.objs.size f cd :: outer
 ex := []
 calm := true
 fn := fun _ => true
 pn := []
 xe := fun e s' => wpAny (model P w) (A.deeper (envOfC qual scope s.heap.objs.size f cd)) (leaving (envOfC qual scope s.heap.objs.size f cd) e) (fun _ s'' => CX outer H s E e s'') (fun e' s'' => CX outer H s E e' s'') s'
theorem zGP {sc : Scope} {n : Nat} {x : Str} (h : sc.names.lookup x = some .cell) : ∃ c, (cellsFrom n sc.names []).lookup x = some c := by
 have q := PySem.W.cellsFrom_some sc.names n [] (.inl h)
 exact Option.isSome_iff_exists.mp q
theorem zLi {CX : CXT} {P : Program} {w : World} {K : PySem.W.Frag} {mg : Str -> Option Value} {base : Heap} {N ps : List Str} {qual : Str} {scope : Scope} {f : Addr} {cd : Value} {A : Around} {outer : List Env} {s s1 : Shared} {H : Hp} {E : XK} {us : List Value} {vs : List V}
  (S : zAq N ps scope) (hd : A.handled = none) (e0 : Env0 P w K mg base A outer s H) (hl : vs.length = ps.length) (r : Vals vs us)
  (x : InCallC s s.heap.objs.size (bindL (envOfC qual scope s.heap.objs.size f cd).kindOf (ps.zip us) fun _ => none) (cellsFrom (s.heap.objs.size + 1) scope.names []) (bindC (envOfC qual scope s.heap.objs.size f cd).kindOf (ps.zip us) fun _ => none) s1) :
  Inv (cxOf CX P w K mg base N qual scope f cd A outer s H E) [] (start N vs) H s1 := by
 have hpl : ps.length <= N.length := by have := congrArg List.length S.pre; rw [Q2] at this; lia
 obtain ⟨h1, tk, rfl, hk⟩ := x.done
 have noA : ∀ b : Addr, b ∉ (cxOf CX P w K mg base N qual scope f cd A outer s H E).ex := fun b z => absurd (show b ∈ ([] : List Addr) from z) (by simp)
 refine ⟨⟨e0.mod, S.kind, rfl, rfl, Qj _, fun y z c h1 h2 => ?_, fun y hy => ?_, fun y c _ h => ?_, fun _ => hd, Around.frames_deeper e0.frames, .inr ⟨rfl, rfl⟩, fun b z => absurd z (noA b), e0.bs, e0.bsz, fun b _ _ => noA b, fun b z => absurd z (noA b), e0.funs, e0.frf⟩,
  rfl, e0.bare, Un.kept hk, ⟨_, x.toInCall.ns, fun i y v h1 h2 h3 => ?_⟩, fun y c h => ⟨_, x.cell y c h⟩, e0.hok.fresh (Qj _), fun y c h => ?_, fun p hp => absurd (show p ∈ ([] : List (Addr × Obj)) from hp) (by simp), e0.hok.kept hk, ?_⟩
 ·exact name_of_addr x.apart (PySem.mem_of_lookup h1) (PySem.mem_of_lookup h2)
 ·have hy : scope.names.lookup y = some .cell ∨ scope.names.lookup y = some .free := hy
  rcases hy with hy | hy
  ·exact zGP hy
  ·exact absurd rfl (S.nofree _ (PySem.mem_of_lookup hy))
 ·exact Yv (x.above y c (PySem.mem_of_lookup h))
 ·have hi : i < vs.length := by
   unfold start at h2
   by_cases hi : i < vs.length
   ·exact hi
   ·rw [YB (by simpa using hi)] at h2
    rw [Y9] at h2
    split at h2 <;> cases h2
  have ha : vs[i]? = some v := by
   unfold start at h2
   rw [YG (by simpa using hi), QQ] at h2
   cases e : vs[i]? with
   | none => rw [e] at h2; cases h2
   | some a => rw [e] at h2; cases h2; rfl
  obtain ⟨u, hu, rv⟩ := r.get ha
  have hp : ps[i]? = some y := by
   rw [<- S.pre, List.getElem?_take_of_lt (by lia)]; exact h1
  have ndP : ps.Nodup := by rw [<- S.pre]; exact S.nd.sublist (List.take_sublist _ _)
  refine ⟨u, rv, ?_⟩
  rcases S.par y (QO hp) with k | k
  ·exact .inl ⟨k, zGL ndP hp hu k⟩
  ·obtain ⟨c, e⟩ := zGP (n := s.heap.objs.size + 1) k
   refine .inr ⟨.inl k, c, e, ?_⟩
   have q := x.cell y c e
   rw [zGJ ndP hp hu (by show scope.names.lookup y ≠ _; rw [k]; decide)] at q
   exact q
 ·exact e0.hok.fresh (Yv (x.above y c (PySem.mem_of_lookup h)))
 ·unfold start
  show _ = N.length
  rw [Qm, Qg, List.length_replicate]
  lia
theorem fn_of {CX : CXT} {P : Program} {w : World} {K : PySem.W.Frag} {mg : Str -> Option Value} {base : Heap} {k : Nat} {f : Addr} {name qual : Str} {params : Arguments} {body : List Stmt} {scope : Scope} {dV kV doc pm cdv ct oc : Value} {an od : Option Addr}
  {osl : Array (Option Value)} {N ps : List Str} {sp : Sp} (lk : K.lookup f = some ⟨oc, od, .func (PySem.W.fnOf name qual params body scope dV kV doc pm an cdv ct), osl⟩) (hcd : PySem.W.codeIn K cdv qual = true) (S : zAq N ps scope)
  (len : ∀ vs H Q E, sp vs H Q E -> vs.length = ps.length)
  (hbody : ∀ (A : Around) (outer : List Env) (s : Shared) (H : Hp) (vs : List V) (Q : VK) (E : XK), Room k (A.deeper (envOfC qual scope s.heap.objs.size f cdv)) -> sp vs H Q E ->
   ∃ t, PSs (cxOf CX P w K mg base N qual scope f cdv A outer s H E) body t /\ t { nx := fun _ H' => Q .non H', rt := Q } (start N vs) H) :
  FnOk P w K mg base CX (k + 1) f (PySem.W.fnOf name qual params body scope dV kV doc pm an cdv ct) ps sp := by
 refine ⟨len, fun A outer s H args us vs Q E hr e0 hb r hsp => ?_⟩
 have hl := len _ _ _ _ hsp
 have KX : K.In s.heap := e0.mod.kin.keeps fun b o e => (e0.bs b o e).1
 have lim : s.heap.NoLimit := e0.mod.nolimit.keeps fun b o e => (e0.bs b o e).1
 have hkind : ∀ y ∈ ps.zip us, scope.names.lookup y.1 = some .local ∨ (scope.names.lookup y.1 = some .cell /\ ((cellsFrom (s.heap.objs.size + 1) scope.names []).lookup y.1).isSome = true) := fun zz hy => by
  obtain ⟨n, v⟩ := zz
  rcases S.par n (List.of_mem_zip hy).1 with q | q
  ·exact .inl q
  ·exact .inr ⟨q, PySem.W.cellsFrom_some _ _ _ (.inl q)⟩
 refine codeAny_call_function hr.depth (KX _ _ lk) rfl S.co S.gen rfl (PySem.W.codeRec_of KX hcd) (hb _ _ _ _ ?_)
 refine wpAny_newFunctionEnv_cells S.kind hkind fun env he s1 x => ?_
 subst he
 refine ⟨lim.keeps x.toInCall.keep, codeAny_func ?_⟩
 obtain ⟨t, ht, hq⟩ := hbody A outer s H vs Q E (hr.deeper _) hsp
 have I : Inv (cxOf CX P w K mg base N qual scope f cdv A outer s H E) [] (start N vs) H s1 := zLi S hr.hd e0 hl r x
 refine YO (ht [] s1 (start N vs) H _ I hq) (fun fl s' hs => ?_) fun e s' hs => hs
 have fin : ∀ {σ' : St} {H' : Hp} {v : V} {u : Value}, Inv (cxOf CX P w K mg base N qual scope f cdv A outer s H E) [] σ' H' s' -> RelV v u -> Q v H' -> CE outer P w H s Q u s' :=
  fun {σ' H' v u} J rv q => ⟨v, H', J.os, J.bare, J.base, J.hok, rv, q⟩
 cases fl with
 | ret u =>
  obtain ⟨v, σ', H', J, rv, q⟩ := hs
  exact fin J rv q
 | next =>
  obtain ⟨σ', H', J, q⟩ := hs
  exact fin (v := V.non) (u := Value.none) J rfl q
 | brk =>
  obtain ⟨_, _, _, q⟩ := hs
  exact False.elim q
 | cont =>
  obtain ⟨_, _, _, q⟩ := hs
  exact False.elim q
end L2
namespace L2
open PySem PySem.Spec PyProof.Rows
section
variable {X : Cx} {x : Str} {p pos : Pos} {e : Expr} {es : List Expr} {t : TA} {id T : String} {r : List V -> Hp -> VK -> Prop}
noncomputable def tCB (r : List V -> Hp -> VK -> Prop) (t : TA) : TE := fun σ H Q => t σ H fun vs H1 => r vs H1 Q
theorem zIx (hc : zAR X (.builtin id) r) (hg : Gl X x) (hm : X.mg x = none) (hv : bootBuiltins x = some (.builtin id)) (ha : PA X (e :: es) t) (hn : x ≠ "__name__" := by decide) (hdb : (x == ("__debug__" : Str)) = false := by decide)
  (he : starEach (e :: es) X.env = (false, eval e X.env) :: starEach es X.env := by rfl) (hpl : (backTo pos (starEach es X.env)).any (·.1) = false := by rfl) : PE X (.Call (.Name x p) (e :: es) [] pos) (tCB r t) := by
 intro pins s σ H Q I h
 refine Ji (zBU I hg hm hv ?_ hn hdb)
 exact PyProof.Rows.callWith_builtin1 (thn (ha pos pins s σ H _ I h) fun us s1 ⟨vs, H1, I1, r1, q1⟩ => hc pins s1 σ H1 vs us Q I1 r1 q1) he hpl
theorem zML (hc : zAR X (.type T) r) (hg : Gl X x) (hm : X.mg x = none) (hv : bootBuiltins x = some (.type T)) (ha : PA X (e :: es) t) (hn : x ≠ "__name__" := by decide) (hdb : (x == ("__debug__" : Str)) = false := by decide)
  (he : starEach (e :: es) X.env = (false, eval e X.env) :: starEach es X.env := by rfl) (hpl : (backTo pos (starEach es X.env)).any (·.1) = false := by rfl) : PE X (.Call (.Name x p) (e :: es) [] pos) (tCB r t) := by
 intro pins s σ H Q I h
 refine Ji (zBU I hg hm hv ?_ hn hdb)
 exact YA (thn (ha pos pins s σ H _ I h) fun us s1 ⟨vs, H1, I1, r1, q1⟩ => hc pins s1 σ H1 vs us Q I1 r1 q1) he hpl
end
end L2
namespace HT
open PySem PyProof.Rows
noncomputable def lexLt : List Int -> List Int -> Bool
 | [], [] => false
 | [], _ :: _ => true
 | _ :: _, [] => false
 | x :: xs, y :: ys => if x = y then lexLt xs ys else decide (x < y)
theorem lexLt_cons (x y : Int) (xs ys : List Int) : lexLt (x :: xs) (y :: ys) = if x = y then lexLt xs ys else decide (x < y) := rfl
theorem zLG : lexLt [] [] = false := rfl
theorem zLF (y : Int) (ys : List Int) : lexLt [] (y :: ys) = true := rfl
theorem zLE (x : Int) (xs : List Int) : lexLt (x :: xs) [] = false := rfl
theorem zKT (A : Around) (s : Shared) (a : Int) (t : Tok) (c : Int) (u : Tok) : ∃ e, SeqAt.EqAt A s (.int a t) (.int c u) e /\ (e = true ↔ a = c) :=
 ⟨(a == c), SeqAt.EqAt.int_int a t c u, by simp⟩
theorem rcLt_int (A : Around) (s : Shared) (a : Int) (t : Tok) (c : Int) (u : Tok) (prog : Program) (w : World) (E : Value -> Shared -> Prop) (Q : Value -> Shared -> Prop) (h : Q (.bool (decide (a < c))) s) :
  wpAny (model prog w) A (richCompare .Lt (.int a t) (.int c u)) Q E s :=
 (PyProof.Rows.lt_int h : wpAny (model prog w) A (compareOp .Lt (.int a t) (.int c u)) Q E s)
section
open PySem.SeqAt
open PySem.AutoSeq1 (wpAny_loadPart')
open PySem.MeetsSeq PySem.MeetsSeq2 PySem.MeetsSeq3
theorem zOa (l b : Addr) (items items2 : Array Value) (n n2 : Nat) (dd dd2 : Option Addr) (sl sl2 : Array (Option Value)) (ns ms : List Int) (hi : IntsAre items.toList ns) (hj : IntsAre items2.toList ms) :
  Meets (Builtin.«tuple.__lt__» ⟨[.ref l, .ref b], []⟩)
   (fun _ R s => s.heap.get? l = some { cls := .type "tuple", dict := dd, data := .seq items n, slots := sl } /\ s.heap.get? b = some { cls := .type "tuple", dict := dd2, data := .seq items2 n2, slots := sl2 } /\
    R (.ok (.ret (.bool (lexLt ns ms)))) s) :=
 .of_wp fun prog w A R s h => by
  obtain ⟨hp, g, d, tk, os⟩ := s; obtain ⟨hl, hb, h⟩ := h
  have f2 := AutoSeq1.sub_tuple_tuple
  have z1 : items.size = ns.length := by rw [<- hi.length]; simp
  have z2 : items2.size = ms.length := by rw [<- hj.length]; simp
  wp_walk using wpAny_loadPart' hl, wpAny_loadPart' hb, Ja _ (fun rest b s' => b.1 = none /\ s' = ⟨hp, g, d, tk, os⟩ /\ ∃ (vs ws : List Value) (ns' ms' : List Int), rest = vs.zip ws /\
   IntsAre vs ns' /\ IntsAre ws ms' /\ ns'.length + items2.size = ms'.length + items.size /\ R (.ok (.ret (.bool (lexLt ns' ms')))) ⟨hp, g, d, tk, os⟩) _
  case turn =>
   rintro ⟨y, x⟩ rest b s' ⟨hb', rfl, vs, ws, ns', ms', hz, hvi, hwi, hlen, hR⟩
   cases hvi with
   | nil => rw [List.zip_nil_left] at hz; cases hz
   | cons a t hvi' =>
    cases hwi with
    | nil => rw [List.zip_nil_right] at hz; cases hz
    | cons c u hwi' =>
     rw [List.zip_cons_cons] at hz
     injection hz with hyx hrest
     injection hyx with hy hx
     subst hy hx
     rw [lexLt_cons] at hR
     simp only [QM] at hlen
     obtain ⟨e, he, hiff⟩ := zKT A.in1 ⟨hp, g, d, tk, os⟩ a t c u
     refine Qa (he prog w _ _ ?_)
     cases e with
     | true =>
      rw [if_pos (hiff.mp rfl)] at hR
      wp_walk
      exact ⟨rfl, rfl, _, _, _, _, hrest, hvi', hwi', by lia, hR⟩
     | false =>
      rw [if_neg (fun q => absurd (hiff.mpr q) Qs)] at hR
      have hri := rcLt_int A.in1 ⟨hp, g, d, tk, os⟩ a t c u prog w
      wp_walk using hri
      exact ⟨_, rfl, by simpa using hR⟩
  case fin =>
   rintro ⟨b1, b2⟩ s' ⟨hb', rfl, vs, ws, ns', ms', hz, hvi, hwi, hlen, hR⟩
   simp only at hb'
   subst hb'
   have hv : lexLt ns' ms' = decide (items.size < items2.size) := by
    cases hvi with
    | nil =>
     cases hwi with
     | nil =>
      simp only [JA] at hlen
      rw [zLG]
      exact (decide_eq_false (by lia)).symm
     | cons c u hw =>
      simp only [JA, QM] at hlen
      rw [zLF]
      exact (decide_eq_true (by lia)).symm
    | cons a t hv =>
     cases hwi with
     | nil =>
      simp only [JA, QM] at hlen
      rw [zLE]
      exact (decide_eq_false (by lia)).symm
     | cons c u hw =>
      rw [List.zip_cons_cons] at hz
      cases hz
   rw [hv] at hR
   wp_walk
   exact ⟨_, rfl, by simpa [Builtin.Tuple.tupleCompareSizes] using hR⟩
  case h =>
   exact ⟨rfl, rfl, items.toList, items2.toList, ns, ms, rfl, hi, hj, by lia, h⟩
end
section
variable {prog : Program} {w : World} {A : Around} {E : Value -> Shared -> Prop} {s : Shared}
theorem lt_tupInts {l b : Addr} {items items2 : Array Value} {ns ms : List Int} {Q : Value -> Shared -> Prop} (hl : IsTup s.heap l items) (hb : IsTup s.heap b items2) (hi : IntsAre items.toList ns) (hj : IntsAre items2.toList ms)
  (hu : A.units < cLine) (h : Q (.bool (lexLt ns ms)) s) : wpAny (model prog w) A (compareOp .Lt (.ref l) (.ref b)) Q E s := by
 obtain ⟨⟨cls, dd, data, sl⟩, ho, hc, n, hd⟩ := id hl
 obtain ⟨⟨cls2, dd2, data2, sl2⟩, ho2, hc2, n2, hd2⟩ := id hb
 simp only at hc hd hc2 hd2
 subst hc hd hc2 hd2
 exact richCompare_meets_room (op := .Lt) ⟨_, ho, rfl⟩ ⟨_, ho2, rfl⟩ PySem.F.slot_tuple_lt PySem.F.entry_tuple_lt (PySem.F.args_tuple_lt_2 _ _) (zOa l b items items2 n n2 dd dd2 sl sl2 ns ms hi hj)
  ⟨ho, ho2, show Value.bool (lexLt ns ms) ≠ Value.notImplemented /\ Q (.bool (lexLt ns ms)) s from ⟨(fun x => nomatch x), h⟩⟩ hu
theorem cat_tup {t b : Addr} {vs ws : List Value} {Q : Value -> Shared -> Prop} (ht : IsTup s.heap t vs.toArray) (hb : IsTup s.heap b ws.toArray) (hv : vs ≠ [])
  (h1 : ws = [] -> Q (.ref t) s) (h2 : ws ≠ [] -> Q (.ref s.heap.objs.size) { s with heap := s.heap.push { cls := .type "tuple", data := .seq (vs ++ ws).toArray } })
  (hsz : vs.length + ws.length <= sizeLine) : wpAny (model prog w) A (binaryOp .Add (.ref t) (.ref b)) Q E s := by
 obtain ⟨⟨cls, dd, data, sl⟩, ho, hc, n, hd⟩ := id ht
 obtain ⟨⟨cls2, dd2, data2, sl2⟩, ho2, hc2, n2, hd2⟩ := id hb
 simp only at hc hd hc2 hd2
 subst hc hd hc2 hd2
 have e : vs.toArray ++ ws.toArray = (vs ++ ws).toArray := by simp
 by_cases hw : ws = []
 ·exact concat_meets ⟨_, ho, rfl⟩ ⟨_, ho2, rfl⟩ noFill_tuple_add seq_tuple_add PySem.F.slot_tuple_add PySem.F.entry_tuple_add (PySem.F.args_tuple_add_2 _ _)
   (tuple_addW1 t b vs.toArray ws.toArray n n2 dd dd2 sl sl2 (by simpa using hv) (by simp [hw])) ⟨ho, ho2, h1 hw⟩
 ·refine concat_meets ⟨_, ho, rfl⟩ ⟨_, ho2, rfl⟩ noFill_tuple_add seq_tuple_add PySem.F.slot_tuple_add PySem.F.entry_tuple_add (PySem.F.args_tuple_add_2 _ _)
   (tuple_addW2 t b vs.toArray ws.toArray n n2 dd dd2 sl sl2 (by simpa using hv) (by simpa using hw) (by rw [QE, QE]; exact hsz)) ⟨ho, ho2, ?_⟩
  rw [e]
  exact h2 hw
noncomputable def sIx (n d : Nat) : Option Int -> Nat
 | none => d
 | some v => if v < 0 then (v + (n : Int)).toNat else min v.toNat n
theorem sIx_none (n d : Nat) : sIx n d none = d := rfl
theorem sIx_nat (n d k : Nat) : sIx n d (some (k : Int)) = min k n := by
 show (if (k : Int) < 0 then ((k : Int) + (n : Int)).toNat else min (k : Int).toNat n) = min k n
 rw [if_neg (by lia), Jp]
theorem zNI (n d : Nat) (hd : d <= n) (o : Option Int) : sIx n d o <= n := by
 cases o with
 | none => exact hd
 | some v =>
  show (if v < 0 then (v + (n : Int)).toNat else min v.toNat n) <= n
  by_cases hv : v < 0
  ·rw [if_pos hv]; lia
  ·rw [if_neg hv]; exact Nat.min_le_right _ _
theorem sb1 {i : Int} {n : Nat} (h : i < 0) : max 0 (min (i + (n : Int)) (n : Int)) = (((i + (n : Int)).toNat : Nat) : Int) := by
 rw [Int.min_eq_left (by lia), Int.max_comm, <- Int.ofNat_toNat]
theorem sb4 {i : Int} {n : Nat} (h : ¬ i < 0) : min i (n : Int) = ((min i.toNat n : Nat) : Int) := by
 obtain ⟨k, rfl⟩ := Int.eq_ofNat_of_zero_le (Int.not_lt.mp h)
 rw [Jp]
 by_cases c : k <= n
 ·rw [Nat.min_eq_left c, Int.min_eq_left (Int.ofNat_le.mpr c)]
 ·rw [Nat.min_eq_right (Nat.le_of_not_le c), Int.min_eq_right (Int.ofNat_le.mpr (Nat.le_of_not_le c))]
theorem sb2 {i : Int} {n : Nat} (h : ¬ i < 0) : max 0 (min i (n : Int)) = ((min i.toNat n : Nat) : Int) := by
 rw [sb4 h, Int.max_eq_right (YH _)]
theorem sb3 {i : Int} {n : Nat} : max (i + (n : Int)) 0 = (((i + (n : Int)).toNat : Nat) : Int) := (Int.ofNat_toNat _).symm
theorem zGQ (v : Int) (n d : Nat) : (if v < 0 then max (v + (n : Int)) 0 else min v (n : Int)) = ((sIx n d (some v) : Nat) : Int) := by
 show (if v < 0 then max (v + (n : Int)) 0 else min v (n : Int)) = (((if v < 0 then (v + (n : Int)).toNat else min v.toNat n) : Nat) : Int)
 by_cases hv : v < 0
 ·simp only [if_pos hv]; exact sb3
 ·simp only [if_neg hv]; exact sb4 hv
theorem zJG (lo hi : Option Int) (n : Nat) : Builtin.Slice.sliceAdjust lo hi 1 (n : Int) = (((sIx n 0 lo : Nat) : Int), ((sIx n n hi : Nat) : Int)) := by
 have h1 : ¬ ((1 : Int) < 0) := by lia
 unfold Builtin.Slice.sliceAdjust
 simp only [h1, if_false]
 refine Jn ?_ ?_
 ·cases lo with
  | none => rfl
  | some v => exact zGQ v n 0
 ·cases hi with
  | none => rfl
  | some v => exact zGQ v n n
theorem zM9 (i j : Nat) : Builtin.Slice.slicePlaces (i : Int) (j : Int) 1 = j - i := by
 unfold Builtin.Slice.slicePlaces
 have h1 : (1 : Int) > 0 := by lia
 simp only [h1, if_true, Int.ediv_one]
 split <;> lia
theorem zI7 {v : Value} {o : Option Int} {Q : Option Int -> Shared -> Prop} (p : IsPart v o) (h : Q o s) : wpAny (model prog w) A (Builtin.Slice.slicePartIndex v) Q E s := by
 cases p with
 | none => exact slicePart_none h
 | int i t => exact slicePart_int h
theorem zI6 {sl : Addr} {vl vu : Value} {lo hi : Option Int} {n : Nat} {Q : Int × Int × Nat -> Shared -> Prop} (hs : s.heap.IsSliceOf sl vl vu .none) (pl : IsPart vl lo) (pu : IsPart vu hi)
  (h : Q (((sIx n 0 lo : Nat) : Int), 1, sIx n n hi - sIx n 0 lo) s) : wpAny (model prog w) A (Builtin.Slice.sliceApplied (.ref sl) (pure (n : Int))) Q E s := by
 obtain ⟨os, hos, hcs, hds⟩ := id hs
 unfold Builtin.Slice.sliceApplied Builtin.Slice.sliceFields
 refine Qa (Qa (JE hos hds (x := vl) rfl (Qa (JE hos hds (x := vu) rfl (Qa (JE hos hds (x := .none) rfl (Qb ?_)))))))
 refine Qa (slicePart_none ?_)
 show wpAny _ _ (if ((1 : Int) == 0) = true then _ else _) _ _ s
 rw [if_neg (by decide)]
 refine Qa (zI7 pl (Qa (zI7 pu (Qa (Qb ?_)))))
 show wpAny _ _ (match Builtin.Slice.sliceAdjust lo hi 1 (n : Int) with | (lo, hi) => pure (lo, (1 : Int), Builtin.Slice.slicePlaces lo hi 1)) _ _ s
 rw [zJG lo hi n]
 show wpAny _ _ (pure (((sIx n 0 lo : Nat) : Int), (1 : Int), Builtin.Slice.slicePlaces ((sIx n 0 lo : Nat) : Int) ((sIx n n hi : Nat) : Int) 1)) _ _ s
 rw [zM9]
 exact Qb h
theorem zM7 (xs : Array Value) (i k : Nat) : ((List.range k).filterMap fun (m : Nat) => xs[((i : Int) + (m : Int) * 1).toNat]?).toArray = ((xs.toList.drop i).take k).toArray := by
 have e : (fun (m : Nat) => xs[((i : Int) + (m : Int) * 1).toNat]?) = fun m => xs[i + m]? := by
  funext m
  have : ((i : Int) + (m : Int) * 1).toNat = i + m := by lia
  rw [this]
 rw [e]
 have := pick_run xs i k
 rw [List.filterMap_map] at this
 have e2 : ((fun x => xs[x]?) ∘ fun x => i + x) = fun m => xs[i + m]? := rfl
 rw [e2] at this
 rw [this]
theorem getItem_tuple_cut {t sl : Addr} {items : Array Value} {vl vu : Value} {lo hi : Option Int} {Q : Value -> Shared -> Prop} (ht : IsTup s.heap t items) (hs : s.heap.IsSliceOf sl vl vu .none) (pl : IsPart vl lo) (pu : IsPart vu hi)
  (hw : ¬ (sIx items.size 0 lo = 0 /\ sIx items.size items.size hi = items.size))
  (h : Q (.ref s.heap.objs.size) { s with heap := s.heap.push { cls := .type "tuple", data := .seq ((items.toList.drop (sIx items.size 0 lo)).take (sIx items.size items.size hi - sIx items.size 0 lo)).toArray } })
  (hsz : items.size <= sizeLine) : wpAny (model prog w) A (getItem (.ref t) (.ref sl)) Q E s := by
 have htake : sizeOk (.seq ((items.toList.drop (sIx items.size 0 lo)).take (sIx items.size items.size hi - sIx items.size 0 lo)).toArray) := by
  show ((items.toList.drop (sIx items.size 0 lo)).take (sIx items.size items.size hi - sIx items.size 0 lo)).toArray.size <= sizeLine
  rw [QE, Q2, Yi, Qo]
  lia
 have hj : sIx items.size items.size hi <= items.size := zNI _ _ (Qj _) hi
 obtain ⟨os, hos, hcs, hds⟩ := id hs
 have hTs : s.TypeIs (.ref sl) "slice" := ⟨os, hos, hcs⟩
 unfold getItem
 try with_reducible refine Ya ?_
 first | refine Qa (Qb ?_) | skip
 refine Qa (wpAny_sequenceKey ht.typeIs (by decide) ?_)
 refine Qa (Yy (name := Str.ofString "__getitem__") ht.typeIs YF
  (Yj YF ht.typeIs entry_tuple_getitem ?_ (args_tuple_getitem _ _)))
 show wpAny _ _ (Builtin.Tuple.tupleItemsOf (.ref t) >>= _) _ _ s
 refine Qa (tupleItemsOf_ ht ?_)
 refine Qa (YS hTs ?_)
 rw [if_pos (by decide)]
 refine Qa (zI6 hs pl pu ?_)
 have hno : ¬ ((((sIx items.size 0 lo : Nat) : Int) == 0 && (1 : Int) == 1 && (sIx items.size items.size hi - sIx items.size 0 lo) == items.size) = true) := by
  intro q
  rw [Qw, Qw] at q
  have q1 : ((sIx items.size 0 lo : Nat) : Int) = 0 := QZ q.1.1
  have q2 : sIx items.size items.size hi - sIx items.size 0 lo = items.size := QZ q.2
  exact hw ⟨by lia, by lia⟩
 show wpAny _ _ (if (((sIx items.size 0 lo : Nat) : Int) == 0 && (1 : Int) == 1 && (sIx items.size items.size hi - sIx items.size 0 lo) == items.size) = true then _ else _) _ _ s
 rw [if_neg hno, zM7]
 first
  | exact Qa (m := Builtin.Tuple.tupleExact _) (Yl (Qb ⟨_, rfl, Qb h⟩) htake)
  | exact Qa (m := Builtin.Tuple.tupleExact _) (Yl (Qa (Qb (Qb ⟨_, rfl, Qb h⟩))) htake)
  | exact Qa (Qa (m := Builtin.Tuple.tupleExact _) (Yl (Qb (Qb ⟨_, rfl, Qb h⟩)) htake))
  | exact Qa (Qa (m := Builtin.Tuple.tupleExact _) (Yl (Qb ⟨_, rfl, Qb h⟩) htake))
end
end HT
namespace L2
open PySem PySem.Spec PyProof.Rows
abbrev TO := St -> Hp -> (Option Int -> Hp -> Prop) -> Prop
noncomputable def PO (X : Cx) (e : Option Expr) (t : TO) : Prop :=
 ∀ (pins : List (Addr × Obj)) (s : Shared) (σ : St) (H : Hp) (Q : Option Int -> Hp -> Prop), Inv X pins σ H s -> t σ H Q ->
  wpAny (model X.prog X.w) X.A (evalPart e X.env) (fun u s' => ∃ o H', Inv X pins σ H' s' /\ IsPart u o /\ Q o H') X.xe s
noncomputable def zN5 : TO := fun _ H Q => Q none H
noncomputable def tPart (t : TE) : TO := fun σ H Q => t σ H fun x H1 => ∃ i, x = .int i /\ Q (some i) H1
theorem zHS {ns : List Int} : ∀ {us : List Value}, Vals (ns.map V.int) us -> IntsAre us ns := by
 induction ns with
 | nil => intro us r; rw [List.map_nil] at r; cases r; exact .nil
 | cons n ns ih =>
  intro us r
  rw [Ql] at r
  cases r with
  | cons r1 r2 =>
   obtain ⟨t, e⟩ := r1
   subst e
   exact .cons n t (ih r2)
section
variable {X : Cx} {e : Expr} {te : TE} {lo hi : Option Expr} {tl th : TO} {pos p2 : Pos}
theorem zNb : PO X none zN5 := by
 intro pins s σ H Q I h
 rw [evalPart_none]
 exact Qb ⟨none, H, I, .none, h⟩
theorem zNc (h : PE X e te) : PO X (some e) (tPart te) := by
 intro pins s σ H Q I hw
 rw [evalPart_some]
 refine thn (h pins s σ H _ I hw) fun u s1 zz => ?_
 obtain ⟨x, H1, I1, r1, q1⟩ := zz
 obtain ⟨i, rfl, q⟩ := q1
 obtain ⟨t, rfl⟩ := r1
 exact ⟨some i, H1, I1, .int i t, q⟩
noncomputable def SlR (X : Cx) (r : V -> Option Int -> Option Int -> Hp -> VK -> Prop) : Prop :=
 ∀ (pins : List (Addr × Obj)) (s : Shared) (σ : St) (H : Hp) (x : V) (v vl vu : Value) (lo hi : Option Int) (sl : Addr) (Q : VK), Inv X pins σ H s -> RelV x v -> s.heap.IsSliceOf sl vl vu .none -> IsPart vl lo -> IsPart vu hi -> r x lo hi H Q ->
  ∃ T id, typeLookup (.type T) "__getitem__" = pure (some (.builtin id)) /\ s.TypeIs v T /\ wpAny (model X.prog X.w) X.A (getItem v (.ref sl)) (EP X pins σ Q) X.xe s
theorem SlR.or {r r' : V -> Option Int -> Option Int -> Hp -> VK -> Prop} (h : SlR X r) (h' : SlR X r') : SlR X (fun x lo hi H Q => r x lo hi H Q ∨ r' x lo hi H Q) := by
 intro pins s σ H x v vl vu lo hi sl Q I rx hs pl pu q
 rcases q with q | q
 ·exact h pins s σ H x v vl vu lo hi sl Q I rx hs pl pu q
 ·exact h' pins s σ H x v vl vu lo hi sl Q I rx hs pl pu q
noncomputable def tSl (r : V -> Option Int -> Option Int -> Hp -> VK -> Prop) (te : TE) (tl th : TO) : TE := fun σ H Q => te σ H fun x H1 => tl σ H1 fun l H2 => th σ H2 fun u H3 => r x l u H3 Q
theorem zMW {r : V -> Option Int -> Option Int -> Hp -> VK -> Prop} (hr : SlR X r) (he : PE X e te) (hl : PO X lo tl) (hu : PO X hi th) : PE X (.Subscript e (.Slice lo hi none p2) pos) (tSl r te tl th) := by
 intro pins s σ H Q I h
 refine Subscript_ (thn (he pins s σ H _ I h) fun v s1 zz => ?_)
 obtain ⟨x, H1, I1, r1, q1⟩ := zz
 refine wpAny_Slice (thn (hl pins s1 σ H1 _ I1 q1) fun vl s2 ⟨l, H2, I2, pl, q2⟩ => thn (hu pins s2 σ H2 _ I2 q2) fun vu s3 zz => ?_)
 obtain ⟨u, H3, I3, pu, q3⟩ := zz
 rw [evalPart_none]
 refine Qb ?_
 have I4 : Inv X pins σ H3 { s3 with heap := s3.heap.push { cls := .type "slice", data := .fields #[vl, vu, .none] } } := I3.kept (t' := s3.toks) fun b ob q => Qc _ q
 obtain ⟨T, id, hT, ht, hg⟩ := hr pins { s3 with heap := s3.heap.push { cls := .type "slice", data := .fields #[vl, vu, .none] } } σ H3 x v vl vu l u s3.heap.objs.size Q I4 r1 (Heap.IsSliceOf.new ..) pl pu q3
 show wpAny (model X.prog X.w) X.A (subscriptTail e (.Slice lo hi none p2) v (.ref s3.heap.objs.size)) (EP X pins σ Q) X.xe { s3 with heap := s3.heap.push { cls := .type "slice", data := .fields #[vl, vu, .none] } }
 exact tail_any (ops := [.ref s3.heap.objs.size, v]) ht hT hg (by with_unfolding_all rfl)
noncomputable def cutV (xs : List V) (lo hi : Option Int) : List V := (xs.drop (HT.sIx xs.length 0 lo)).take (HT.sIx xs.length xs.length hi - HT.sIx xs.length 0 lo)
theorem zGV (xs : List V) (lo hi : Option Int) : (cutV xs lo hi).length <= xs.length := by
 unfold cutV
 rw [Q2, Yi]
 lia
noncomputable def rSlT (K : PySem.W.Frag) : V -> Option Int -> Option Int -> Hp -> VK -> Prop := fun x lo hi H Q => ∃ a xs, x = .ref a /\ SqT K H a xs /\
 ¬ (HT.sIx xs.length 0 lo = 0 /\ HT.sIx xs.length xs.length hi = xs.length) /\ ∀ p, H p = none -> Q (.ref p) (upd H p (.tup (cutV xs lo hi)))
theorem zNO : SlR X (rSlT X.K) := by
 intro pins s σ H x v vl vu lo hi sl Q I rx hs pl pu h
 obtain ⟨a, xs, rfl, hx, hw, q⟩ := h
 cases rx
 obtain ⟨its, r, ht, hz⟩ := I.tuple hx
 have hlen : its.toArray.size = xs.length := by rw [QE]; exact r.length.symm
 refine ⟨"tuple", _, YF.lookup, ht.typeIs, ?_⟩
 refine HT.getItem_tuple_cut ht hs pl pu (by rw [hlen]; exact hw) ?_ (by rw [hlen]; exact hz)
 rw [hlen]
 refine ⟨.ref s.heap.objs.size, _, I.laid (t' := s.toks) (o := .tup (cutV xs lo hi)) (fun b ob q => Qc _ q) (Qj _) ?_, rfl, q _ (I.hok.fresh (Qj _))⟩
 exact ⟨Qt (zGV xs lo hi) hz, _, (r.drop (HT.sIx xs.length 0 lo)).take (HT.sIx xs.length xs.length hi - HT.sIx xs.length 0 lo), IsTup.new _ _⟩
noncomputable def rLtT (K : PySem.W.Frag) : R2 := fun x y H Q => ∃ a b ns ms, x = .ref a /\ y = .ref b /\ SqT K H a (ns.map V.int) /\ SqT K H b (ms.map V.int) /\ Q (.bl (HT.lexLt ns ms)) H
theorem zMy (hu : X.A.units < cLine) : OpR X (compareOp .Lt) (rLtT X.K) := by
 intro pins s σ H x y v u Q I rx ry h
 obtain ⟨a, b, ns, ms, rfl, rfl, ha, hb, q⟩ := h
 cases rx
 cases ry
 obtain ⟨its, r1, p1, _⟩ := I.tuple ha
 obtain ⟨its2, r2, p2, _⟩ := I.tuple hb
 have i1 : IntsAre its.toArray.toList ns := zHS r1
 have i2 : IntsAre its2.toArray.toList ms := zHS r2
 exact HT.lt_tupInts p1 p2 i1 i2 hu ⟨.bl (HT.lexLt ns ms), H, I, rfl, q⟩
noncomputable def rCatT (K : PySem.W.Frag) : R2 := fun x y H Q => ∃ a b xs ys, x = .ref a /\ y = .ref b /\ SqT K H a xs /\ SqT K H b ys /\ xs ≠ [] /\ xs.length + ys.length <= sizeLine /\
 (ys = [] -> Q (.ref a) H) /\ (ys ≠ [] -> ∀ p, H p = none -> Q (.ref p) (upd H p (.tup (xs ++ ys))))
theorem Vals.nil_iff {xs : List V} {us : List Value} (r : Vals xs us) : us = [] ↔ xs = [] := by
 cases r with
 | nil => simp
 | cons _ _ => simp
theorem zMw : OpR X (binaryOp .Add) (rCatT X.K) := by
 intro pins s σ H x y v u Q I rx ry h
 obtain ⟨a, b, xs, ys, rfl, rfl, ha, hb, hx, hz, q1, q2⟩ := h
 cases rx
 cases ry
 obtain ⟨its, r1, p1, _⟩ := I.tuple ha
 obtain ⟨its2, r2, p2, _⟩ := I.tuple hb
 refine HT.cat_tup p1 p2 (fun z => hx (r1.nil_iff.mp z)) (fun z => ⟨.ref a, H, I, rfl, q1 (r2.nil_iff.mp z)⟩) (fun z => ?_) (by rw [<- r1.length, <- r2.length]; exact hz)
 refine ⟨.ref s.heap.objs.size, _, I.laid (t' := s.toks) (o := .tup (xs ++ ys)) (fun b ob q => Qc _ q) (Qj _) ?_, rfl, q2 (fun w => z (r2.nil_iff.mpr w)) _ (I.hok.fresh (Qj _))⟩
 exact ⟨by rw [Qm]; exact hz, _, r1.append r2, IsTup.new _ _⟩
end
end L2
namespace L2
open PySem PySem.Spec PyProof.Rows
noncomputable def ixN (n : Nat) (i : Int) : Option Nat := if 0 <= i then (if i < n then some i.toNat else none) else if -(n : Int) <= i then some (i + n).toNat else none
noncomputable def atI {α : Type} (xs : List α) (i : Int) : Option α := (ixN xs.length i).bind fun j => xs[j]?
theorem zLp {n : Nat} {i : Int} {j : Nat} (h : ixN n i = some j) : seqIndex? i n = some j /\ j < n /\ -(n : Int) <= i /\ i < n := by
 unfold ixN at h
 by_cases h0 : 0 <= i
 ·rw [if_pos h0] at h
  by_cases h1 : i < n
  ·rw [if_pos h1] at h
   have e : i.toNat = j := QJ h
   exact ⟨by rw [seqIndex_of h0 h1, e], by lia, by lia, h1⟩
  ·rw [if_neg h1] at h; cases h
 ·rw [if_neg h0] at h
  by_cases h1 : -(n : Int) <= i
  ·rw [if_pos h1] at h
   have e : (i + n).toNat = j := QJ h
   exact ⟨by rw [seqIndex_neg (by lia) h1, e], by lia, h1, by lia⟩
  ·rw [if_neg h1] at h; cases h
theorem zGH {α : Type} {xs : List α} {i : Int} {v : α} (h : atI xs i = some v) : ∃ j, seqIndex? i xs.length = some j /\ xs[j]? = some v /\ j < xs.length /\ -(xs.length : Int) <= i /\ i < xs.length := by
 unfold atI at h
 cases e : ixN xs.length i with
 | none => rw [e] at h; cases h
 | some j =>
  rw [e] at h
  obtain ⟨h1, h2, h3, h4⟩ := zLp e
  exact ⟨j, h1, h, h2, h3, h4⟩
noncomputable def zGE (b : Expr) : Prop := ∀ o i, subscripted b false o i = operate [o, i] (getItem o i)
noncomputable def IxR (X : Cx) (r : R2) : Prop :=
 ∀ (value slice : Expr) (pins : List (Addr × Obj)) (s : Shared) (σ : St) (H : Hp) (x y : V) (v u : Value) (Q : VK), Inv X pins σ H s -> RelV x v -> RelV y u -> r x y H Q ->
  subscripted slice false v u = operate [v, u] (getItem v u) -> wpAny (model X.prog X.w) X.A (subscriptTail value slice v u) (EP X pins σ Q) X.xe s
noncomputable def MtR (X : Cx) (id : String) (r : V -> List V -> Hp -> VK -> Prop) : Prop :=
 ∀ (pins : List (Addr × Obj)) (s : Shared) (σ : St) (H : Hp) (x : V) (xs : List V) (v : Value) (us : List Value) (Q : VK), Inv X pins σ H s -> RelV x v -> Vals xs us -> r x xs H Q ->
  wpAny (model X.prog X.w) X.A (call (.builtin id) (v :: us)) (EP X pins σ Q) X.xe s
section
variable {X : Cx} {a b : Expr} {ta tb : TE} {pos : Pos}
theorem IxR.or {r r' : R2} (h : IxR X r) (h' : IxR X r') : IxR X (fun x y H Q => r x y H Q ∨ r' x y H Q) := by
 intro value slice pins s σ H x y v u Q I rx ry q hs
 rcases q with q | q
 ·exact h value slice pins s σ H x y v u Q I rx ry q hs
 ·exact h' value slice pins s σ H x y v u Q I rx ry q hs
theorem pe_ix {r : R2} (hr : IxR X r) (ha : PE X a ta) (hb : PE X b tb) (hs : zGE b) : PE X (.Subscript a b pos) (tOp r ta tb) := by
 intro pins s σ H Q I h
 exact Subscript_ (binT ha hb I h fun v u s2 x y H2 I2 rx ry q => hr a b pins s2 σ H2 x y v u Q I2 rx ry q (hs _ _))
noncomputable def rIxL (K : PySem.W.Frag) : R2 := fun x y H Q => ∃ p xs i v, x = .ref p /\ y = .int i /\ SqL K H p xs /\ atI xs i = some v /\ Q v H
noncomputable def rIxT (K : PySem.W.Frag) : R2 := fun x y H Q => ∃ p xs i v, x = .ref p /\ y = .int i /\ SqT K H p xs /\ atI xs i = some v /\ Q v H
theorem zLq : IxR X (rIxL X.K) := by
 intro value slice pins s σ H x y v u Q I rx ry h hs
 obtain ⟨p, xs, i, z, rfl, rfl, hq, he, q⟩ := h
 cases rx
 obtain ⟨t, rfl⟩ := ry
 obtain ⟨its, r, pl, hz⟩ := I.list hq
 obtain ⟨j, h1, h2, h3, h4, h5⟩ := zGH he
 obtain ⟨w, ew, rw'⟩ := r.get h2
 have hl := r.length
 have hn := zFA
 have fin : EP X pins σ Q w s := ⟨z, H, I, rw', q⟩
 by_cases h0 : 0 <= i
 ·have hj : i.toNat = j := by
   rw [seqIndex_of h0 h5] at h1
   exact QJ h1
  exact item_listR pl.isList h0 (by lia) (by rw [hj]; simpa using ew) fin hs
 ·have hj : (i + (its.toArray.size : Int)).toNat = j := by
   rw [seqIndex_neg (by lia) h4] at h1
   rw [QE, <- hl]
   exact QJ h1
  exact subscriptTail_builtinR (x := w) pl.isList.typeIs slot_list_getitem.lookup
   (wpAny_getItem_list_neg (Q := fun r s' => r = w /\ EP X pins σ Q r s') pl.isList (by lia) (by rw [QE] <;> lia) (by lia) (by rw [hj]; simpa using ew) ⟨rfl, fin⟩) hs
theorem zLr : IxR X (rIxT X.K) := by
 intro value slice pins s σ H x y v u Q I rx ry h hs
 obtain ⟨p, xs, i, z, rfl, rfl, hq, he, q⟩ := h
 cases rx
 obtain ⟨t, rfl⟩ := ry
 obtain ⟨its, r, pl, hz⟩ := I.tuple hq
 obtain ⟨j, h1, h2, h3, h4, h5⟩ := zGH he
 obtain ⟨w, ew, rw'⟩ := r.get h2
 have hl := r.length
 have hn := zFA
 have fin : EP X pins σ Q w s := ⟨z, H, I, rw', q⟩
 exact subscriptTail_builtinR (x := w) pl.typeIs slot_tuple_getitem.lookup
  (getItem_tuple (j := j) (Q := fun r s' => r = w /\ EP X pins σ Q r s') pl (by lia) (by lia) (by rw [QE, <- hl]; exact h1) (by simpa using ew) ⟨rfl, fin⟩) hs
theorem zNQ (lo hi : Option Int) (n : Nat) : (sliceBounds lo hi none n).1 = ((HT.sIx n 0 lo : Nat) : Int) /\ (sliceBounds lo hi none n).2.1 = ((HT.sIx n n hi : Nat) : Int) /\ (sliceBounds lo hi none n).2.2 = 1 := by
 refine ⟨?_, ?_, rfl⟩
 ·cases lo with
  | none => simp [sliceBounds, HT.sIx]
  | some i =>
   simp only [sliceBounds, HT.sIx, Option.getD_none, show (1 : Int) > 0 by decide, if_true]
   by_cases h : i < 0
   ·simp only [h, if_true]; exact HT.sb1 h
   ·simp only [h, if_false]; exact HT.sb2 h
 ·cases hi with
  | none => simp [sliceBounds, HT.sIx]
  | some i =>
   simp only [sliceBounds, HT.sIx, Option.getD_none, show (1 : Int) > 0 by decide, if_true]
   by_cases h : i < 0
   ·simp only [h, if_true]; exact HT.sb1 h
   ·simp only [h, if_false]; exact HT.sb2 h
theorem zNP (its : List Value) (lo hi : Option Int) : slicePick its.toArray lo hi none = ((its.drop (HT.sIx its.length 0 lo)).take (HT.sIx its.length its.length hi - HT.sIx its.length 0 lo)).toArray := by
 obtain ⟨h1, h2, h3⟩ := zNQ lo hi its.toArray.size
 unfold slicePick
 rw [h1, h2, h3]
 simp only [sliceRange_one, pick_run, QE] <;> rfl
noncomputable def rSlL (K : PySem.W.Frag) : V -> Option Int -> Option Int -> Hp -> VK -> Prop := fun x lo hi H Q => ∃ a xs, x = .ref a /\ SqL K H a xs /\ ∀ p, H p = none -> Q (.ref p) (upd H p (.lst (cutV xs lo hi)))
theorem zNN : SlR X (rSlL X.K) := by
 intro pins s σ H x v vl vu lo hi sl Q I rx hs pl pu h
 obtain ⟨a, xs, rfl, hx, q⟩ := h
 cases rx
 obtain ⟨its, r, ht, hz⟩ := I.list hx
 have hlen := r.length
 refine ⟨"list", _, slot_list_getitem.lookup, ht.isList.typeIs, ?_⟩
 refine wpAny_getItem_list_slice ht.isList hs pl pu .none (by simp) ?_ (by rw [QE] <;> lia)
 rw [zNP, <- hlen]
 refine ⟨.ref s.heap.objs.size, _, I.laid (t' := s.toks) (o := .lst (cutV xs lo hi)) (fun b ob q => Qc _ q) (Qj _) ?_, rfl, q _ (I.hok.fresh (Qj _))⟩
 exact ⟨Qt (zGV xs lo hi) hz, _, 0, (r.drop (HT.sIx xs.length 0 lo)).take (HT.sIx xs.length xs.length hi - HT.sIx xs.length 0 lo), Qx _ rfl⟩
theorem zJW : zAR X (.builtin "len") (fun xs H Q => ∃ p ys, xs = [.ref p] /\ (SqL X.K H p ys ∨ SqT X.K H p ys) /\ Q (.int ys.length) H) := by
 intro pins s σ H xs us Q I r h
 obtain ⟨p, ys, rfl, hq, q⟩ := h
 obtain ⟨u, rfl, rx⟩ := zBN r
 cases rx
 have hn := zFA
 rcases hq with hq | hq
 ·obtain ⟨its, r', pl, hz⟩ := I.list hq
  have hlen := r'.length
  exact Calls.call_len_list pl.isList (by simp only [QE] <;> lia) ⟨.int ys.length, H, I.tok _, ⟨s.toks + 1, by rw [QE, hlen]⟩, q⟩
 ·obtain ⟨its, r', pl, hz⟩ := I.tuple hq
  have hlen := r'.length
  exact len_tuple pl (by simp only [QE] <;> lia) ⟨.int ys.length, H, I.tok _, ⟨s.toks + 1, by rw [QE, hlen]⟩, q⟩
theorem zJZ : zAR X (.type "tuple") (fun xs H Q => ∃ p ys, xs = [.ref p] /\ ((SqL X.K H p ys /\ ∀ l, H l = none -> Q (.ref l) (upd H l (.tup ys))) ∨ (SqT X.K H p ys /\ Q (.ref p) H))) := by
 intro pins s σ H xs us Q I r h
 obtain ⟨p, ys, rfl, h⟩ := h
 obtain ⟨u, rfl, rx⟩ := zBN r
 cases rx
 rcases h with ⟨hq, q⟩ | ⟨hq, q⟩
 ·obtain ⟨its, r', pl, hz⟩ := I.list hq
  have hlen := r'.length
  refine call_tuple_list pl.isList (fun h' kp => ?_) (by simp only [QE] <;> lia)
  have I1 : Inv X pins σ H { s with heap := h' } := I.kept (t' := s.toks) kp
  have I2 : Inv X pins σ (upd H h'.objs.size (.tup ys)) { s with heap := h'.push { cls := .type "tuple", data := .seq its.toArray } } :=
   I1.laid (t' := s.toks) (fun b o e => Qc _ e) (Qj _) (show zAL X.prog X.w _ _ _ (.tup ys) from ⟨hz, its, r', IsTup.new _ _⟩)
  exact ⟨.ref h'.objs.size, _, I2, rfl, q _ (I1.hok.fresh (Qj _))⟩
 ·obtain ⟨its, r', pl, hz⟩ := I.tuple hq
  exact call_tuple_same pl ⟨.ref p, H, I, rfl, q⟩
noncomputable def tyV (K : PySem.W.Frag) (T : String) (x : V) (H : Hp) : Prop := match x with
 | .str _ => T = "str"
 | .int _ => T = "int"
 | .ref p => (T = "list" /\ ∃ xs, SqL K H p xs) ∨ (T = "tuple" /\ ∃ o, K.lookup p = some o /\ o.cls = .type "tuple" /\ o.dict = none) ∨
   (T = "dict" /\ ((∃ kvs, H p = some (.dK kvs)) ∨ ∃ kvs, H p = some (.dT kvs))) ∨ (T = "set" /\ ∃ S n, H p = some (.set S n))
 | _ => False
theorem zOg {pins : List (Addr × Obj)} {σ : St} {H : Hp} {s : Shared} {T : String} {x : V} {v : Value} (I : Inv X pins σ H s) (r : RelV x v) (ty : tyV X.K T x H) :
  s.TypeIs v T /\ ∀ a, v = .ref a -> ∃ ob, s.heap.get? a = some ob /\ ob.dict = none := by
 cases x with
 | str z =>
  obtain ⟨t, rfl⟩ := r
  cases (show T = "str" from ty)
  exact ⟨typeIs_str s z t, fun _ e => nomatch e⟩
 | int i =>
  obtain ⟨t, rfl⟩ := r
  cases (show T = "int" from ty)
  exact ⟨typeIs_int s i t, fun _ e => nomatch e⟩
 | ref p =>
  cases r
  rcases ty with ⟨rfl, xs, hq⟩ | ⟨rfl, o, hk, hc, hd⟩ | ⟨rfl, hk⟩ | ⟨rfl, S, n, hk⟩
  ·obtain ⟨its, _, pl, _⟩ := I.list hq
   refine ⟨pl.isList.typeIs, fun a e => ?_⟩
   cases e
   obtain ⟨o, n, e, c, hd, _⟩ := pl
   exact ⟨o, e, hd⟩
  ·refine ⟨⟨o, I.kIn p o hk, hc⟩, fun a e => ?_⟩
   cases e
   exact ⟨o, I.kIn _ o hk, hd⟩
  ·have z : ∃ o, s.heap.get? p = some o /\ o.ExactDict := by
    rcases hk with ⟨kvs, hk⟩ | ⟨kvs, hk⟩
    ·obtain ⟨_, _, _, _, o, _, _, e, ex, _⟩ := I.hok p _ hk
     exact ⟨o, e, ex⟩
    ·obtain ⟨_, _, _, _, o, _, _, e, ex, _⟩ := I.hok p _ hk
     exact ⟨o, e, ex⟩
   obtain ⟨o, e, ex⟩ := z
   refine ⟨⟨o, e, ex.1⟩, fun a e2 => ?_⟩
   cases e2
   exact ⟨o, e, ex.2.1⟩
  ·obtain ⟨o, _, _, _, e, ex, _⟩ := I.hok p _ hk
   refine ⟨⟨o, e, ex.1⟩, fun a e2 => ?_⟩
   cases e2
   exact ⟨o, e, ex.2.1⟩
 | _ => exact False.elim ty
noncomputable def tBM (K : PySem.W.Frag) (T : String) (r : V -> List V -> Hp -> VK -> Prop) (to : TE) (t : TA) : TE := fun σ H Q => to σ H fun x H1 => tyV K T x H1 /\ t σ H1 fun xs H2 => r x xs H2 Q
variable {o e : Expr} {es : List Expr} {to : TE} {t : TA} {name : Str} {apos cpos : Pos} {T id : String} {r : V -> List V -> Hp -> VK -> Prop}
theorem zFP (pa : PlainAttrs T) (slot : Slot T name id) (hty : typeOf (.builtin id) = pure (.type "method_descriptor")) (hm : MtR X id r) (ho : PE X o to) (ha : PA X (e :: es) t)
  (hbase : attributeBase o name X.env (eval o X.env) = eval o X.env := by rfl)
  (hfew : ((backTo cpos (starEach (e :: es) X.env)).all (fun x => !x.1) && (backToKw cpos (keywordEach [] X.env)).all (fun x => x.1.isSome)
   && decide ((e :: es).length + ([] : List Keyword).length + (if ([] : List Keyword).isEmpty then 0 else 1) < 30)) = true := by rfl)
  (hline : (apos.endLine == cpos.line) = true := by rfl) (hs : starEach (e :: es) X.env = (false, eval e X.env) :: starEach es X.env := by rfl) (hplain : (backTo cpos (starEach es X.env)).any (·.1) = false := by rfl) :
  PE X (.Call (.Attribute o name apos) (e :: es) [] cpos) (tBM X.K T r to t) := by
 intro pins s σ H Q I h
 refine wpAny_Call_method_late hbase hfew hline rfl (thn (ho pins s σ H _ I h) fun v s1 zz => ?_)
 obtain ⟨x, H1, I1, r1, ty, q1⟩ := zz
 obtain ⟨h1, h2⟩ := zOg I1 r1 ty
 refine ⟨T, id, pa, slot, hty, h1, h2, ?_⟩
 have hA := ha cpos pins s1 σ H1 _ I1 q1
 rw [hs] at hA ⊢
 refine Calls.callWith_builtin (by show (false || (backTo cpos (starEach es X.env)).any (·.1)) = false; rw [hplain] <;> rfl) (Calls.evalArgs_plain ?_)
 exact thn hA fun us s2 ⟨vs, H2, I2, r2, q2⟩ => hm pins s2 σ H2 x vs v us Q I2 r1 r2 q2
end
end L2
namespace L2
open PySem PySem.Spec PyProof.Rows
noncomputable def MtM (X : Cx) (id : String) (r : V -> List V -> Hp -> VK -> Prop) : Prop :=
 ∀ (pins : List (Addr × Obj)) (s : Shared) (σ : St) (H : Hp) (x : V) (xs : List V) (v : Value) (us : List Value) (Q : VK), Inv X pins σ H s -> RelV x v -> Vals xs us -> r x xs H Q ->
  wpAny (model X.prog X.w) X.A (call (.builtin id) (v :: us)) (EP X pins σ Q) X.xe s
theorem Vals.one : ∀ {x : V} {us : List Value}, Vals [x] us -> ∃ u, us = [u] /\ RelV x u
 | _, _, .cons r .nil => ⟨_, rfl, r⟩
theorem Vals.two : ∀ {x y : V} {us : List Value}, Vals [x, y] us -> ∃ u v, us = [u, v] /\ RelV x u /\ RelV y v
 | _, _, _, .cons r (.cons q .nil) => ⟨_, _, rfl, r, q⟩
section
variable {X : Cx} {pins : List (Addr × Obj)} {σ : St} {H : Hp} {s : Shared} {l b : Addr} {xs ys zs : List V}
theorem Inv.lset {its its' : List Value} {n : Nat} {f : Array Value -> Array Value} {t' : Nat} (I : Inv X pins σ H s) (hH : H l = some (.lst xs))
  (e : s.heap.get? l = some { cls := .type "list", data := .seq its.toArray n }) (hf : f its.toArray = its'.toArray) (hv : Vals ys its') (hz : ys.length <= sizeLine) :
  Inv X pins σ (upd H l (.lst ys)) { s with heap := s.heap.update l (Obj.mapSeq f), toks := t' } := by
 have q := PySem.IsL.update e f
 rw [hf] at q
 refine I.write (x := l) (e := l) (by rw [hH]; exact trivial) (.inl rfl) (fun b' u hb hu => (Heap.get?_update_other s.heap (Obj.mapSeq f) (Ne.symm hb)).trans hu) ⟨_, q⟩ ?_
 exact ⟨hz, its', _, hv, q⟩
theorem Inv.lstM (I : Inv X pins σ H s) (hH : H l = some (.lst xs)) : xs.length <= sizeLine /\ ∃ (its : List Value) (n : Nat), Vals xs its /\ xs.length = its.length /\ s.heap.get? l = some { cls := .type "list", data := .seq its.toArray n } := by
 obtain ⟨z, its, n, r, e⟩ := I.hok l _ hH
 exact ⟨z, its, n, r, r.length, e⟩
theorem zMq {n : Nat} (h : n <= sizeLine) : Builtin.List.listTooLong n = false := by
 unfold Builtin.List.listTooLong
 exact decide_eq_false (by lia)
end
section
variable {X : Cx}
noncomputable def zIJ : V -> List V -> Hp -> VK -> Prop := fun x vs H Q => ∃ l xs y, x = .ref l /\ vs = [y] /\ H l = some (.lst xs) /\ xs.length < sizeLine /\ Q .non (upd H l (.lst (xs ++ [y])))
theorem zFF : MtM X "list.append" zIJ := by
 intro pins s σ H x vs v us Q I rx rv h
 obtain ⟨l, xs, y, rfl, rfl, hH, hz, q⟩ := h
 cases rx
 obtain ⟨u, rfl, ru⟩ := rv.one
 obtain ⟨z, its, n, r, hl, e⟩ := I.lstM hH
 refine call_meets F.slot_list_append ⟨_, e, rfl⟩ F.entry_list_append (F.args_list_append_2 _ _) (PySem.list_append l its.toArray n u (by rw [QE]; lia)) ⟨e, ?_⟩
 refine ⟨.non, _, I.lset (its' := its ++ [u]) hH e (by simp) (r.append (.cons ru .nil)) ?_, rfl, q⟩
 rw [Qm, Q0]
 lia
end
section
variable {prog : Program} {w : World} {A : Around} {E : Value -> Shared -> Prop} {s : Shared}
end
section
variable {X : Cx}
end
end L2
namespace Att
open PySem PySem.W PySem.Calls PyProof.Rows
theorem zLh {P : Params} {h : Heap} : ∀ (ns : List Int) (vs : List Value), WellAll P h vs (ns.map WData.int) -> IntsAre vs ns := by
 intro ns
 induction ns with
 | nil =>
  intro vs w
  rw [List.map_nil] at w
  cases w
  exact .nil
 | cons n ns ih =>
  intro vs w
  rw [Ql] at w
  cases w with
  | cons a b =>
   cases a
   exact .cons _ _ (ih _ b)
theorem zNJ {l : OpenLaw} {n : Nat} (hn : l.most = some n) {P : Params} {h : Heap} {args : List WData} {vals : List Value}
  (hpre : l.row.toRowW.claim.pre args = true) (hwl : WellAll P h vals args) :
  ∃ a vs ns, vals = [Value.ref a] /\ args = [WData.list (ns.map WData.int)] /\ h.get? a = some { cls := .type "list", data := .seq vs.toArray } /\ IntsAre vs ns /\ ns.length <= n := by
 have hsh : WShape.hasAll [] args [.list .int] = true := (pre_splitW hpre).1
 have hc : l.pre.holds [] { args := args } = true := (pre_splitW hpre).2
 obtain ⟨d, r, rfl, h1, h2⟩ := hasAllW_cons hsh
 obtain rfl := hasAllW_nil h2
 obtain ⟨xs, rfl, h3⟩ := hasW_list h1
 obtain ⟨ns, rfl⟩ := items_int h3
 have hlen : ns.length <= n := by
  unfold OpenLaw.pre at hc
  have h4 : (WTm.not (.lt (.lit (.int (n : Int))) (.len (.arg 0)))).holds [] { args := [.list (ns.map .int)] } = true := by
   have h4 := (holds_andW hc).1
   rw [hn] at h4
   exact h4
  have h5 := condW_of h4 (w_not (w_lt w_lit (w_len_list (w_arg rfl))))
  rw [Qg] at h5
  refine Jb fun q => ?_
  have q' : (n : Int) < ((ns.length : Nat) : Int) := by lia
  first
   | (rw [decide_eq_true q'] at h5; exact absurd h5 (by decide))
   | (simp at h5; lia)
 cases hwl with
 | cons w1 w2 =>
  cases w2
  cases w1 with
  | list ho hall => exact ⟨_, _, ns, rfl, rfl, ho, zLh ns _ hall, hlen⟩
theorem zNd (l : OpenLaw) (args : List WData) : l.row.toRowW.claim.post args (.bool true) args = true :=
 postW_of (r := l.row.toRowW) (X := (true == true))
  (show WShape.has [] (.bool true) .bool = true by first | rfl | decide | simp [WShape.has, WShape.arms, WShape.armsAll])
  (show (WTm.eq .res (.lit (.bool true))).value [] { args := args, res := some (.bool true), after := args } = some (.bool (true == true)) from w_eq_bool (w_res rfl) w_lit) rfl
theorem attach_call {l : OpenLaw} {n : Nat} {q : Program} {loose : List Str} {XP : (Str -> Option Value) -> Heap -> Prop} {YP : World -> Heap -> Prop} {d : DefRec}
  (hn : l.most = some n) (hdf : d.params.defaults = [])
  (call : ∀ (w : World) (s₀ s₁ : Shared) (mg mb : Str -> Option Value) (fa : Addr) (o : Obj) (pm cd doc : Value) (a : Addr) (vs : List Value) (ns : List Int),
   Ground q loose [] XP w s₀ mg mb s₁.heap -> YP w s₁.heap ->
   s₁.heap.get? fa = some o -> o.data = .func (docDef d.name d.params d.body d.scope pm cd doc) -> s₁.heap.CodeRec cd d.name -> mg d.name = some (.ref fa) ->
   s₁.heap.get? a = some { cls := .type "list", data := .seq vs.toArray } -> IntsAre vs ns -> ns.length <= n -> s₁.gens = #[] ->
   codeAny (model l.prog w) callerA (.call (.ref fa) ⟨[.ref a], []⟩) (fun r s' => r = .ok (.ret (.bool true)) /\ OldK s₁.heap s'.heap /\ s'.os = s₁.os /\ AllBare s'.gens) s₁) :
  WalkO q loose XP YP l.row.toRowW d [] (fun f vs => PySem.call f vs) := by
 intro w s₀ s₁ mg mb G Y fa o pm cd doc dV kV ho hd hcd hD hmg hg args vals as hpre hlay hrd hwl hlo
 obtain rfl : dV = .none := Dflts.none hD hdf
 obtain rfl : kV = .none := Dflts.noKw hD
 obtain ⟨a, vs, ns, rfl, rfl, hobj, hints, hlen⟩ := zNJ hn hpre hwl
 refine enter_call (Js (call w s₀ s₁ mg mb fa o pm cd doc a vs ns G Y ho (fd_plain hd) hcd hmg hobj hints hlen hg) fun r s' hq => ?_)
 obtain ⟨rfl, h2, h3, h4⟩ := hq
 exact ⟨.inl ⟨.bool true, .bool true, [], rfl, fun _ => rfl, .bool true, zNd l _, fun _ => ⟨List.Pairwise.nil, fun _ hm => (nomatch hm)⟩⟩, h2, h3, h4⟩
section
variable {prog : Program} {w : World} {A : Around} {E : Value -> Shared -> Prop} {s : Shared} {K : Frag}
end
end Att
namespace L2
open PySem PySem.Spec PyProof.Rows
theorem zJy : ∀ {vs : List Value} {ns : List Int}, IntsAre vs ns -> Vals (ns.map V.int) vs
 | _, _, .nil => .nil
 | _, _, .cons n t h => .cons ⟨t, rfl⟩ (zJy h)
noncomputable def Only (H : Hp) : Prop := ∀ b, H b = none ∨ ∃ o xs, H b = some (.frz o (.lst xs))
theorem zLB {P : Program} {w : World} {K : PySem.W.Frag} {mg mb : Str -> Option Value} {CX : CXT} {k : Nat} {fa a : Addr} {fd : FuncData} {x : Str} {sp : Sp} {s₁ : Shared} {vs : List Value} {ns : List Int}
  (KX : K.In s₁.heap) (hns : s₁.heap.Ns mainGlobals mg) (hb : s₁.heap.Ns builtinsNs mb) (hbb : ∀ x : Str, x ≠ "__name__" -> mb x = bootBuiltins x) (hlim : s₁.heap.NoLimit) (hg : s₁.gens = #[])
  (ha : s₁.heap.get? a = some { cls := .type "list", data := .seq vs.toArray }) (hi : IntsAre vs ns) (hl : ns.length <= sizeLine) (hr : Room k callerA)
  (F : ∀ base : Heap, K.In base -> base.Ns mainGlobals mg -> FnOk P w K mg base CX k fa fd [x] sp) (hbind : ∀ (s : Shared) (u : Value), BindsTo s fd ⟨[u], []⟩ [(x, u)])
  (hsp : ∀ H : Hp, Only H -> SqL K H a (ns.map V.int) -> sp [.ref a] H (fun v _ => v = .bl true) fun _ _ _ => False)
  (hCX : ∀ H e s', CX [] H s₁ (fun _ _ _ => False) e s' -> False) :
  codeAny (model P w) callerA (.call (.ref fa) ⟨[.ref a], []⟩) (fun r s' => r = .ok (.ret (.bool true)) /\ OldK s₁.heap s'.heap /\ s'.os = s₁.os /\ AllBare s'.gens) s₁ := by
 have rv := zJy hi
 have lenV := hi.length
 have core : ∀ H : Hp, Only H -> SqL K H a (ns.map V.int) -> HOk P w H s₁.heap -> (∀ b, H b ≠ none -> b = a) -> (H a ≠ none -> K.lookup a = none) ->
   codeAny (model P w) callerA (.call (.ref fa) ⟨[.ref a], []⟩) (fun r s' => r = .ok (.ret (.bool true)) /\ OldK s₁.heap s'.heap /\ s'.os = s₁.os /\ AllBare s'.gens) s₁ := by
  intro H hO hS hok hA hK
  have base_of : ∀ {b : Addr} {o : Obj}, s₁.heap.get? b = some o -> H b = none -> (hidT s₁.heap H).get? b = some o := fun e n => zK5 e n
  have noA : ∀ {b : Addr} {o : Obj} {es : Array DictEntry} {ep : Nat}, s₁.heap.get? b = some o -> o.data = .dict es ep -> H b = none := fun {b o es ep} e d => by
   cases q : H b with
   | none => rfl
   | some u =>
    have e' : b = a := hA b (by rw [q]; simp)
    subst e'
    rw [ha] at e; cases e
    have d' : Data.seq vs.toArray _ = Data.dict es ep := d
    cases d'
  have nsK : ∀ {b : Addr} {m : Str -> Option Value}, s₁.heap.Ns b m -> (hidT s₁.heap H).Ns b m := fun {b m} ⟨o, es, ep, e, d, r⟩ => ⟨o, es, ep, base_of e (noA e d), d, r⟩
  have hKb : K.In (hidT s₁.heap H) := fun b o e => base_of (KX b o e) (by
   cases q : H b with
   | none => rfl
   | some u =>
    have e' : b = a := hA b (by rw [q]; simp)
    subst e'
    rw [hK (by rw [q]; simp)] at e; cases e)
  have hM : Mod K mg (hidT s₁.heap H) := ⟨hKb, nsK hns, ⟨mb, nsK hb, hbb⟩, let ⟨mc, h1, h2⟩ := hlim; ⟨mc, nsK h1, h2⟩⟩
  have e0 : Env0 P w K mg (hidT s₁.heap H) callerA [] s₁ H := ⟨rfl, hM, fun b o e => zMt e, Nat.le_of_eq (zK6 _ _), trivial, fun b hb => absurd (show b ∈ ([] : List Addr) from hb) (by simp), hok, .of_eq hg⟩
  refine Js ((F _ hKb (nsK hns)).run callerA [] s₁ H ⟨[.ref a], []⟩ [.ref a] [.ref a] _ _ hr e0 (hbind s₁ (.ref a)) (.cons rfl .nil) (hsp H hO hS)) fun r s' h => ?_
  cases r with
  | error e => exact (hCX H e s' h).elim
  | ok fl =>
   cases fl with
   | next => exact False.elim h
   | brk => exact False.elim h
   | cont => exact False.elim h
   | ret u =>
    obtain ⟨v, H', os, bare, un, hok', r', q⟩ := h
    have q' : v = .bl true := q
    subst q'
    obtain rfl : u = Value.bool true := r'
    refine ⟨rfl, OldK.of_keep fun b o e => ?_, os, bare⟩
    cases q : H b with
    | none => exact un.keep b o e q (by intro z; exact absurd (show b ∈ ([] : List Addr) from z) (by simp)) (by simp)
    | some u =>
     rcases hO b with z | ⟨ob, xs, z⟩
     ·rw [q] at z; cases z
     ·have z2 := un.frzs b ob _ z
      obtain ⟨e1, _⟩ := hok b _ z
      obtain ⟨e2, _⟩ := hok' b _ z2
      rw [e] at e1; cases e1
      exact e2
 cases hk : K.lookup a with
 | some o =>
  have e := KX a o hk
  rw [ha] at e
  cases e
  refine core (fun _ => none) (fun _ => .inl rfl) (.inr ⟨_, vs.toArray, _, hk, rfl, rfl, rfl, by rw [QE, lenV]; exact hl, by simpa using rv⟩) (fun b u z => by have z' : (none : Option HO) = some u := z; cases z') (fun b z => absurd rfl z) fun z => absurd rfl z
 | none =>
  refine core (fun b => if b = a then some (.frz { cls := .type "list", data := .seq vs.toArray } (.lst (ns.map V.int))) else none) (fun b => ?_) (.inl (.inr ⟨{ cls := .type "list", data := .seq vs.toArray }, if_pos rfl⟩)) (fun b u z => ?_) (fun b z => ?_) fun _ => hk
  ·by_cases hb : b = a
   ·exact .inr ⟨_, _, if_pos hb⟩
   ·exact .inl (if_neg hb)
  ·by_cases hb : b = a
   ·have z' := (if_pos hb).symm.trans z
    cases z'
    subst hb
    exact ⟨ha, by rw [Qg]; exact hl, vs, _, rv, ha⟩
   ·have z' := (if_neg hb).symm.trans z
    cases z'
  ·by_cases hb : b = a
   ·exact hb
   ·exact absurd (if_neg hb) z
end L2
namespace L2
open PySem PySem.Spec PyProof.Rows
theorem walk_of {l : PySem.W.OpenLaw} {n k : Nat} {q : Program} {loose : List Str} {XP : (Str -> Option Value) -> Heap -> Prop} {YP : World -> Heap -> Prop} {d : DefRec} {K : Params -> PySem.W.Frag} {CX : World -> CXT} {sp : World -> Sp} {x : Str}
  (hn : l.most = some n) (hn2 : n <= sizeLine) (hdf : d.params.defaults = []) (hr : Room k callerA)
  (hY : ∀ (w : World) (h : Heap), YP w h -> (K w.params).In h)
  (F : ∀ (w : World) (mg : Str -> Option Value) (fa : Addr) (h : Heap), (K w.params).In h -> h.Ns mainGlobals mg -> mg d.name = some (.ref fa) ->
   ∃ fd : FuncData, (∀ (s : Shared) (u : Value), BindsTo s fd ⟨[u], []⟩ [(x, u)]) /\
    ∀ base : Heap, (K w.params).In base -> base.Ns mainGlobals mg -> FnOk l.prog w (K w.params) mg base (CX w) k fa fd [x] (sp w))
  (hsp : ∀ (w : World) (H : Hp) (a : Addr) (ns : List Int), ns.length <= n -> Only H -> SqL (K w.params) H a (ns.map V.int) -> sp w [.ref a] H (fun v _ => v = .bl true) fun _ _ _ => False)
  (hCX : ∀ (w : World) (H : Hp) (s : Shared) (e : Value) (s' : Shared), CX w [] H s (fun _ _ _ => False) e s' -> False) :
  PySem.W.WalkO q loose XP YP l.row.toRowW d [] (fun f vs => PySem.call f vs) := by
 refine Att.attach_call hn hdf fun w s₀ s₁ mg mb fa o pm cd doc a vs ns G Y ho hd hcd hmg hobj hints hlen hg => ?_
 have KX := hY w _ Y
 obtain ⟨fd, hb, hF⟩ := F w mg fa _ KX G.T.g hmg
 exact zLB KX G.T.g G.T.b G.T.builtins G.T.nolimit hg hobj hints (Qt hlen hn2) hr hF hb (fun H hO hS => hsp w H a ns hlen hO hS) fun H e s' => hCX w H s₁ e s'
end L2
namespace L2
open PySem PySem.Spec PyProof.Rows
noncomputable def zBi (s : Stmt) : Arguments := match s with
 | .FunctionDef _ a _ _ _ _ _ _ _ _ => a
 | _ => { posonlyargs := [], args := [], vararg := none, kwonlyargs := [], kw_defaults := [], kwarg := none, defaults := [] }
noncomputable def zA0 (s : Stmt) : List Stmt := match s with
 | .FunctionDef _ _ b _ _ _ _ _ _ _ => b
 | _ => []
noncomputable def zAh (s : Stmt) : Scope := match s with
 | .FunctionDef _ _ _ _ _ _ sc _ _ _ => sc
 | _ => { kind := .function, names := [], isGenerator := false, isCoroutine := false }
abbrev CX0 : CXT := fun _ _ _ _ _ _ => False
abbrev E0 : XK := fun _ _ _ => False
theorem pass0 {X : Cx} : zEv CX0 X E0 := fun _ _ _ _ _ _ _ h => h.elim
structure Fun (K : PySem.W.Frag) (x qual : Str) (st : Stmt) (f : Addr) (fd : FuncData) : Prop where
 ex : ∃ (oc : Value) (od : Option Addr) (kV doc pm : Value) (an : Option Addr) (cdv ct : Value) (osl : Array (Option Value)),
  fd = PySem.W.fnOf x qual (zBi st) (zA0 st) (zAh st) .none kV doc pm an cdv ct /\ K.lookup f = some ⟨oc, od, .func fd, osl⟩ /\ PySem.W.codeIn K cdv qual = true
 kp : PySem.W.keepIn K (.ref f) = true
section
variable {P : Program} {w : World} {K : PySem.W.Frag} {mg : Str -> Option Value} {base : Heap}
theorem Fun.ok {x qual : Str} {st : Stmt} {f : Addr} {fd : FuncData} {N ps : List Str} {k : Nat} {sp : Sp} (F : Fun K x qual st f fd) (S : zAq N ps (zAh st)) (len : ∀ vs H Q E, sp vs H Q E -> vs.length = ps.length)
  (hbody : ∀ (cdv : Value) (A : Around) (outer : List Env) (s : Shared) (H : Hp) (vs : List V) (Q : VK) (E : XK), Room k (A.deeper (envOfC qual (zAh st) s.heap.objs.size f cdv)) -> sp vs H Q E ->
   ∃ t, PSs (cxOf CX0 P w K mg base N qual (zAh st) f cdv A outer s H E).nox (zA0 st) t /\ t { nx := fun _ H' => Q .non H', rt := Q } (start N vs) H) : FnOk P w K mg base CX0 (k + 1) f fd ps sp := by
 obtain ⟨oc, od, kV, doc, pm, an, cdv, ct, osl, rfl, lk, hcd⟩ := F.ex
 refine fn_of lk hcd S len fun A outer s H vs Q E hr hsp => ?_
 obtain ⟨t, h, q⟩ := hbody cdv A outer s H vs Q E hr hsp
 exact ⟨t, h.nox, q⟩
theorem zE8 {x qual : Str} {st : Stmt} {f : Addr} {oc : Value} {od an : Option Addr} {osl : Array (Option Value)} {kV doc pm cdv ct : Value} (l : K.lookup f = some ⟨oc, od, .func (PySem.W.fnOf x qual (zBi st) (zA0 st) (zAh st) .none kV doc pm an cdv ct), osl⟩)
  (c : PySem.W.codeIn K cdv qual = true) (k : PySem.W.keepIn K (.ref f) = true) : Fun K x qual st f (PySem.W.fnOf x qual (zBi st) (zA0 st) (zAh st) .none kV doc pm an cdv ct) := ⟨⟨oc, od, kV, doc, pm, an, cdv, ct, osl, rfl, l, c⟩, k⟩
end
theorem zEi {n : Nat} (h : n <= 1000) : n < sizeLine := Q7 h (by decide)
section
variable {X : Cx}
end
noncomputable def Same (H H' : Hp) : Prop := ∀ b o, H b = some o -> H' b = some o
theorem Same.refl (H : Hp) : Same H H := fun _ _ h => h
theorem Same.trans {H H1 H2 : Hp} (a : Same H H1) (b : Same H1 H2) : Same H H2 := fun c o h => b c o (a c o h)
theorem Same.free {H H' : Hp} (e : Same H H') {l : Addr} (h : H' l = Option.none) : H l = Option.none := by
 cases q : H l with
 | none => rfl
 | some o =>
  rw [e l o q] at h
  cases h
end L2
namespace SG
open PySem PyProof.Rows
structure Fit (src : Array Keyed) (kd : SortKind) (z : SortSt) : Prop where
 mix : (arrOf z).Perm src
 kd : kindOf z = kd
 fine : failedOf z = none
 none : pendingOf z = #[]
theorem Fit.len {src : Array Keyed} {kd : SortKind} {z : SortSt} (f : Fit src kd z) : (arrOf z).size = src.size := f.mix.size_eq
theorem Fit.re {src : Array Keyed} {kd : SortKind} {z : SortSt} (f : Fit src kd z) {ys : Array Keyed} (m : ys.Perm (arrOf z)) : Fit src kd (setArr z ys) := ⟨m.trans f.mix, f.kd, f.fine, f.none⟩
section
variable {prog : Program} {w : World} {A : Around} {E : Value -> Shared -> Prop} {s : Shared} {src : Array Keyed} {κ : KeyKind} {kd : SortKind}
noncomputable def Asks (prog : Program) (w : World) (A : Around) (s : Shared) (κ : KeyKind) (kd : SortKind) : Prop :=
 ∀ (x y : Value) (a b : κ.α) (E : Value -> Shared -> Prop) (Q : Bool -> Shared -> Prop), κ.keyOf x = some a -> κ.keyOf y = some b -> Q (κ.blt a b) s -> wpAny (model prog w) A (keyLt' kd x y) Q E s
theorem Fit.item {z : SortSt} (f : Fit src kd z) (all : KeysOf κ src) {i : Nat} (h : i < src.size) : ∃ x y a, (arrOf z)[i]? = some (x, y) /\ κ.keyOf x = some a /\ KK κ (arrOf z) i = a := by
 have h' : i < (arrOf z).size := by rw [f.len]; exact h
 have e := getElem?_pos (arrOf z) i h'
 obtain ⟨a, ha⟩ := all (arrOf z)[i] ((Array.perm_iff_toList_perm.mp f.mix).mem_iff.mp (by simp))
 exact ⟨_, _, a, e, ha, by unfold KK; rw [e]; simp [ha]⟩
theorem zDf {z : SortSt} {i j : Nat} {Q : Option Bool -> SortSt -> Prop} (L : Asks prog w A s κ kd) (f : Fit src kd z) (all : KeysOf κ src) (hi : i < src.size) (hj : j < src.size)
  (k : Q (some (κ.blt (KK κ (arrOf z) i) (KK κ (arrOf z) j))) z) : wpS (model prog w) A E s (ltAt' i j) Q z := by
 obtain ⟨x, x', a, e1, ka, qa⟩ := f.item all hi
 obtain ⟨y, y', b, e2, kb, qb⟩ := f.item all hj
 rw [qa, qb] at k
 rw [ltAt'_eq]
 refine Q8 (wpS_get ?_)
 show wpS _ _ _ _ (elem' (arrOf z) i >>= fun u => elem' (arrOf z) j >>= fun v => lt' u v) Q z
 rw [elem'_eq, e1, elem'_eq, e2]
 refine Q8 (Yu (Q8 (Yu ?_)))
 rw [lt'_eq]
 refine Q8 (wpS_get (Q8 (wpS_lift (wpAny_attempt ?_))))
 rw [f.kd]
 exact L x y a b _ _ ka kb ⟨rfl, Yu k⟩
theorem zJv {z : SortSt} {a top : Nat} {Q : AscSt -> SortSt -> Prop} (L : Asks prog w A s κ kd) (all : KeysOf κ src) (f : Fit src kd z) (h1 : 1 <= a) (h2 : a <= top) (h3 : top <= src.size) (r : SortedToK κ (arrOf z) a)
  (k : ∀ n, a <= n -> n <= top -> SortedToK κ (arrOf z) n -> n = top ∨ κ.klt (KK κ (arrOf z) n) (KK κ (arrOf z) (n - 1)) -> Q (none, n) z) : wpS (model prog w) A E s (ascLoop a top) Q z := by
 unfold ascLoop
 refine wpS_forRange (fun x c z' => z' = z /\ c = (none, x) /\ SortedToK κ (arrOf z) x) (fun x c z' g1 g2 hI => ?_) (fun c z' hI => ?_) ⟨rfl, rfl, r⟩
 ·obtain ⟨hz, hc, hr⟩ := hI
  subst hz hc
  dsimp only
  refine Q8 (zDf L f all (QD g2 h3) (by lia) ?_)
  cases q : κ.blt (KK κ (arrOf z') x) (KK κ (arrOf z') (x - 1)) with
  | true => simp only [if_true]; exact Yu (k x g1 (Yv g2) hr (Or.inr q))
  | false =>
   simp only [Qp, if_false]
   refine Yu ⟨rfl, rfl, fun i j le lt => ?_⟩
   rcases Nat.lt_or_ge j x with c1 | c1
   ·exact hr i j le c1
   ·obtain rfl : j = x := by lia
    rcases YY le with c2 | c2
    ·subst c2; exact Yw _
    ·exact KeyOrd.kle_trans (hr i (j - 1) (by lia) (by lia)) q
 ·obtain ⟨hz, hc, hr⟩ := hI
  subst hz hc
  have e : max a top = top := by lia
  rw [e] at hr ⊢
  exact k top h2 (Qj _) hr (Or.inl rfl)
theorem zJt {z : SortSt} {n top : Nat} {Q : Option Nat -> SortSt -> Prop} (L : Asks prog w A s κ kd) (all : KeysOf κ src) (f : Fit src kd z) (h1 : 1 <= n) (h2 : n <= top) (h3 : top <= src.size) (r : NonIncK κ (arrOf z) n)
  (k : ∀ m z', Fit src kd z' -> 1 <= m -> m <= top -> SortedToK κ (arrOf z') m -> Q (some m) z') : wpS (model prog w) A E s (tail3 n top) Q z := by
 have sz : n <= (arrOf z).size := by rw [f.len]; lia
 have f' : Fit src kd (setArr z (mirror (arrOf z) 0 n ((n - 0) / 2))) := f.re (mirror_perm _ _ _ _)
 have r' : SortedToK κ (arrOf (setArr z (mirror (arrOf z) 0 n ((n - 0) / 2)))) n := by
  intro i j le lt
  show κ.kle (KK κ (mirror (arrOf z) 0 n ((n - 0) / 2)) i) (KK κ (mirror (arrOf z) 0 n ((n - 0) / 2)) j)
  rw [KK_mirror sz, KK_mirror sz, if_pos ⟨QY _, by lia⟩, if_pos ⟨QY _, lt⟩]
  exact r _ _ (by lia) (by lia)
 unfold tail3
 refine Q8 (wpS_reverse (Q8 (zJv L all f' h1 h2 h3 r' fun m g1 g2 g3 _ => ?_)))
 exact Yu (k m _ f' (Qt h1 g1) g2 g3)
theorem zKH {z : SortSt} {n top : Nat} {Q : DescSt -> SortSt -> Prop} (L : Asks prog w A s κ kd) (all : KeysOf κ src) (f : Fit src kd z) (h1 : 1 <= n) (h2 : n <= top) (h3 : top <= src.size) (r : NonIncK κ (arrOf z) n)
  (k : ∀ m q z', Fit src kd z' -> n <= m -> m <= top -> NonIncK κ (arrOf z') m -> q + 1 <= m -> (∀ i, m - (q + 1) <= i -> i < m -> KK κ (arrOf z') i = KK κ (arrOf z') (m - 1)) -> Q (none, m, q) z') : wpS (model prog w) A E s (descLoop n top) Q z := by
 have one : ∀ (ys : Array Keyed) (x : Nat) (i : Nat), x - (0 + 1) <= i -> i < x -> KK κ ys i = KK κ ys (x - 1) := fun ys x i c1 c2 => by
  have : i = x - 1 := JB (Nat.le_sub_one_of_lt c2) c1
  rw [this]
 unfold descLoop
 refine wpS_forRange (fun x c z' => ∃ q, c = (none, x, q) /\ Fit src kd z' /\ NonIncK κ (arrOf z') x /\ q + 1 <= x /\ ∀ i, x - (q + 1) <= i -> i < x -> KK κ (arrOf z') i = KK κ (arrOf z') (x - 1))
  (fun x c z' g1 g2 hI => ?_) (fun c z' hI => ?_) ⟨0, rfl, f, r, h1, one _ _⟩
 ·obtain ⟨q, hc, f', r', hq, he⟩ := hI
  subst hc
  dsimp only
  have lx : x < src.size := QD g2 h3
  have sz : x <= (arrOf z').size := by rw [f'.len]; exact Yv lx
  have lx1 : x - 1 < src.size := Q7 (Nat.sub_le x 1) lx
  refine Q8 (zDf L f' all lx lx1 ?_)
  cases c1 : κ.blt (KK κ (arrOf z') x) (KK κ (arrOf z') (x - 1)) with
  | true =>
   simp only [if_true]
   have more : ∀ ys : Array Keyed, (∀ m, KK κ ys m = KK κ (arrOf z') m) -> NonIncK κ ys (x + 1) := fun ys same i j le lt => by
    rw [same i, same j]
    rcases Nat.lt_or_ge j x with d1 | d1
    ·exact r' i j le d1
    ·obtain rfl : j = x := JB (YM lt) d1
     rcases YY le with d2 | d2
     ·subst d2; exact Yw _
     ·exact KeyOrd.kle_trans (KeyOrd.kle_of_klt c1) (r' i (j - 1) (Nat.le_sub_one_of_lt d2) (Nat.sub_lt (Q7 (QY i) d2) Nat.one_pos))
   by_cases c2 : q > 0
   ·rw [if_pos c2]
    exact Q8 (wpS_reverse (Yu ⟨0, rfl, f'.re (mirror_perm _ _ _ _), more _ (JC sz he), Nat.succ_le_succ (QY _), one _ _⟩))
   ·rw [if_neg c2]
    exact Yu ⟨0, rfl, f', more _ fun _ => rfl, Nat.succ_le_succ (QY _), one _ _⟩
  | false =>
   simp only [Qp, if_false]
   refine Q8 (zDf L f' all (by lia) lx ?_)
   cases c2 : κ.blt (KK κ (arrOf z') (x - 1)) (KK κ (arrOf z') x) with
   | true => simp only [if_true]; exact Yu (k x q z' f' g1 (Yv g2) r' hq he)
   | false =>
    simp only [Qp, if_false]
    have same : KK κ (arrOf z') x = KK κ (arrOf z') (x - 1) := KeyOrd.kle_antisymm c2 c1
    refine Yu ⟨q + 1, rfl, f', fun i j le lt => ?_, by lia, fun i d1 d2 => ?_⟩
    ·rcases Nat.lt_or_ge j x with e1 | e1
     ·exact r' i j le e1
     ·obtain rfl : j = x := by lia
      rcases YY le with e2 | e2
      ·subst e2; exact Yw _
      ·rw [same]; exact r' i (j - 1) (by lia) (by lia)
    ·show KK κ (arrOf z') i = KK κ (arrOf z') x
     rcases Nat.lt_or_ge i x with e1 | e1
     ·rw [same]; exact he i (by lia) e1
     ·have : i = x := by lia
      rw [this]
 ·obtain ⟨q, hc, f', r', hq, he⟩ := hI
  have e : max n top = top := by lia
  rw [e] at hc r' hq he
  subst hc
  exact k top q z' f' h2 (Qj _) r' hq he
theorem zG3 {z : SortSt} {n top : Nat} {Q : Option Nat -> SortSt -> Prop} (L : Asks prog w A s κ kd) (all : KeysOf κ src) (f : Fit src kd z) (h2 : n + 1 <= top) (h3 : top <= src.size) (r : NonIncK κ (arrOf z) (n + 1))
  (k : ∀ m z', Fit src kd z' -> 1 <= m -> m <= top -> SortedToK κ (arrOf z') m -> Q (some m) z') : wpS (model prog w) A E s (descPart n top) Q z := by
 unfold descPart
 refine Q8 (wpS_lift (Jr ⟨rfl, Q8 (zKH L all f (Nat.le_add_left 1 n) h2 h3 r fun m q z' f' g1 g2 r' hq he => ?_)⟩))
 have sz : m <= (arrOf z').size := by rw [f'.len]; lia
 dsimp only
 by_cases c : q > 0
 ·rw [if_pos c]
  refine Q8 (wpS_reverse (zJt L all (f'.re (mirror_perm _ _ _ _)) (by lia) g2 h3 (fun i j le lt => ?_) k))
  show κ.kle (KK κ (mirror (arrOf z') (m - (q + 1)) m ((m - (m - (q + 1))) / 2)) j) (KK κ (mirror (arrOf z') (m - (q + 1)) m ((m - (m - (q + 1))) / 2)) i)
  rw [JC sz he, JC sz he]
  exact r' i j le lt
 ·rw [if_neg c]
  exact zJt L all f' (by lia) g2 h3 r' k
theorem zKW {z : SortSt} {top : Nat} {Q : Option Nat -> SortSt -> Prop} (L : Asks prog w A s κ kd) (all : KeysOf κ src) (f : Fit src kd z) (h1 : 1 <= top) (h3 : top <= src.size)
  (k : ∀ m z', Fit src kd z' -> 1 <= m -> m <= top -> SortedToK κ (arrOf z') m -> Q (some m) z') : wpS (model prog w) A E s (countRun' 0 top) Q z := by
 have r1 : SortedToK κ (arrOf z) 1 := fun i j le lt => by
  obtain rfl : i = j := JB le (Qt (YM lt) (QY _))
  exact Yw _
 rw [countRun0_eq]
 refine Q8 (zJv L all f (Qj 1) h1 h3 r1 fun n g1 g2 g3 g4 => ?_)
 dsimp only
 by_cases c : n = top
 ·rw [if_pos (beq_iff_eq.mpr c)]
  exact Yu (k n z f g1 g2 g3)
 ·rw [if_neg (fun h => c (beq_iff_eq.mp h))]
  have fall := g4.resolve_left c
  by_cases c2 : n > 1
  ·rw [if_pos c2]
   have n1 : n - 1 < n := Nat.sub_lt g1 Nat.one_pos
   refine Q8 (zDf L f all (QD g1 (Qt g2 h3)) (QD n1 (Qt g2 h3)) ?_)
   cases c3 : κ.blt (KK κ (arrOf z) 0) (KK κ (arrOf z) (n - 1)) with
   | true => simp only [if_true]; exact Yu (k n z f g1 g2 g3)
   | false =>
    simp only [Qp, if_false]
    have sz : n <= (arrOf z).size := by rw [f.len]; exact Qt g2 h3
    have eq : ∀ m, 0 <= m -> m < n -> KK κ (arrOf z) m = KK κ (arrOf z) (n - 1) := fun m _ lt =>
     KeyOrd.kle_antisymm (g3 m (n - 1) (Nat.le_sub_one_of_lt lt) n1) (KeyOrd.kle_trans c3 (g3 0 m (QY _) lt))
    refine Q8 (wpS_reverse (zG3 L all (f.re (mirror_perm _ _ _ _)) (Nat.lt_of_le_of_ne g2 c) h3 (fun i j le lt => ?_) k))
    show κ.kle (KK κ (mirror (arrOf z) 0 n ((n - 0) / 2)) j) (KK κ (mirror (arrOf z) 0 n ((n - 0) / 2)) i)
    rw [JC sz eq, JC sz eq]
    rcases Nat.lt_or_ge j n with d | d
    ·rw [eq i (QY _) (Q7 le d), eq j (QY _) d]
     exact Yw _
    ·obtain rfl : j = n := JB (YM lt) d
     rcases YY le with d2 | d2
     ·subst d2; exact Yw _
     ·rw [eq i (QY _) d2]; exact KeyOrd.kle_of_klt fall
  ·rw [if_neg c2]
   obtain rfl : n = 1 := JB (Jb c2) g1
   refine zG3 L all f (by lia) h3 (fun i j le lt => ?_) k
   rcases YY le with d2 | d2
   ·subst d2; exact Yw _
   ·obtain rfl : i = 0 := by lia
    obtain rfl : j = 1 := by lia
    exact KeyOrd.kle_of_klt fall
theorem zLg {z : SortSt} {n ok : Nat} {Q : Bool -> SortSt -> Prop} (L : Asks prog w A s κ kd) (all : KeysOf κ src) (f : Fit src kd z) (h1 : ok <= n) (h3 : n <= src.size) (r : SortedToK κ (arrOf z) ok)
  (k : ∀ z', Fit src kd z' -> SortedToK κ (arrOf z') n -> Q true z') : wpS (model prog w) A E s (binarySort' 0 n ok) Q z := by
 rw [binarySort'_eq]
 simp only [Jt]
 have r0 : SortedToK κ (arrOf z) (min (max ok 1) n) := fun i j le lt => by
  rcases YY le with c | c
  ·subst c; exact Yw _
  ·exact r i j le (by lia)
 refine Q8 (wpS_mono (wpS_forRange (fun m c z' => c = (none, ()) /\ Fit src kd z' /\ SortedToK κ (arrOf z') (min m n)) (Q := fun c z' => c = (none, ()) /\ Fit src kd z' /\ SortedToK κ (arrOf z') n)
  (fun m c z' g1 g2 hI => ?_) (fun c z' hI => ?_) ⟨rfl, f, r0⟩) fun c z' hQ => ?_)
 ·obtain ⟨hc, f', r'⟩ := hI
  subst hc
  have em : min m n = m := by lia
  rw [em] at r'
  have lm : m < src.size := by lia
  refine Q8 (wpS_mono (wpS_forRange (fun t c z2 => z2 = z' /\ ∃ lo hi, c = (none, lo, hi) /\ lo <= hi /\ hi <= m /\ hi + t <= m + lo /\ (∀ i, i < lo -> κ.kle (KK κ (arrOf z') i) (KK κ (arrOf z') m)) /\
    ∀ i, hi <= i -> i < m -> κ.klt (KK κ (arrOf z') m) (KK κ (arrOf z') i))
   (Q := fun c z2 => z2 = z' /\ ∃ lo hi, c = (none, lo, hi) /\ lo <= m /\ (∀ i, i < lo -> κ.kle (KK κ (arrOf z') i) (KK κ (arrOf z') m)) /\ ∀ i, lo <= i -> i < m -> κ.klt (KK κ (arrOf z') m) (KK κ (arrOf z') i))
   (fun t c z2 _ lt hJ => ?_) (fun c z2 hJ => ?_) ⟨rfl, 0, m, rfl, QY _, Qj _, by lia, fun i c => absurd c (Yx _), fun i c1 c2 => absurd c2 (Nat.not_lt.mpr c1)⟩) fun c z2 hJ => ?_)
  ·obtain ⟨hz, lo, hi, hc, c1, c2, c3, c4, c5⟩ := hJ
   subst hz hc
   dsimp only
   by_cases d : lo >= hi
   ·rw [if_pos d]
    obtain rfl : lo = hi := by lia
    exact Yu ⟨rfl, lo, lo, rfl, c2, c4, c5⟩
   ·rw [if_neg d]
    have hm : lo <= (lo + hi) / 2 /\ (lo + hi) / 2 < hi := by clear c2 c3; lia
    generalize (lo + hi) / 2 = md at hm ⊢
    have hmm := QD hm.2 c2
    refine Q8 (zDf L f' all lm (Nat.lt_trans hmm lm) ?_)
    cases q : κ.blt (KK κ (arrOf z2) m) (KK κ (arrOf z2) md) with
    | true =>
     simp only [if_true]
     exact Yu ⟨rfl, lo, md, rfl, hm.1, Yv hmm, Qt (Nat.add_right_comm md t 1 ▸ Nat.add_le_add_right hm.2 t) c3, c4, fun i e1 e2 => KeyOrd.klt_of_klt_of_kle q (r' _ _ e1 e2)⟩
    | false =>
     simp only [Qp, if_false]
     refine Yu ⟨rfl, md + 1, hi, rfl, hm.2, c2, Nat.add_le_add (show lo <= md from hm.1) (Qj 1) |> fun z => by lia, fun i e1 => ?_, c5⟩
     have q' : κ.kle (KK κ (arrOf z2) md) (KK κ (arrOf z2) m) := q
     exact KeyOrd.kle_trans (r' i md (YM e1) hmm) q'
  ·obtain ⟨hz, lo, hi, hc, c1, c2, c3, c4, c5⟩ := hJ
   obtain rfl : lo = hi := by lia
   exact ⟨hz, lo, lo, hc, c2, c4, c5⟩
  ·obtain ⟨hz, lo, hi, hc, c2, c4, c5⟩ := hJ
   subst hz hc
   show wpS _ _ _ _ (moveDown' m lo >>= fun _ => pure (ForInStep.yield (none, ()))) _ _
   rw [moveDown'_eq]
   refine Q8 (wpS_modify (Yu ⟨rfl, f'.re (bubble_perm _ _ _), ?_⟩))
   have es : m < (arrOf z2).size := by rw [f'.len]; exact lm
   have e2 : min (m + 1) n = m + 1 := by lia
   rw [e2]
   intro i j le lt
   show κ.kle (KK κ (bubble (arrOf z2) m (m - lo)) i) (KK κ (bubble (arrOf z2) m (m - lo)) j)
   have e3 : m - (m - lo) = lo := by lia
   rw [KK_bubble es (by lia), KK_bubble es (by lia), e3]
   by_cases i1 : i = lo <;> by_cases j1 : j = lo
   ·rw [if_pos i1, if_pos j1]; exact Yw _
   ·rw [if_pos i1, if_neg j1, if_pos ⟨by lia, by lia⟩]
    exact KeyOrd.kle_of_klt (c5 _ (by lia) (by lia))
   ·rw [if_neg i1, if_pos j1, if_neg (by lia)]
    exact c4 _ (by lia)
   ·rw [if_neg i1, if_neg j1]
    by_cases i2 : lo < i /\ i <= m <;> by_cases j2 : lo < j /\ j <= m
    ·rw [if_pos i2, if_pos j2]; exact r' _ _ (by lia) (by lia)
    ·exact absurd ⟨by lia, by lia⟩ j2
    ·rw [if_neg i2, if_pos j2]; exact r' _ _ (by lia) (by lia)
    ·rw [if_neg i2, if_neg j2]; exact r' _ _ le (by lia)
 ·obtain ⟨hc, f', r'⟩ := hI
  have e : min (max (max ok 1) n) n = n := by lia
  rw [e] at r'
  exact ⟨hc, f', r'⟩
 ·obtain ⟨hc, f', r'⟩ := hQ
  subst hc
  exact Yu (k z' f' r')
theorem zJJ {z : SortSt} {Q : Unit -> SortSt -> Prop} (L : Asks prog w A s κ kd) (all : KeysOf κ src) (f : Fit src kd z) (h2 : 2 <= src.size) (h64 : src.size < 64)
  (k : ∀ z', (arrOf z').Perm src -> failedOf z' = none -> SortedToK κ (arrOf z') src.size -> Q () z') : wpS (model prog w) A E s sortRuns' Q z := by
 have em : minRun' src.size src.size 0 = src.size := by
  have g : ∀ t, t = src.size -> minRun' t src.size 0 = src.size := fun t e => by
   cases t with
   | zero => lia
   | succ t => rw [minRun'_succ, if_pos h64]; rfl
  exact g _ rfl
 rw [sortRuns'_eq]
 refine Q8 (wpS_get ?_)
 dsimp only
 simp only [f.len, em]
 refine Q8 (wpS_mono (wpS_forRange (fun t c z' => (t = 0 /\ c = (none, 0) /\ Fit src kd z') ∨ (0 < t /\ c = (none, src.size) /\ (arrOf z').Perm src /\ failedOf z' = none /\ pendingOf z' = #[(0, src.size, 0)] /\ SortedToK κ (arrOf z') src.size))
  (Q := fun c z' => c = (none, src.size) /\ (arrOf z').Perm src /\ failedOf z' = none /\ pendingOf z' = #[(0, src.size, 0)] /\ SortedToK κ (arrOf z') src.size)
  (fun t c z' _ lt hI => ?_) (fun c z' hI => ?_) (Or.inl ⟨rfl, rfl, f⟩)) fun c z' hQ => ?_)
 ·rcases hI with ⟨ht, hc, f'⟩ | ⟨ht, hc, d1, d2, d3, d4⟩
  ·subst ht hc
   dsimp only
   rw [if_neg (by lia)]
   simp only [Nat.sub_zero, Nat.min_self, Jt]
   have close : ∀ z3, Fit src kd z3 -> SortedToK κ (arrOf z3) src.size -> (0 < 0 + 1 /\ ((none : Option Unit), src.size) = (none, src.size) /\ (arrOf (setPending z3 ((pendingOf z3).push (0, src.size, 0)))).Perm src /\ failedOf (setPending z3 ((pendingOf z3).push (0, src.size, 0))) = none /\
     pendingOf (setPending z3 ((pendingOf z3).push (0, src.size, 0))) = #[(0, src.size, 0)] /\ SortedToK κ (arrOf (setPending z3 ((pendingOf z3).push (0, src.size, 0)))) src.size) := fun z3 f3 r3 =>
    ⟨Nat.zero_lt_succ _, rfl, f3.mix, f3.fine, by show (pendingOf z3).push (0, src.size, 0) = _; rw [f3.none]; rfl, r3⟩
   refine Q8 (zKW L all f' (by lia) (Qj _) fun m z2 f2 g1 g2 r2 => ?_)
   dsimp only
   by_cases c : m < src.size
   ·rw [if_pos c]
    refine Q8 (wpS_lift (Jr ⟨rfl, Q8 (zLg L all f2 g2 (Qj _) r2 fun z3 f3 r3 => ?_)⟩))
    simp only [YL, Qp, if_false]
    refine Q8 (wpS_get ?_)
    have eb : (pendingOf z3).back? = none := by rw [f3.none]; rfl
    rw [eb]
    dsimp only
    exact Q8 (wpS_modify (Yu (Or.inr (close z3 f3 r3))))
   ·rw [if_neg c]
    obtain rfl : m = src.size := by lia
    refine Q8 (wpS_get ?_)
    have eb : (pendingOf z2).back? = none := by rw [f2.none]; rfl
    rw [eb]
    dsimp only
    exact Q8 (wpS_modify (Yu (Or.inr (close z2 f2 r2))))
  ·subst hc
   dsimp only
   rw [if_pos (Qj _)]
   exact Yu ⟨rfl, d1, d2, d3, d4⟩
 ·rcases hI with ⟨ht, _⟩ | ⟨_, d⟩
  ·lia
  ·exact d
 ·obtain ⟨hc, d1, d2, d3, d4⟩ := hQ
  subst hc
  dsimp only
  refine Q8 (wpS_mono (wpS_forRange (fun _ c z2 => z2 = z' /\ c = (none, ())) (Q := fun c z2 => z2 = z' /\ c = (none, ())) (fun t c z2 _ _ hJ => ?_) (fun _ _ hJ => hJ) ⟨rfl, rfl⟩) fun c z2 hJ => ?_)
  ·obtain ⟨hz, hc⟩ := hJ
   subst hz hc
   refine Q8 (wpS_get ?_)
   rw [if_pos (by rw [d3]; exact Qj 1)]
   exact Yu ⟨rfl, rfl⟩
  ·obtain ⟨hz, hc⟩ := hJ
   subst hz hc
   exact Yu (k _ d1 d2 d4)
theorem zNT {a : Addr} {vs : List Value} {n : Nat} {P : Fin -> Shared -> Prop} (ho : s.heap.get? a = some (seqObj "list" vs.toArray n)) (all : KeysOf κ (pairsOf vs)) (h64 : vs.length < 64)
  (kind : ∀ h', (∀ b o, b ≠ a -> s.heap.get? b = some o -> h'.get? b = some o) -> 2 <= vs.length -> wpAny (model prog w) A (keyKind' vs.toArray) (fun q s' => q = kd /\ s' = { s with heap := h' }) E { s with heap := h' })
  (L : ∀ h', (∀ b o, b ≠ a -> s.heap.get? b = some o -> h'.get? b = some o) -> Asks prog w A { s with heap := h' } κ kd)
  (k : ∀ z' : SortSt, (arrOf z').Perm (pairsOf vs) -> SortedToK κ (arrOf z') (pairsOf vs).size -> P (.done (.ret .none)) { s with heap := sortedHeap s.heap a vs ((arrOf z').map (·.2)) }) :
  wpAny (model prog w) A (Builtin.«list.sort» ⟨[.ref a], []⟩) P E s := by
 have ha : a < s.heap.objs.size := Qk ho
 have hl : vs.toArray.size = vs.length := by simp
 rw [list_sort_plain]
 refine Qa (listItems_at ho rfl (Qa (listUpdate_at ho rfl ?_)))
 obtain ⟨t, h1⟩ : ∃ t, (s.heap.update a (Obj.mapSeq fun _ => #[])).get? a = some (seqObj "list" #[] t) := ⟨_, get?_update_seq ho fun _ => #[]⟩
 refine Qa (seqEpoch_at h1 rfl (Qa (wpAny_newTuple (Qa (wpAny_newList (Ya ?_))))))
 show wpAny (model prog w) A _ P E { s with heap := ((s.heap.update a (Obj.mapSeq fun _ => #[])).push (seqObj "tuple" vs.toArray 0)).push (seqObj "list" #[] 0) }
 have keep : ∀ b o, b ≠ a -> s.heap.get? b = some o -> (((s.heap.update a (Obj.mapSeq fun _ => #[])).push (seqObj "tuple" vs.toArray 0)).push (seqObj "list" #[] 0)).get? b = some o := fun b o nb e =>
  Qc _ (Qc _ (by rw [Heap.get?_update_ne _ _ _ _ nb]; exact e))
 have h6 : (((s.heap.update a (Obj.mapSeq fun _ => #[])).push (seqObj "tuple" vs.toArray 0)).push (seqObj "list" #[] 0)).get? a = some (seqObj "list" #[] t) := Qc _ (Qc _ h1)
 dsimp only
 by_cases c : vs.toArray.size < 2
 ·rw [if_pos c, if_pos c]
  refine Qa (Qb ?_)
  rw [StateT.run_pure]
  refine Qa (Qb (Qa (seqEpoch_at h6 rfl (Qa (listUpdate_at h6 rfl ?_ (hsz2 := by
   rw [YZ]; show (pairsOf vs).size <= _; rw [Ju, Ye]; lia))))))
  simp only [bne_self_eq_false, Qp, if_false]
  refine Qb (k (SortSt.mk' general' (vs.toArray.zip vs.toArray) #[] 7 none) (Array.Perm.refl _) fun i j le lt => ?_)
  obtain rfl : i = j := by rw [Ju] at lt; lia
  exact Yw _
 ·rw [if_neg c, if_neg c]
  refine Qa (YO (kind _ keep (by lia)) (fun q s' hq => ?_) fun _ _ e => e)
  obtain ⟨rfl, rfl⟩ := hq
  refine Qa (YO (zJJ (src := pairsOf vs) (z := SortSt.mk' q (vs.toArray.zip vs.toArray) #[] 7 none)
   (Q := fun _ z' => (arrOf z').Perm (pairsOf vs) /\ failedOf z' = none /\ SortedToK κ (arrOf z') (pairsOf vs).size)
   (L _ keep) all ⟨Array.Perm.refl _, rfl, rfl, rfl⟩ (by rw [Ju]; lia) (by rw [Ju]; exact h64) fun z' d1 d2 d3 => ⟨d1, d2, d3⟩) (fun rz s' hq => ?_) fun _ _ e => e)
  obtain ⟨⟨⟩, z'⟩ := rz
  obtain ⟨rfl, d1, d2, d3⟩ := hq
  dsimp only at d1 d2 d3 ⊢
  refine Qa (seqEpoch_at h6 rfl (Qa (listUpdate_at h6 rfl ?_ (hsz2 := by
   refine Qt (Nat.le_of_eq ((YZ ..).trans (d1.size_eq.trans (Ju _)))) ?_
   rw [Ye]; lia))))
  rw [d2]
  simp only [bne_self_eq_false, Qp, if_false]
  exact Qb (k z' d1 d3)
end
end SG
namespace DL
open PySem PySem.Spec PyProof.Rows L2
abbrev D := PyData
noncomputable def FzL (K : PySem.W.Frag) (F : Addr -> Prop) (H : Hp) (a : Addr) (vs : List V) : Prop := (F a /\ Rd H a (.lst vs)) ∨ SqL K (fun _ => none) a vs
theorem FzL.sq {K : PySem.W.Frag} {F : Addr -> Prop} {H : Hp} {a : Addr} {vs : List V} (h : FzL K F H a vs) : SqL K H a vs := by
 rcases h with ⟨_, h⟩ | (h | ⟨o, h⟩) | h
 ·exact .inl h
 ·cases h
 ·cases h
 ·exact .inr h
abbrev DKey := Sum (List Int) (List (List Int))
noncomputable def encT (ks : List Int) : D := .tuple (ks.map .int)
noncomputable def encK : DKey -> D
 | .inl ks => encT ks
 | .inr kss => .tuple (kss.map encT)
noncomputable def zHL (ks : List Int) : Int := reduceHash (Builtin.Tuple.tupleHashOf (ks.map hashInt))
noncomputable def zHK : DKey -> Int
 | .inl ks => zHL ks
 | .inr kss => reduceHash (Builtin.Tuple.tupleHashOf (kss.map zHL))
noncomputable def zB6 (K : PySem.W.Frag) (H : Hp) (k : DKey) (b : Addr) : Prop := match k with
 | .inl ks => SqT K H b (ks.map V.int)
 | .inr kss => kss ≠ [] /\ ∃ bs : List Addr, SqT K H b (bs.map V.ref) /\ Paired (fun (ks : List Int) (b : Addr) => SqT K H b (ks.map V.int)) kss bs
noncomputable def DctO (a : Addr) (es : List (DKey × Addr × V)) (ep : Nat) : HO := .ext fun h => (a == sysModules) = false /\ ∃ o raw, h.get? a = some o /\ o.ExactDict /\ o.data = .dict raw ep /\ Paired (fun (e : DKey × Addr × V) (r : DictEntry) => r.hash = zHK e.1 /\ r.key = .ref e.2.1 /\ RelV e.2.2 r.val) es raw.toList
noncomputable def ExcO (a C : Addr) : HO := .ext fun h => ∃ o, h.get? a = some o /\ o.cls = .ref C
noncomputable def excD (x : Str) : D := .dict [(.none, .str x)]
noncomputable def LstO (a : Addr) (vs : List V) : HO := .ext fun h => vs.length <= sizeLine /\ ∃ (its : List Value) (n : Nat), Vals vs its /\ h.get? a = some { cls := .type "list", data := .seq its.toArray n }
mutual
inductive Rep (K : PySem.W.Frag) (F : Addr -> Prop) (H : Hp) : D -> V -> Prop
 | non : Rep K F H .none .non
 | bl (b : Bool) : Rep K F H (.bool b) (.bl b)
 | int (i : Int) : Rep K F H (.int i) (.int i)
 | str (x : Str) : Rep K F H (.str x) (.str x)
 | tup {a : Addr} {vs : List V} {ds : List D} : SqT K H a vs -> Reps K F H ds vs -> Rep K F H (.tuple ds) (.ref a)
 | lst {a : Addr} {vs : List V} {ds : List D} : FzL K F H a vs -> Reps K F H ds vs -> Rep K F H (.list ds) (.ref a)
 | dct {a : Addr} {es : List (DKey × Addr × V)} {kvs : List (D × D)} {ep : Nat} : F a -> H a = some (DctO a es ep) -> (es.map (·.1)).Nodup -> es.length <= 1000 -> DReps K F H kvs es -> Rep K F H (.dict kvs) (.ref a)
 | exn {a C : Addr} {x : Str} : F a -> H a = some (ExcO a C) -> PySem.W.nsIn K mainGlobals x = some (some (.ref C)) -> Rep K F H (excD x) (.ref a)
inductive DReps (K : PySem.W.Frag) (F : Addr -> Prop) (H : Hp) : List (D × D) -> List (DKey × Addr × V) -> Prop
 | nil : DReps K F H [] []
 | cons {k : DKey} {b : Addr} {d : D} {v : V} {kvs : List (D × D)} {es : List (DKey × Addr × V)} : zB6 K H k b -> Rep K F H d v -> DReps K F H kvs es -> DReps K F H ((encK k, d) :: kvs) ((k, b, v) :: es)
inductive Reps (K : PySem.W.Frag) (F : Addr -> Prop) (H : Hp) : List D -> List V -> Prop
 | nil : Reps K F H [] []
 | cons {d : D} {v : V} {ds : List D} {vs : List V} : Rep K F H d v -> Reps K F H ds vs -> Reps K F H (d :: ds) (v :: vs)
end
structure Stay (K : PySem.W.Frag) (F F' : Addr -> Prop) (H H' : Hp) : Prop where
 up : ∀ a, F a -> F' a
 tp : ∀ a xs, SqT K H a xs -> SqT K H' a xs
 ls : ∀ a xs, F a -> Rd H a (.lst xs) -> Rd H' a (.lst xs)
 xt : ∀ a φ, F a -> H a = some (.ext φ) -> H' a = some (.ext φ)
theorem zB6.stay {K : PySem.W.Frag} {F F' : Addr -> Prop} {H H' : Hp} (S : Stay K F F' H H') {k : DKey} {b : Addr} (h : zB6 K H k b) : zB6 K H' k b := by
 cases k with
 | inl ks => exact S.tp _ _ h
 | inr kss => obtain ⟨n, bs, h1, h2⟩ := h; exact ⟨n, bs, S.tp _ _ h1, Paired.mapP h2 fun _ _ z => S.tp _ _ z⟩
theorem FzL.stay {K : PySem.W.Frag} {F F' : Addr -> Prop} {H H' : Hp} (S : Stay K F F' H H') {a : Addr} {vs : List V} (h : FzL K F H a vs) : FzL K F' H' a vs := by
 rcases h with ⟨f, h⟩ | h
 ·exact .inl ⟨S.up a f, S.ls a vs f h⟩
 ·exact .inr h
mutual
theorem Rep.stay {K : PySem.W.Frag} {F F' : Addr -> Prop} {H H' : Hp} (S : Stay K F F' H H') : ∀ {d : D} {v : V}, Rep K F H d v -> Rep K F' H' d v
 | _, _, .non => .non
 | _, _, .bl b => .bl b
 | _, _, .int i => .int i
 | _, _, .str x => .str x
 | _, _, .tup h r => .tup (S.tp _ _ h) (Reps.stay S r)
 | _, _, .lst h r => .lst (h.stay S) (Reps.stay S r)
 | _, _, .dct f h n l r => .dct (S.up _ f) (S.xt _ _ f h) n l (DReps.stay S r)
 | _, _, .exn f h n => .exn (S.up _ f) (S.xt _ _ f h) n
theorem DReps.stay {K : PySem.W.Frag} {F F' : Addr -> Prop} {H H' : Hp} (S : Stay K F F' H H') : ∀ {kvs : List (D × D)} {es : List (DKey × Addr × V)}, DReps K F H kvs es -> DReps K F' H' kvs es
 | _, _, .nil => .nil
 | _, _, .cons h r t => .cons (h.stay S) (Rep.stay S r) (DReps.stay S t)
theorem Reps.stay {K : PySem.W.Frag} {F F' : Addr -> Prop} {H H' : Hp} (S : Stay K F F' H H') : ∀ {ds : List D} {vs : List V}, Reps K F H ds vs -> Reps K F' H' ds vs
 | _, _, .nil => .nil
 | _, _, .cons h r => .cons (Rep.stay S h) (Reps.stay S r)
end
theorem Reps.length {K : PySem.W.Frag} {F : Addr -> Prop} {H : Hp} : ∀ {ds : List D} {vs : List V}, Reps K F H ds vs -> ds.length = vs.length
 | _, _, .nil => rfl
 | _, _, .cons _ r => by simp [Reps.length r]
theorem Reps.get {K : PySem.W.Frag} {F : Addr -> Prop} {H : Hp} : ∀ {ds : List D} {vs : List V} {i : Nat} {d : D}, Reps K F H ds vs -> ds[i]? = some d -> ∃ v, vs[i]? = some v /\ Rep K F H d v
 | _, _, _, _, .nil, e => by simp at e
 | _, _, 0, _, .cons h _, e => by simp at e; subst e; exact ⟨_, rfl, h⟩
 | _, _, i + 1, d, .cons _ r, e => by
  obtain ⟨v, h1, h2⟩ := Reps.get (i := i) (d := d) r (by simpa using e)
  exact ⟨v, by simpa using h1, h2⟩
theorem Reps.append {K : PySem.W.Frag} {F : Addr -> Prop} {H : Hp} : ∀ {ds es : List D} {vs us : List V}, Reps K F H ds vs -> Reps K F H es us -> Reps K F H (ds ++ es) (vs ++ us)
 | _, _, _, _, .nil, s => s
 | _, _, _, _, .cons h r, s => .cons h (Reps.append r s)
theorem Reps.take {K : PySem.W.Frag} {F : Addr -> Prop} {H : Hp} : ∀ {ds : List D} {vs : List V} (n : Nat), Reps K F H ds vs -> Reps K F H (ds.take n) (vs.take n)
 | _, _, 0, _ => .nil
 | _, _, _ + 1, .nil => .nil
 | _, _, n + 1, .cons h r => .cons h (Reps.take n r)
theorem Reps.drop {K : PySem.W.Frag} {F : Addr -> Prop} {H : Hp} : ∀ {ds : List D} {vs : List V} (n : Nat), Reps K F H ds vs -> Reps K F H (ds.drop n) (vs.drop n)
 | _, _, 0, r => r
 | _, _, _ + 1, .nil => .nil
 | _, _, n + 1, .cons _ r => Reps.drop n r
structure Ext (F F' : Addr -> Prop) (H H' : Hp) : Prop where
 same : Same H H'
 up : ∀ a, F a -> F' a
 new : ∀ a, F' a -> F a ∨ (H a = none /\ H' a ≠ none)
theorem Ext.refl (F : Addr -> Prop) (H : Hp) : Ext F F H H := ⟨Same.refl H, fun _ h => h, fun _ h => .inl h⟩
theorem Ext.trans {F F1 F2 : Addr -> Prop} {H H1 H2 : Hp} (a : Ext F F1 H H1) (b : Ext F1 F2 H1 H2) : Ext F F2 H H2 :=
 ⟨a.same.trans b.same, fun x h => b.up x (a.up x h), fun x h => by
  rcases b.new x h with h1 | ⟨h1, h2⟩
  ·rcases a.new x h1 with h3 | ⟨h3, h4⟩
   ·exact .inl h3
   ·refine .inr ⟨h3, fun z => h4 (b.same.free z)⟩
  ·exact .inr ⟨a.same.free h1, h2⟩⟩
theorem Same.sqT {K : PySem.W.Frag} {H H' : Hp} {a : Addr} {xs : List V} (e : Same H H') (h : SqT K H a xs) : SqT K H' a xs := by
 rcases h with (h | ⟨o, h⟩) | h
 ·exact .inl (.inl (e _ _ h))
 ·exact .inl (.inr ⟨o, e _ _ h⟩)
 ·exact .inr h
theorem Same.rd {H H' : Hp} {a : Addr} {u : HO} (e : Same H H') (h : Rd H a u) : Rd H' a u := by
 rcases h with h | ⟨o, h⟩
 ·exact .inl (e _ _ h)
 ·exact .inr ⟨o, e _ _ h⟩
theorem Ext.stay {K : PySem.W.Frag} {F F' : Addr -> Prop} {H H' : Hp} (e : Ext F F' H H') : Stay K F F' H H' :=
 ⟨e.up, fun _ _ h => Same.sqT e.same h, fun _ _ _ h => Same.rd e.same h, fun _ _ _ h => e.same _ _ h⟩
theorem zIS {H : Hp} {p : Addr} {o : HO} (hp : H p = none) : Same H (upd H p o) := fun b u e => by
 rw [zAg (zBd e hp)]; exact e
theorem Ext.fresh {F : Addr -> Prop} {H : Hp} {p : Addr} {o : HO} (hp : H p = none) : Ext F F H (upd H p o) := ⟨zIS hp, fun _ h => h, fun _ h => .inl h⟩
theorem Ext.frozen {F : Addr -> Prop} {H : Hp} {p : Addr} {o : HO} (hp : H p = none) : Ext F (fun a => F a ∨ a = p) H (upd H p o) :=
 ⟨zIS hp, fun _ h => .inl h, fun a h => h.elim .inl fun e => .inr (by subst e; exact ⟨hp, by rw [zAC]; simp⟩)⟩
theorem Rep.newTup {K : PySem.W.Frag} {F : Addr -> Prop} {H : Hp} {p : Addr} {vs : List V} {ds : List D} (hp : H p = none) (r : Reps K F H ds vs) : Rep K F (upd H p (.tup vs)) (.tuple ds) (.ref p) :=
 .tup (.inl (.inl zAC)) (r.stay (Ext.fresh hp).stay)
theorem Rep.newLst {K : PySem.W.Frag} {F : Addr -> Prop} {H : Hp} {p : Addr} {vs : List V} {ds : List D} (hp : H p = none) (r : Reps K F H ds vs) : Rep K (fun a => F a ∨ a = p) (upd H p (.lst vs)) (.list ds) (.ref p) :=
 .lst (.inl ⟨.inr rfl, .inl zAC⟩) (r.stay (Ext.frozen hp).stay)
inductive Sl where
 | no
 | dat (d : D)
 | own (ds : List D)
 | ownD (kvs : List (D × D))
 | ownM (kvs : List (List Int × List D))
structure Q4 where
 k : List Int
 b : Addr
 c : Addr
 vs : List V
noncomputable def Q4.ent (q : Q4) : DKey × Addr × V := (.inl q.k, q.b, .ref q.c)
structure MEnt (K : PySem.W.Frag) (F : Addr -> Prop) (H H₀ : Hp) (kv : List Int × List D) (q : Q4) : Prop where
 key : kv.1 = q.k
 sq : SqT K H q.b (q.k.map V.int)
 hc : H q.c = some (LstO q.c q.vs)
 nf : ¬ F q.c
 h0 : H₀ q.c = none
 rs : Reps K F H kv.2 q.vs
structure zC0 (K : PySem.W.Frag) (F : Addr -> Prop) (H H₀ : Hp) (kvs : List (List Int × List D)) (a : Addr) (qs : List Q4) (ep : Nat) : Prop where
 hd : H a = some (DctO a (qs.map Q4.ent) ep)
 nf : ¬ F a
 h0 : H₀ a = none
 nd : (qs.map (·.k)).Nodup
 ln : qs.length <= 1000
 nv : (qs.map (·.c)).Nodup
 na : a ∉ qs.map (·.c)
 ps : Paired (MEnt K F H H₀) kvs qs
noncomputable def SlOk (K : PySem.W.Frag) (F : Addr -> Prop) (H H₀ : Hp) : Option V -> Sl -> Prop
 | _, .no => True
 | o, .dat d => ∃ v, o = some v /\ Rep K F H d v
 | o, .own ds => ∃ a vs, o = some (.ref a) /\ H a = some (.lst vs) /\ ¬ F a /\ H₀ a = none /\ Reps K F H ds vs
 | o, .ownD kvs => ∃ a es ep, o = some (.ref a) /\ H a = some (DctO a es ep) /\ ¬ F a /\ H₀ a = none /\ (es.map (·.1)).Nodup /\ es.length <= 1000 /\ DReps K F H kvs es
 | o, .ownM kvs => ∃ a es ep, o = some (.ref a) /\ zC0 K F H H₀ kvs a es ep
structure StOk (K : PySem.W.Frag) (F : Addr -> Prop) (H H₀ : Hp) (σ : L2.St) (ρ : List Sl) : Prop where
 len : σ.length = ρ.length
 sl : ∀ (i : Nat) (s : Sl), ρ[i]? = some s -> ∃ o, σ[i]? = some o /\ SlOk K F H H₀ o s
 sep : ∀ (i j : Nat) (a : Addr) (ds es : List D), i ≠ j -> ρ[i]? = some (.own ds) -> ρ[j]? = some (.own es) -> σ[i]? = some (some (.ref a)) -> σ[j]? ≠ some (some (.ref a))
 fz : ∀ a, F a -> H a ≠ none
theorem zC0.to {K : PySem.W.Frag} {F F' : Addr -> Prop} {H H' H₀ : Hp} {kvs : List (List Int × List D)} {a : Addr} {es : List Q4} {ep : Nat} (m : zC0 K F H H₀ kvs a es ep) (T : Stay K F F' H H')
  (k : ∀ b φ, H b = some (.ext φ) -> ¬ F b -> H' b = some (.ext φ) /\ ¬ F' b) : zC0 K F' H' H₀ kvs a es ep :=
 ⟨(k _ _ m.hd m.nf).1, (k _ _ m.hd m.nf).2, m.h0, m.nd, m.ln, m.nv, m.na, Paired.mapP m.ps fun _ _ q => ⟨q.key, T.tp _ _ q.sq, (k _ _ q.hc q.nf).1, (k _ _ q.hc q.nf).2, q.h0, q.rs.stay T⟩⟩
theorem SlOk.ext {K : PySem.W.Frag} {F F' : Addr -> Prop} {H H' H₀ : Hp} (e : Ext F F' H H') {o : Option V} {s : Sl} (h : SlOk K F H H₀ o s) : SlOk K F' H' H₀ o s := by
 cases s with
 | no => trivial
 | ownM kvs =>
  obtain ⟨a, es, ep, q, m⟩ := h
  refine ⟨a, es, ep, q, m.to e.stay fun b φ hb nf => ⟨e.same _ _ hb, fun f => ?_⟩⟩
  rcases e.new b f with f | ⟨f, _⟩
  ·exact nf f
  ·rw [hb] at f; cases f
 | ownD kvs =>
  obtain ⟨a, es, ep, q, ha, nf, h0, n, l, r⟩ := h
  refine ⟨a, es, ep, q, e.same _ _ ha, fun f => ?_, h0, n, l, r.stay e.stay⟩
  rcases e.new a f with f | ⟨f, _⟩
  ·exact nf f
  ·rw [ha] at f; cases f
 | dat d => obtain ⟨v, q, r⟩ := h; exact ⟨v, q, r.stay e.stay⟩
 | own ds =>
  obtain ⟨a, vs, q, ha, nf, h0, r⟩ := h
  refine ⟨a, vs, q, e.same _ _ ha, fun f => ?_, h0, r.stay e.stay⟩
  rcases e.new a f with f | ⟨f, _⟩
  ·exact nf f
  ·rw [ha] at f; cases f
theorem Ext.fz {F F' : Addr -> Prop} {H H' : Hp} (e : Ext F F' H H') (z : ∀ a, F a -> H a ≠ none) : ∀ a, F' a -> H' a ≠ none := fun a f q => by
 rcases e.new a f with f | ⟨_, f⟩
 ·exact z a f (e.same.free q)
 ·exact f q
theorem StOk.ext {K : PySem.W.Frag} {F F' : Addr -> Prop} {H H' H₀ : Hp} {σ : L2.St} {ρ : List Sl} (S : StOk K F H H₀ σ ρ) (e : Ext F F' H H') : StOk K F' H' H₀ σ ρ :=
 ⟨S.len, fun i s h => let ⟨o, q, r⟩ := S.sl i s h; ⟨o, q, r.ext e⟩, S.sep, e.fz S.fz⟩
theorem StOk.dat {K : PySem.W.Frag} {F : Addr -> Prop} {H H₀ : Hp} {σ : L2.St} {ρ : List Sl} (S : StOk K F H H₀ σ ρ) {i : Nat} {d : D} (h : ρ[i]? = some (.dat d)) : ∃ v, σ[i]? = some (some v) /\ Rep K F H d v := by
 obtain ⟨o, q, v, e, r⟩ := S.sl i _ h
 exact ⟨v, by rw [q, e], r⟩
theorem StOk.ownD {K : PySem.W.Frag} {F : Addr -> Prop} {H H₀ : Hp} {σ : L2.St} {ρ : List Sl} (S : StOk K F H H₀ σ ρ) {i : Nat} {kvs : List (D × D)} (h : ρ[i]? = some (.ownD kvs)) :
  ∃ a es ep, σ[i]? = some (some (.ref a)) /\ H a = some (DctO a es ep) /\ ¬ F a /\ H₀ a = none /\ (es.map (·.1)).Nodup /\ es.length <= 1000 /\ DReps K F H kvs es := by
 obtain ⟨o, q, a, es, ep, e, r⟩ := S.sl i _ h
 exact ⟨a, es, ep, by rw [q, e], r⟩
theorem StOk.own {K : PySem.W.Frag} {F : Addr -> Prop} {H H₀ : Hp} {σ : L2.St} {ρ : List Sl} (S : StOk K F H H₀ σ ρ) {i : Nat} {ds : List D} (h : ρ[i]? = some (.own ds)) :
  ∃ a vs, σ[i]? = some (some (.ref a)) /\ H a = some (.lst vs) /\ ¬ F a /\ H₀ a = none /\ Reps K F H ds vs := by
 obtain ⟨o, q, a, vs, e, r⟩ := S.sl i _ h
 exact ⟨a, vs, by rw [q, e], r⟩
theorem StOk.put {K : PySem.W.Frag} {F : Addr -> Prop} {H H₀ : Hp} {σ : L2.St} {ρ : List Sl} (S : StOk K F H H₀ σ ρ) {i : Nat} {d : D} {v : V} (r : Rep K F H d v) : StOk K F H H₀ (σ.set i (some v)) (ρ.set i (.dat d)) := by
 refine ⟨by simp [S.len], fun j s h => ?_, fun j k a ds es hjk h1 h2 h3 => ?_, S.fz⟩
 ·by_cases hij : i = j
  ·subst hij
   have hl : i < ρ.length := by
    have := Qe.mp h
    simpa using this.1
   rw [QA hl] at h
   cases h
   exact ⟨some v, by rw [QA (by rw [S.len]; exact hl)], v, rfl, r⟩
  ·rw [Qu hij] at h
   obtain ⟨o, q, w⟩ := S.sl j s h
   exact ⟨o, by rw [Qu hij]; exact q, w⟩
 ·have nj : i ≠ j := by
   intro e; subst e
   have hl : i < ρ.length := by
    have := Qe.mp h1
    simpa using this.1
   rw [QA hl] at h1; cases h1
  have nk : i ≠ k := by
   intro e; subst e
   have hl : i < ρ.length := by
    have := Qe.mp h2
    simpa using this.1
   rw [QA hl] at h2; cases h2
  rw [Qu nj] at h1 h3
  rw [Qu nk] at h2 ⊢
  exact S.sep j k a ds es hjk h1 h2 h3
theorem StOk.putOwn {K : PySem.W.Frag} {F : Addr -> Prop} {H H₀ : Hp} {σ : L2.St} {ρ : List Sl} (S : StOk K F H H₀ σ ρ) {i : Nat} {ds : List D} {vs : List V} {p : Addr} (hp : H p = none) (h0 : H₀ p = none) (r : Reps K F H ds vs) :
  StOk K F (upd H p (.lst vs)) H₀ (σ.set i (some (.ref p))) (ρ.set i (.own ds)) := by
 have e : Ext F F H (upd H p (.lst vs)) := Ext.fresh hp
 have S' := S.ext e
 have hf : ¬ F p := fun f => S.fz p f hp
 refine ⟨by simp [S.len], fun j s h => ?_, fun j k a ds' es hjk h1 h2 h3 h4 => ?_, S'.fz⟩
 ·by_cases hij : i = j
  ·subst hij
   have hl : i < ρ.length := by
    have := Qe.mp h
    simpa using this.1
   rw [QA hl] at h
   cases h
   exact ⟨some (.ref p), by rw [QA (by rw [S.len]; exact hl)], p, vs, rfl, zAC, hf, h0, r.stay e.stay⟩
  ·rw [Qu hij] at h
   obtain ⟨o, q, w⟩ := S'.sl j s h
   exact ⟨o, by rw [Qu hij]; exact q, w⟩
 ·have old : ∀ (m : Nat) (a : Addr) (es : List D), i ≠ m -> (ρ.set i (.own ds))[m]? = some (.own es) -> (σ.set i (some (.ref p)))[m]? = some (some (.ref a)) -> a ≠ p := fun m a es nm g1 g2 z => by
   rw [Qu nm] at g1 g2
   obtain ⟨b, us, q1, q2, _⟩ := S.own g1
   rw [q1] at g2; cases g2
   subst z
   rw [hp] at q2; cases q2
  by_cases hij : i = j
  ·subst hij
   have hik : i ≠ k := hjk
   have hl : i < ρ.length := by
    have := Qe.mp h1
    simpa using this.1
   rw [QA (by rw [S.len]; exact hl)] at h3
   cases h3
   exact old k p es hik h2 h4 rfl
  ·by_cases hik : i = k
   ·subst hik
    have hl : i < ρ.length := by
     have := Qe.mp h2
     simpa using this.1
    rw [QA (by rw [S.len]; exact hl)] at h4
    cases h4
    exact old j p ds' hij h1 h3 rfl
   ·rw [Qu hij] at h1 h3
    rw [Qu hik] at h2 h4
    exact S.sep j k a ds' es hjk h1 h2 h3 h4
theorem StOk.turn {K : PySem.W.Frag} {F : Addr -> Prop} {H H₀ : Hp} {σ : L2.St} {ρ : List Sl} (S : StOk K F H H₀ σ ρ) {i : Nat} {ds es : List D} {vs us : List V} {p : Addr} (hi : ρ[i]? = some (.own ds)) (hs : σ[i]? = some (some (.ref p)))
  (hp : H p = some (.lst vs)) (hf : ¬ F p) (r : Reps K F H es us) : StOk K F (upd H p (.lst us)) H₀ σ (ρ.set i (.own es)) /\ Stay K F F H (upd H p (.lst us)) := by
 have T : Stay K F F H (upd H p (.lst us)) := ⟨fun _ h => h, fun a xs h => by
   rcases h with (h | ⟨o, h⟩) | h
   ·exact .inl (.inl (by rw [zAg (by intro z; subst z; rw [hp] at h; cases h)]; exact h))
   ·exact .inl (.inr ⟨o, by rw [zAg (by intro z; subst z; rw [hp] at h; cases h)]; exact h⟩)
   ·exact .inr h, fun a xs f h => by
   have na : a ≠ p := fun z => hf (z ▸ f)
   rcases h with h | ⟨o, h⟩
   ·exact .inl (by rw [zAg na]; exact h)
   ·exact .inr ⟨o, by rw [zAg na]; exact h⟩, fun a φ f h => by rw [zAg (fun z => hf (by rw [<- z]; exact f))]; exact h⟩
 refine ⟨⟨by simp [S.len], fun j s h => ?_, fun j k a ds' es' hjk h1 h2 h3 => ?_, fun a f z => S.fz a f (by
  have na : a ≠ p := fun y => hf (by rw [<- y]; exact f)
  rwa [zAg na] at z)⟩, T⟩
 ·by_cases hij : i = j
  ·subst hij
   have hl : i < ρ.length := (Qe.mp hi).1
   rw [QA hl] at h
   cases h
   obtain ⟨a, ws, q1, _, _, q4, _⟩ := S.own hi
   rw [hs] at q1; cases q1
   exact ⟨_, hs, p, us, rfl, zAC, hf, q4, r.stay T⟩
  ·rw [Qu hij] at h
   obtain ⟨o, q, w⟩ := S.sl j s h
   refine ⟨o, q, ?_⟩
   cases s with
   | no => trivial
   | ownM kvs =>
    obtain ⟨a, es', ep, q', m⟩ := w
    exact ⟨a, es', ep, q', m.to T fun b φ hb nf => ⟨by rw [zAg (by intro z; subst z; rw [hp] at hb; cases hb)]; exact hb, nf⟩⟩
   | ownD kvs =>
    obtain ⟨a, es', ep, q', ha, nf, h0, n, l, r'⟩ := w
    exact ⟨a, es', ep, q', by rw [zAg (by intro z; subst z; rw [hp] at ha; cases ha)]; exact ha, nf, h0, n, l, r'.stay T⟩
   | dat d => obtain ⟨v, q', r'⟩ := w; exact ⟨v, q', r'.stay T⟩
   | own ds' =>
    obtain ⟨a, ws, q', ha, nf, h0, r'⟩ := w
    have na : a ≠ p := by
     intro z; subst z
     exact S.sep i j a ds ds' hij hi h hs (by rw [q, q'])
    exact ⟨a, ws, q', by rw [zAg na]; exact ha, nf, h0, r'.stay T⟩
 ·have get : ∀ (m : Nat) (es' : List D), (ρ.set i (.own es))[m]? = some (.own es') -> ∃ ds'' : List D, ρ[m]? = some (.own ds'') := fun m es' g => by
   by_cases him : i = m
   ·subst him; exact ⟨ds, hi⟩
   ·rw [Qu him] at g; exact ⟨es', g⟩
  obtain ⟨d1, g1⟩ := get j ds' h1
  obtain ⟨d2, g2⟩ := get k es' h2
  exact S.sep j k a d1 d2 hjk g1 g2 h3
noncomputable def frz : Sl -> Sl
 | .own ds => .dat (.list ds)
 | .ownD kvs => .dat (.dict kvs)
 | .ownM _ => .no
 | s => s
noncomputable def Own (σ : L2.St) (ρ : List Sl) (a : Addr) : Prop := (∃ (i : Nat) (ds : List D), ρ[i]? = some (.own ds) /\ σ[i]? = some (some (.ref a))) ∨ ∃ (i : Nat) (kvs : List (D × D)), ρ[i]? = some (.ownD kvs) /\ σ[i]? = some (some (.ref a))
theorem StOk.frz {K : PySem.W.Frag} {F : Addr -> Prop} {H H₀ : Hp} {σ : L2.St} {ρ : List Sl} (S : StOk K F H H₀ σ ρ) : StOk K (fun a => F a ∨ Own σ ρ a) H H₀ σ (ρ.map frz) := by
 have T : Stay K F (fun a => F a ∨ Own σ ρ a) H H := ⟨fun _ h => .inl h, fun _ _ h => h, fun _ _ _ h => h, fun _ _ _ h => h⟩
 refine ⟨by simp [S.len], fun j s h => ?_, fun j k a ds es _ h1 => ?_, fun a f => ?_⟩
 ·rw [QQ] at h
  cases e : ρ[j]? with
  | none => rw [e] at h; cases h
  | some s' =>
   rw [e] at h
   obtain ⟨o, q, w⟩ := S.sl j s' e
   refine ⟨o, q, ?_⟩
   cases s' with
   | no => cases h; trivial
   | ownM kvs => cases h; trivial
   | ownD kvs =>
    cases h
    obtain ⟨a, es, ep, q', ha, nf, h0, n, l, r⟩ := w
    exact ⟨.ref a, q', .dct (.inr (.inr ⟨j, kvs, e, by rw [q, q']⟩)) ha n l (r.stay T)⟩
   | dat d => cases h; obtain ⟨v, q', r⟩ := w; exact ⟨v, q', r.stay T⟩
   | own ds =>
    cases h
    obtain ⟨a, vs, q', ha, nf, h0, r⟩ := w
    exact ⟨.ref a, q', .lst (.inl ⟨.inr (.inl ⟨j, ds, e, by rw [q, q']⟩), .inl ha⟩) (r.stay T)⟩
 ·rw [QQ] at h1
  cases e : ρ[j]? with
  | none => rw [e] at h1; cases h1
  | some s' => rw [e] at h1; cases s' <;> cases h1
 ·rcases f with f | ⟨i, ds, q1, q2⟩ | ⟨i, kvs, q1, q2⟩
  ·exact S.fz a f
  ·obtain ⟨b, vs, g1, g2, _⟩ := S.own q1
   rw [g1] at q2; cases q2
   rw [g2]; simp
  ·obtain ⟨b, vs, ep, g1, g2, _⟩ := S.ownD q1
   rw [g1] at q2; cases q2
   rw [g2]; simp
end DL
namespace DL
open PySem PySem.Spec PyProof.Rows L2
abbrev Rho := List Sl
section
variable {X : Cx}
theorem zAQ {e : Expr} {t t' : TE} (h : PE X e t) (m : ∀ σ H Q, t' σ H Q -> t σ H Q) : PE X e t' := fun pins s σ H Q I q => h pins s σ H Q I (m σ H Q q)
theorem zFW {e : Expr} {t t' : TT} (h : PT X e t) (m : ∀ σ H Q, t' σ H Q -> t σ H Q) : PT X e t' := fun pins s σ H Q I q => h pins s σ H Q I (m σ H Q q)
theorem zII {e : Expr} {t t' : TT} (h : PW X e t) (m : ∀ σ H Q, t' σ H Q -> t σ H Q) : PW X e t' := fun wh pins s σ H Q I q => h wh pins s σ H Q I (m σ H Q q)
theorem zIs {es : List Expr} {t t' : TA} (h : PA X es t) (m : ∀ σ H Q, t' σ H Q -> t σ H Q) : PA X es t' := fun pos pins s σ H Q I q => h pos pins s σ H Q I (m σ H Q q)
theorem ps_mono {e : Stmt} {t t' : TS} (h : PS X e t) (m : ∀ W σ H, t' W σ H -> t W σ H) : PS X e t' := fun pins s σ H W I q => h pins s σ H W I (m W σ H q)
theorem zIH {e : List Stmt} {t t' : TS} (h : PSs X e t) (m : ∀ W σ H, t' W σ H -> t W σ H) : PSs X e t' := fun pins s σ H W I q => h pins s σ H W I (m W σ H q)
theorem zDj {f : Value -> Value -> Sem Value} {r r' : R2} (h : OpR X f r) (m : ∀ x y H Q, r' x y H Q -> r x y H Q) : OpR X f r' := fun pins s σ H x y v u Q I rx ry q => h pins s σ H x y v u Q I rx ry (m x y H Q q)
theorem zOi {f : Value -> Sem Value} {r r' : V -> Hp -> VK -> Prop} (h : UnR X f r) (m : ∀ x H Q, r' x H Q -> r x H Q) : UnR X f r' := fun pins s σ H x v Q I rx q => h pins s σ H x v Q I rx (m x H Q q)
theorem zC2 {f : Value} {r r' : List V -> Hp -> VK -> Prop} (h : zAR X f r) (m : ∀ x H Q, r' x H Q -> r x H Q) : zAR X f r' := fun pins s σ H x v Q I rx q => h pins s σ H x v Q I rx (m x H Q q)
theorem zLs {r r' : R2} (h : IxR X r) (m : ∀ x y H Q, r' x y H Q -> r x y H Q) : IxR X r' := fun a b pins s σ H x y v u Q I rx ry q hs => h a b pins s σ H x y v u Q I rx ry (m x y H Q q) hs
end
inductive TDx (K : PySem.W.Frag) (σ : L2.St) (H : Hp) {α : Type} (g : Rho -> Option α) (h : (Addr -> Prop) -> α -> Prop) : Prop
 | mk (F : Addr -> Prop) (H₀ : Hp) (ρ : Rho) (x : α) (S : StOk K F H H₀ σ ρ) (q : g ρ = some x) (k : h F x) : TDx K σ H g h
noncomputable def tD (K : PySem.W.Frag) (g : Rho -> Option D) : TE := fun σ H Q => TDx K σ H g fun F d => ∀ F' H' v, Ext F F' H H' -> Rep K F' H' d v -> Q v H'
noncomputable def tDT (K : PySem.W.Frag) (g : Rho -> Option Bool) : TT := fun σ H Q => TDx K σ H g fun F b => ∀ F' H', Ext F F' H H' -> Q b H'
noncomputable def tDA (K : PySem.W.Frag) (g : Rho -> Option (List D)) : TA := fun σ H Q => TDx K σ H g fun F ds => ∀ F' H' vs, Ext F F' H H' -> Reps K F' H' ds vs -> Q vs H'
noncomputable def DE (X : Cx) (e : Expr) (g : Rho -> Option D) : Prop := PE X e (tD X.K g)
noncomputable def DT (X : Cx) (e : Expr) (g : Rho -> Option Bool) : Prop := PT X e (tDT X.K g)
noncomputable def DW (X : Cx) (e : Expr) (g : Rho -> Option Bool) : Prop := PW X e (tDT X.K g)
noncomputable def DA (X : Cx) (es : List Expr) (g : Rho -> Option (List D)) : Prop := PA X es (tDA X.K g)
noncomputable def eC (d : D) : Rho -> Option D := fun _ => some d
noncomputable def eV (i : Nat) : Rho -> Option D := fun ρ => match ρ[i]? with
 | some (.dat d) => some d
 | _ => none
noncomputable def eOp (f : D -> D -> Option D) (ga gb : Rho -> Option D) : Rho -> Option D := fun ρ => (ga ρ).bind fun x => (gb ρ).bind fun y => f x y
noncomputable def eUn (f : D -> Option D) (ga : Rho -> Option D) : Rho -> Option D := fun ρ => (ga ρ).bind f
noncomputable def eNil : Rho -> Option (List D) := fun _ => some []
noncomputable def zAc (ga : Rho -> Option D) (gr : Rho -> Option (List D)) : Rho -> Option (List D) := fun ρ => (ga ρ).bind fun x => (gr ρ).bind fun xs => some (x :: xs)
noncomputable def eTup (ga : Rho -> Option (List D)) : Rho -> Option D := fun ρ => (ga ρ).bind fun xs => if xs.length <= 1000 then some (.tuple xs) else none
noncomputable def eLst (ga : Rho -> Option (List D)) : Rho -> Option D := fun ρ => (ga ρ).bind fun xs => if xs.length <= 1000 then some (.list xs) else none
noncomputable def zAf (G : List D -> Option D) (ga : Rho -> Option (List D)) : Rho -> Option D := fun ρ => (ga ρ).bind G
noncomputable def asB : D -> Option Bool
 | .bool b => some b
 | _ => none
noncomputable def asI : D -> Option Int
 | .int i => some i
 | _ => none
noncomputable def eB (ga : Rho -> Option D) : Rho -> Option Bool := fun ρ => (ga ρ).bind asB
noncomputable def eAnd (t u : Rho -> Option Bool) : Rho -> Option Bool := fun ρ => (t ρ).bind fun b => if b = true then u ρ else some false
noncomputable def eOr (t u : Rho -> Option Bool) : Rho -> Option Bool := fun ρ => (t ρ).bind fun b => if b = true then some true else u ρ
noncomputable def eNot (t : Rho -> Option Bool) : Rho -> Option Bool := fun ρ => (t ρ).bind fun b => some (!b)
noncomputable def eIf (t : Rho -> Option Bool) (ga gb : Rho -> Option D) : Rho -> Option D := fun ρ => (t ρ).bind fun b => if b = true then ga ρ else gb ρ
noncomputable def zCC (ga gb : Rho -> Option D) : Rho -> Option D := fun ρ => (ga ρ).bind fun x => (asB x).bind fun c => if c = true then gb ρ else some (.bool false)
noncomputable def zG7 (ga : Rho -> Option D) : Rho -> Option D := fun ρ => (ga ρ).bind fun x => (asB x).bind fun c => some (.bool (!c))
noncomputable def zDJ (h h' : D -> D -> Option D) (ga gb gc : Rho -> Option D) : Rho -> Option D := fun ρ => (ga ρ).bind fun x => (gb ρ).bind fun y => (h x y).bind fun z => (asB z).bind fun k => if k = true then (gc ρ).bind fun w => h' y w else some (.bool false)
inductive RD2 (K : PySem.W.Frag) (h : D -> D -> Option D) (x y : V) (H : Hp) (Q : VK) : Prop
 | mk (F : Addr -> Prop) (d e r : D) (z : ∀ a, F a -> H a ≠ none) (R1 : Rep K F H d x) (R2 : Rep K F H e y) (q : h d e = some r) (k : ∀ F' H' v, Ext F F' H H' -> Rep K F' H' r v -> Q v H') : RD2 K h x y H Q
noncomputable def rD2 (K : PySem.W.Frag) (h : D -> D -> Option D) : R2 := fun x y H Q => RD2 K h x y H Q
inductive RD1 (K : PySem.W.Frag) (h : D -> Option D) (x : V) (H : Hp) (Q : VK) : Prop
 | mk (F : Addr -> Prop) (d r : D) (z : ∀ a, F a -> H a ≠ none) (R1 : Rep K F H d x) (q : h d = some r) (k : ∀ F' H' v, Ext F F' H H' -> Rep K F' H' r v -> Q v H') : RD1 K h x H Q
noncomputable def rD1 (K : PySem.W.Frag) (h : D -> Option D) : V -> Hp -> VK -> Prop := fun x H Q => RD1 K h x H Q
inductive RDA (K : PySem.W.Frag) (h : List D -> Option D) (xs : List V) (H : Hp) (Q : VK) : Prop
 | mk (F : Addr -> Prop) (ds : List D) (r : D) (z : ∀ a, F a -> H a ≠ none) (R1 : Reps K F H ds xs) (q : h ds = some r) (k : ∀ F' H' v, Ext F F' H H' -> Rep K F' H' r v -> Q v H') : RDA K h xs H Q
noncomputable def rDA (K : PySem.W.Frag) (h : List D -> Option D) : List V -> Hp -> VK -> Prop := fun xs H Q => RDA K h xs H Q
section
variable {X : Cx} {a b c e : Expr} {es : List Expr} {ga gb gc : Rho -> Option D} {pos p : Pos}
theorem bnd {α β : Type} {o : Option α} {f : α -> Option β} {b : β} (h : o.bind f = some b) : ∃ a, o = some a /\ f a = some b := by
 cases o with
 | none => cases h
 | some a => exact ⟨a, rfl, h⟩
theorem zG0 {v : V} {d : D} (h : PE X e (tC v)) (r : ∀ K F H, Rep K F H d v) : DE X e (eC d) :=
 zAQ h fun σ H Q zz => by
  obtain ⟨F, H₀, ρ, d', S, q, k⟩ := zz
  cases q
  exact k F H v (Ext.refl F H) (r _ _ _)
theorem zAe {i : Int} {j : Nat} : DE X (.Constant (.int i) j pos) (eC (.int i)) := zG0 zMS fun _ _ _ => .int i
theorem zA5 {i : Bool} {j : Nat} : DE X (.Constant (.bool i) j pos) (eC (.bool i)) := zG0 pe_bl fun _ _ _ => .bl i
theorem zAb (i : Nat) {x : Str} (hN : X.N[i]? = some x := by rfl) (hv : Vis X.env.scope x := by first | exact Or.inl rfl | exact Or.inr (Or.inl rfl) | exact Or.inr (Or.inr rfl)) (hd : (x == ("__debug__" : Str)) = false := by decide)
  (hcd : (x == ("__classdict__" : Str)) = false := by decide) : DE X (.Name x pos) (eV i) :=
 zAQ (zDk hN hv hd hcd) fun σ H Q zz => by
  obtain ⟨F, H₀, ρ, d, S, q, k⟩ := zz
  unfold eV at q
  split at q
  ·rename_i d' e
   cases q
   obtain ⟨v, hs, r⟩ := S.dat e
   exact ⟨v, hs, k F H v (Ext.refl F H) r⟩
  ·cases q
theorem zDV {h : D -> D -> Option D} {σ : L2.St} {H : Hp} {Q : VK} (q : tD X.K (eOp h ga gb) σ H Q) : tOp (rD2 X.K h) (tD X.K ga) (tD X.K gb) σ H Q := by
 obtain ⟨F, H₀, ρ, d, S, q, k⟩ := q
 obtain ⟨x, e1, q⟩ := bnd q
 obtain ⟨y, e2, q⟩ := bnd q
 exact ⟨F, H₀, ρ, x, S, e1, fun F1 H1 v E1 R1 => ⟨F1, H₀, ρ, y, S.ext E1, e2, fun F2 H2 u E2 R2 => ⟨F2, x, y, d, ((S.ext E1).ext E2).fz, R1.stay E2.stay, R2, q, fun F3 H3 w E3 R3 => k F3 H3 w (E1.trans (E2.trans E3)) R3⟩⟩⟩
theorem zAn {op : Operator} {h : D -> D -> Option D} (ho : OpR X (binaryOp op) (rD2 X.K h)) (ha : DE X a ga) (hb : DE X b gb) : DE X (.BinOp a op b pos) (eOp h ga gb) :=
 zAQ (pe_op ho ha hb) fun _ _ _ q => zDV q
theorem zCx {op : CmpOp} {h : D -> D -> Option D} (ho : OpR X (compareOp op) (rD2 X.K h)) (ha : DE X a ga) (hb : DE X b gb) (hm : behindInMarks op b = false) : DE X (.Compare a [op] [b] pos) (eOp h ga gb) :=
 zAQ (zMN ho ha hb hm) fun _ _ _ q => zDV q
theorem zAm {h : D -> D -> Option D} (ho : IxR X (rD2 X.K h)) (ha : DE X a ga) (hb : DE X b gb) (hs : zGE b := by exact fun _ _ => rfl) : DE X (.Subscript a b pos) (eOp h ga gb) :=
 zAQ (pe_ix ho ha hb hs) fun _ _ _ q => zDV q
theorem zEL {op : UnaryOp} {h : D -> Option D} (ho : UnR X (unaryOp op) (rD1 X.K h)) (ha : DE X a ga) : DE X (.UnaryOp op a pos) (eUn h ga) :=
 zAQ (pe_un ho ha) fun σ H Q zz => by
  obtain ⟨F, H₀, ρ, d, S, q, k⟩ := zz
  obtain ⟨x, e1, q⟩ := bnd q
  exact ⟨F, H₀, ρ, x, S, e1, fun F1 H1 v E1 R1 => ⟨F1, x, d, (S.ext E1).fz, R1, q, fun F3 H3 w E3 R3 => k F3 H3 w (E1.trans E3) R3⟩⟩
theorem zDo {K : PySem.W.Frag} {F : Addr -> Prop} {H : Hp} {d : D} {v : V} {b : Bool} (r : Rep K F H d v) (h : asB d = some b) : v = .bl b := by
 cases r with
 | bl c => cases h; rfl
 | _ => cases h
theorem zNz {K : PySem.W.Frag} {F : Addr -> Prop} {H : Hp} {d : D} {v : V} {i : Int} (r : Rep K F H d v) (h : asI d = some i) : v = .int i := by
 cases r with
 | int c => cases h; rfl
 | _ => cases h
theorem liftT {t : TE} {g : Rho -> Option D} (m : ∀ σ H Q, tD X.K g σ H Q -> t σ H Q) {σ : L2.St} {H : Hp} {Q : Bool -> Hp -> Prop} (q : tDT X.K (eB g) σ H Q) : zJm t σ H Q := by
 obtain ⟨F, H₀, ρ, b, S, q, k⟩ := q
 obtain ⟨d, e1, q⟩ := bnd q
 exact m σ H _ ⟨F, H₀, ρ, d, S, e1, fun F1 H1 v E1 R1 => ⟨b, zDo R1 q, k F1 H1 E1⟩⟩
theorem zAs {op : CmpOp} {h : D -> D -> Option D} (ho : OpR X (compareOp op) (rD2 X.K h)) (ha : DE X a ga) (hb : DE X b gb) (hm : behindInMarks op b = false) : DT X (.Compare a [op] [b] pos) (eB (eOp h ga gb)) :=
 zFW (zNk ho ha hb hm) fun _ _ _ q => liftT (fun _ _ _ => zDV) q
theorem lift3 {h h' : D -> D -> Option D} {σ : L2.St} {H : Hp} {Q : VK} (q : tD X.K (zDJ h h' ga gb gc) σ H Q) : zJk (rD2 X.K h) (rD2 X.K h') (tD X.K ga) (tD X.K gb) (tD X.K gc) σ H Q := by
 obtain ⟨F, H₀, ρ, d, S, q, k⟩ := q
 obtain ⟨x, e1, q⟩ := bnd q
 obtain ⟨y, e2, q⟩ := bnd q
 obtain ⟨z, e3, q⟩ := bnd q
 obtain ⟨c', e4, q⟩ := bnd q
 refine ⟨F, H₀, ρ, x, S, e1, fun F1 H1 v E1 R1 => ⟨F1, H₀, ρ, y, S.ext E1, e2, fun F2 H2 u E2 R2 => ⟨F2, x, y, z, ((S.ext E1).ext E2).fz, R1.stay E2.stay, R2, e3, fun F3 H3 w E3 R3 => ⟨c', zDo R3 e4, ?_⟩⟩⟩⟩
 cases c' with
 | false =>
  simp only [Qp, if_false] at q ⊢
  cases q
  exact k F3 H3 _ (E1.trans (E2.trans E3)) (.bl false)
 | true =>
  simp only [if_true] at q ⊢
  obtain ⟨w', e5, q⟩ := bnd q
  have S3 := ((S.ext E1).ext E2).ext E3
  exact ⟨F3, H₀, ρ, w', S3, e5, fun F4 H4 v4 E4 R4 => ⟨F4, y, w', d, (S3.ext E4).fz, (R2.stay E3.stay).stay E4.stay, R4, q, fun F5 H5 v5 E5 R5 => k F5 H5 v5 (E1.trans (E2.trans (E3.trans (E4.trans E5)))) R5⟩⟩
theorem zGY {op op' : CmpOp} {h h' : D -> D -> Option D} (ho : OpR X (compareOp op) (rD2 X.K h)) (ho' : OpR X (compareOp op') (rD2 X.K h')) (ha : DE X a ga) (hb : DE X b gb) (hc : DE X c gc)
  (hm : lastMarks [op, op'] [b, c] = false := by with_unfolding_all rfl) : DE X (.Compare a [op, op'] [b, c] pos) (zDJ h h' ga gb gc) :=
 zAQ (zMM ho ho' ha hb hc hm) fun _ _ _ q => lift3 q
theorem zBG (ha : DE X a ga) (he : ∀ whole, isTrue a X.env whole = (do let v <- whole; standAt a.pos; holding [v] (truthy v)) := by intro _; rfl) : DT X a (eB ga) :=
 zFW (zNm ha he) fun σ H Q zz => by
  obtain ⟨F, H₀, ρ, b, S, q, k⟩ := zz
  obtain ⟨d, e1, q⟩ := bnd q
  exact ⟨F, H₀, ρ, d, S, e1, fun F1 H1 v E1 R1 => ⟨b, zDo R1 q, k F1 H1 E1⟩⟩
variable {t u : Rho -> Option Bool} {rest : List Expr}
theorem zDI (ha : DT X a t) : DW X (.BoolOp .And [a] pos) t := zNr ha
theorem zG6 (ha : DT X a t) : DW X (.BoolOp .Or [a] pos) t := zNs ha
theorem zDH (ha : DT X a t) (hb : DW X (.BoolOp .And (b :: rest) pos) u) : DW X (.BoolOp .And (a :: b :: rest) pos) (eAnd t u) :=
 zII (zNq ha hb) fun σ H Q zz => by
  obtain ⟨F, H₀, ρ, r, S, q, k⟩ := zz
  obtain ⟨d, e1, q⟩ := bnd q
  refine ⟨F, H₀, ρ, d, S, e1, fun F1 H1 E1 => ?_⟩
  cases d with
  | true => simp only [if_true] at q ⊢; exact ⟨F1, H₀, ρ, r, S.ext E1, q, fun F2 H2 E2 => k F2 H2 (E1.trans E2)⟩
  | false => simp only [Qp, if_false] at q ⊢; cases q; exact k F1 H1 E1
theorem zG5 (ha : DT X a t) (hb : DW X (.BoolOp .Or (b :: rest) pos) u) : DW X (.BoolOp .Or (a :: b :: rest) pos) (eOr t u) :=
 zII (pw_or ha hb) fun σ H Q zz => by
  obtain ⟨F, H₀, ρ, r, S, q, k⟩ := zz
  obtain ⟨d, e1, q⟩ := bnd q
  refine ⟨F, H₀, ρ, d, S, e1, fun F1 H1 E1 => ?_⟩
  cases d with
  | false => simp only [Qp, if_false] at q ⊢; exact ⟨F1, H₀, ρ, r, S.ext E1, q, fun F2 H2 E2 => k F2 H2 (E1.trans E2)⟩
  | true => simp only [if_true] at q ⊢; cases q; exact k F1 H1 E1
theorem dw_t (h : DW X a t) : DT X a t := PW.pt h
theorem zC7 (ha : DT X a t) : DT X (.UnaryOp .Not a pos) (eNot t) :=
 zFW (zNl ha) fun σ H Q zz => by
  obtain ⟨F, H₀, ρ, r, S, q, k⟩ := zz
  obtain ⟨d, e1, q⟩ := bnd q
  cases q
  exact ⟨F, H₀, ρ, d, S, e1, fun F1 H1 E1 => k F1 H1 E1⟩
theorem zEJ {op : BoolOp} (ha : DE X a ga) : DE X (.BoolOp op [a] pos) ga := zMV ha
theorem zEH (ha : DE X a ga) (hb : DE X (.BoolOp .And (b :: rest) pos) gb) : DE X (.BoolOp .And (a :: b :: rest) pos) (zCC ga gb) :=
 zAQ (zMI ha hb) fun σ H Q zz => by
  obtain ⟨F, H₀, ρ, r, S, q, k⟩ := zz
  obtain ⟨d, e1, q⟩ := bnd q
  obtain ⟨c, e2, q⟩ := bnd q
  refine ⟨F, H₀, ρ, d, S, e1, fun F1 H1 v E1 R1 => ⟨c, zDo R1 e2, ?_⟩⟩
  cases c with
  | true => simp only [if_true] at q ⊢; exact ⟨F1, H₀, ρ, r, S.ext E1, q, fun F2 H2 w E2 R2 => k F2 H2 w (E1.trans E2) R2⟩
  | false => simp only [Qp, if_false] at q ⊢; cases q; exact k F1 H1 _ E1 (.bl false)
theorem zKu (ha : DE X a ga) : DE X (.UnaryOp .Not a pos) (zG7 ga) :=
 zAQ (zMU ha) fun σ H Q zz => by
  obtain ⟨F, H₀, ρ, r, S, q, k⟩ := zz
  obtain ⟨d, e1, q⟩ := bnd q
  obtain ⟨c, e2, q⟩ := bnd q
  cases q
  exact ⟨F, H₀, ρ, d, S, e1, fun F1 H1 v E1 R1 => ⟨c, zDo R1 e2, k F1 H1 _ E1 (.bl _)⟩⟩
theorem zGZ (hc : DT X c t) (ha : DE X a ga) (hb : DE X b gb) : DE X (.IfExp c a b pos) (eIf t ga gb) :=
 zAQ (zMR hc ha hb) fun σ H Q zz => by
  obtain ⟨F, H₀, ρ, r, S, q, k⟩ := zz
  obtain ⟨d, e1, q⟩ := bnd q
  refine ⟨F, H₀, ρ, d, S, e1, fun F1 H1 E1 => ?_⟩
  cases d with
  | true => simp only [if_true] at q ⊢; exact ⟨F1, H₀, ρ, r, S.ext E1, q, fun F2 H2 w E2 R2 => k F2 H2 w (E1.trans E2) R2⟩
  | false => simp only [Qp, if_false] at q ⊢; exact ⟨F1, H₀, ρ, r, S.ext E1, q, fun F2 H2 w E2 R2 => k F2 H2 w (E1.trans E2) R2⟩
variable {gr : Rho -> Option (List D)}
theorem zAd : DA X [] eNil := zIs zBX fun σ H Q zz => by
 obtain ⟨F, H₀, ρ, d, S, q, k⟩ := zz
 cases q
 exact k F H [] (Ext.refl F H) .nil
theorem zKp (ha : DE X e ga) (hr : DA X es gr) (hs : starEach (e :: es) X.env = (false, eval e X.env) :: starEach es X.env := by rfl) : DA X (e :: es) (zAc ga gr) :=
 zIs (zBx ha hr hs) fun σ H Q zz => by
  obtain ⟨F, H₀, ρ, d, S, q, k⟩ := zz
  obtain ⟨x, e1, q⟩ := bnd q
  obtain ⟨xs, e2, q⟩ := bnd q
  cases q
  exact ⟨F, H₀, ρ, x, S, e1, fun F1 H1 v E1 R1 => ⟨F1, H₀, ρ, xs, S.ext E1, e2, fun F2 H2 vs E2 R2 => k F2 H2 _ (E1.trans E2) (.cons (R1.stay E2.stay) R2)⟩⟩
theorem zBc {n : Nat} (h : n <= 1000) : n <= sizeLine := Yv (zEi h)
theorem zKv {x1} (h : DA X es gr) : DE X (.Tuple es x1 pos) (eTup gr) :=
 zAQ (zMY h) fun σ H Q zz => by
  obtain ⟨F, H₀, ρ, d, S, q, k⟩ := zz
  obtain ⟨xs, e1, q⟩ := bnd q
  refine ⟨F, H₀, ρ, xs, S, e1, fun F1 H1 vs E1 R1 => ?_⟩
  by_cases hl : xs.length <= 1000
  ·rw [if_pos hl] at q
   cases q
   refine ⟨zBc (by rw [<- R1.length]; exact hl), fun p hp => k F1 _ _ (E1.trans (Ext.fresh hp)) (Rep.newTup hp R1)⟩
  ·rw [if_neg hl] at q; cases q
theorem zBa (h : DA X es gr) : DE X (.List es pos) (eLst gr) :=
 zAQ (zFQ h) fun σ H Q zz => by
  obtain ⟨F, H₀, ρ, d, S, q, k⟩ := zz
  obtain ⟨xs, e1, q⟩ := bnd q
  refine ⟨F, H₀, ρ, xs, S, e1, fun F1 H1 vs E1 R1 => ?_⟩
  by_cases hl : xs.length <= 1000
  ·rw [if_pos hl] at q
   cases q
   refine ⟨zBc (by rw [<- R1.length]; exact hl), fun p hp => k _ _ _ (E1.trans (Ext.frozen hp)) (Rep.newLst hp R1)⟩
  ·rw [if_neg hl] at q; cases q
theorem zH5 {h : List D -> Option D} {σ : L2.St} {H : Hp} {Q : VK} (q : tD X.K (zAf h gr) σ H Q) : tCB (rDA X.K h) (tDA X.K gr) σ H Q := by
 obtain ⟨F, H₀, ρ, d, S, q, k⟩ := q
 obtain ⟨xs, e1, q⟩ := bnd q
 exact ⟨F, H₀, ρ, xs, S, e1, fun F1 H1 vs E1 R1 => ⟨F1, xs, d, (S.ext E1).fz, R1, q, fun F2 H2 w E2 R2 => k F2 H2 w (E1.trans E2) R2⟩⟩
theorem zBF {id : String} {x : Str} {h : List D -> Option D} (hc : zAR X (.builtin id) (rDA X.K h)) (hg : Gl X x) (hm : X.mg x = none) (hv : bootBuiltins x = some (.builtin id)) (ha : DA X (e :: es) gr) (hn : x ≠ "__name__" := by decide) (hdb : (x == ("__debug__" : Str)) = false := by decide)
  (he : starEach (e :: es) X.env = (false, eval e X.env) :: starEach es X.env := by rfl) (hpl : (backTo pos (starEach es X.env)).any (·.1) = false := by rfl) : DE X (.Call (.Name x p) (e :: es) [] pos) (zAf h gr) :=
 zAQ (zIx hc hg hm hv ha hn hdb he hpl) fun _ _ _ q => zH5 q
theorem zCw {T : String} {x : Str} {h : List D -> Option D} (hc : zAR X (.type T) (rDA X.K h)) (hg : Gl X x) (hm : X.mg x = none) (hv : bootBuiltins x = some (.type T)) (ha : DA X (e :: es) gr) (hn : x ≠ "__name__" := by decide) (hdb : (x == ("__debug__" : Str)) = false := by decide)
  (he : starEach (e :: es) X.env = (false, eval e X.env) :: starEach es X.env := by rfl) (hpl : (backTo pos (starEach es X.env)).any (·.1) = false := by rfl) : DE X (.Call (.Name x p) (e :: es) [] pos) (zAf h gr) :=
 zAQ (zML hc hg hm hv ha hn hdb he hpl) fun _ _ _ q => zH5 q
noncomputable def spD (K : PySem.W.Frag) (n : Nat) (G : List D -> Option D) : Sp := fun vs H Q _ => ∃ (F : Addr -> Prop) (ds : List D) (d : D), ds.length = n /\ (∀ a, F a -> H a ≠ none) /\ Reps K F H ds vs /\ G ds = some d /\ ∀ F' H' v, Ext F F' H H' -> Rep K F' H' d v -> Q v H'
theorem zKr {k n : Nat} {f : Addr} {fd : FuncData} {ps : List Str} {x : Str} {G : List D -> Option D} (F : FnOk X.prog X.w X.K X.mg X.base CX0 k f fd ps (spD X.K n G)) (hr : Room k X.A) (hg : Gl X x) (hm : X.mg x = some (.ref f)) (hk : PySem.W.keepIn X.K (.ref f) = true) (hb : Binds X.K fd ps [])
  (ha : DA X (e :: es) gr) (hln : ∀ ρ ds, gr ρ = some ds -> ds.length = n) (hdb : (x == ("__debug__" : Str)) = false := by decide) (he : starEach (e :: es) X.env = (false, eval e X.env) :: starEach es X.env := by rfl) (hpl : (backTo pos (starEach es X.env)).any (·.1) = false := by rfl) :
  DE X (.Call (.Name x p) (e :: es) [] pos) (zAf G gr) :=
 zAQ (zMK (E := E0) F hr hg hm hk hb .nil pass0 ha hdb he hpl) fun σ H Q zz => by
  obtain ⟨F, H₀, ρ, d, S, q, k⟩ := zz
  obtain ⟨xs, e1, q⟩ := bnd q
  exact ⟨F, H₀, ρ, xs, S, e1, fun F1 H1 vs E1 R1 => by
   show spD X.K n G (vs ++ []) H1 Q E0
   rw [Yn]
   exact ⟨F1, xs, d, hln ρ xs e1, (S.ext E1).fz, R1, q, fun F2 H2 w E2 R2 => k F2 H2 w (E1.trans E2) R2⟩⟩
theorem zKS {ρ : Rho} {ds : List D} (h : eNil ρ = some ds) : ds.length = 0 := by cases h; rfl
theorem zDK {n : Nat} (h' : ∀ ρ ds, gr ρ = some ds -> ds.length = n) (ρ : Rho) (ds : List D) (h : zAc ga gr ρ = some ds) : ds.length = n + 1 := by
 obtain ⟨x, e1, q⟩ := bnd h
 obtain ⟨xs, e2, q⟩ := bnd q
 cases q
 simp [h' ρ xs e2]
end
end DL
namespace EX
open PySem PySem.Spec PyProof.Rows L2
noncomputable def Fly (h : Heap) (e : Addr) (cls : Value) (tr : Option Addr) : Prop :=
 ∃ oe vs, h.get? e = some oe /\ oe.cls = cls /\ oe.data = .fields vs /\ match tr with
  | none => vs[1]? = some .none
  | some T => vs[1]? = some (.ref T) /\ T ≠ e /\ ∃ oT ts, h.get? T = some oT /\ oT.data = .fields ts /\ ts[3]? = some .none
structure ThrownC (X : Cx) (pins : List (Addr × Obj)) (H : Hp) (s : Shared) (a : Addr) (cls : Value) (tr : Option Addr) : Prop where
 fly : Fly s.heap a cls tr
 new : ∀ b, (b = a ∨ some b = tr) -> X.s₀.heap.get? b = none /\ H b = none /\ b ≠ X.env.locals /\ (∀ x c, X.env.cells.lookup x = some c -> c ≠ b) /\ ∀ p ∈ X.pn ++ pins, p.1 ≠ b
section
variable {M : Model} {A : Around} {E : Value -> Shared -> Prop} {s : Shared}
end
end EX
namespace DL
open PySem PySem.Spec PyProof.Rows L2
inductive Out where
 | nx (ρ : Rho)
 | rt (d : D)
 | bk (ρ : Rho)
 | ct (ρ : Rho)
 | ex (x : Str) (ρ : Rho)
theorem Stay.refl (K : PySem.W.Frag) (F : Addr -> Prop) (H : Hp) : Stay K F F H H := ⟨fun _ h => h, fun _ _ h => h, fun _ _ _ h => h, fun _ _ _ h => h⟩
theorem Stay.trans {K : PySem.W.Frag} {F F1 F2 : Addr -> Prop} {H H1 H2 : Hp} (a : Stay K F F1 H H1) (b : Stay K F1 F2 H1 H2) : Stay K F F2 H H2 :=
 ⟨fun x h => b.up x (a.up x h), fun x xs h => b.tp x xs (a.tp x xs h), fun x xs f h => b.ls x xs (a.up x f) (a.ls x xs f h), fun x φ f h => b.xt x φ (a.up x f) (a.xt x φ f h)⟩
noncomputable def zC1 (X : Cx) (F₀ : Addr -> Prop) (H₀ : Hp) (F : Addr -> Prop) (H : Hp) (W : Ends) : Out -> Prop
 | .nx ρ => ∀ F' H' σ, Ext F₀ F' H₀ H' -> Stay X.K F F' H H' -> StOk X.K F' H' H₀ σ ρ -> W.nx σ H'
 | .rt d => ∀ F' H' v, Ext F₀ F' H₀ H' -> Rep X.K F' H' d v -> W.rt v H'
 | .bk ρ => ∀ F' H' σ, Ext F₀ F' H₀ H' -> Stay X.K F F' H H' -> StOk X.K F' H' H₀ σ ρ -> W.bk σ H'
 | .ct ρ => ∀ F' H' σ, Ext F₀ F' H₀ H' -> Stay X.K F F' H H' -> StOk X.K F' H' H₀ σ ρ -> W.ct σ H'
 | .ex x ρ => ∀ F' H' σ pins s a C tr, Ext F₀ F' H₀ H' -> StOk X.K F' H' H₀ σ ρ -> Inv X pins σ H' s -> PySem.W.nsIn X.K mainGlobals x = some (some (.ref C)) -> EX.ThrownC X pins H' s a (.ref C) tr -> X.xe (.ref a) s
theorem zC1.from {X : Cx} {F₀ F F' : Addr -> Prop} {H₀ H H' : Hp} {W : Ends} {o : Out} (T : Stay X.K F F' H H') (k : zC1 X F₀ H₀ F H W o) : zC1 X F₀ H₀ F' H' W o := by
 cases o with
 | nx ρ => exact fun F2 H2 σ E T2 S => k F2 H2 σ E (T.trans T2) S
 | rt d => exact k
 | bk ρ => exact fun F2 H2 σ E T2 S => k F2 H2 σ E (T.trans T2) S
 | ct ρ => exact fun F2 H2 σ E T2 S => k F2 H2 σ E (T.trans T2) S
 | ex x ρ => exact k
inductive TDS (X : Cx) (g : Rho -> Option Out) (W : Ends) (σ : L2.St) (H : Hp) : Prop
 | mk (F₀ : Addr -> Prop) (H₀ : Hp) (F : Addr -> Prop) (ρ : Rho) (o : Out) (E : Ext F₀ F H₀ H) (S : StOk X.K F H H₀ σ ρ) (q : g ρ = some o) (k : zC1 X F₀ H₀ F H W o) : TDS X g W σ H
noncomputable def tDS (X : Cx) (g : Rho -> Option Out) : TS := fun W σ H => TDS X g W σ H
noncomputable def DS (X : Cx) (st : Stmt) (g : Rho -> Option Out) : Prop := PS X st (tDS X g)
noncomputable def DSs (X : Cx) (sts : List Stmt) (g : Rho -> Option Out) : Prop := PSs X sts (tDS X g)
noncomputable def sSeq (g1 g2 : Rho -> Option Out) : Rho -> Option Out := fun ρ => (g1 ρ).bind fun o => match o with
 | .nx ρ' => g2 ρ'
 | o => some o
noncomputable def zAG : Rho -> Option Out := fun ρ => some (.nx ρ)
noncomputable def sRet (g : Rho -> Option D) : Rho -> Option Out := fun ρ => (g (ρ.map frz)).bind fun d => some (.rt d)
noncomputable def sSet (i : Nat) (g : Rho -> Option D) : Rho -> Option Out := fun ρ => (g ρ).bind fun d => some (.nx (ρ.set i (.dat d)))
noncomputable def sOwn (i : Nat) (g : Rho -> Option (List D)) : Rho -> Option Out := fun ρ => (g ρ).bind fun ds => if ds.length <= 1000 then some (.nx (ρ.set i (.own ds))) else none
noncomputable def sIf (t : Rho -> Option Bool) (g1 g2 : Rho -> Option Out) : Rho -> Option Out := fun ρ => (t (ρ.map frz)).bind fun b => if b = true then g1 ρ else g2 ρ
noncomputable def zBY (g : Rho -> Option D) : Rho -> Option Out := fun ρ => (g ρ).bind fun _ => some (.nx ρ)
noncomputable def sApp (i : Nat) (g : Rho -> Option D) : Rho -> Option Out := fun ρ => match ρ[i]? with
 | some (.own ds) => (g ρ).bind fun d => if ds.length < 1000 then some (.nx (ρ.set i (.own (ds ++ [d])))) else none
 | _ => none
noncomputable def zB0 (t : Rho -> Option Bool) (g : Rho -> Option Out) : Nat -> Rho -> Option Out
 | 0, _ => none
 | n + 1, ρ => (t (ρ.map frz)).bind fun b => if b = true then (g ρ).bind fun o => match o with
   | .nx ρ' => zB0 t g n ρ'
   | .ct ρ' => zB0 t g n ρ'
   | .bk ρ' => some (.nx ρ')
   | .rt d => some (.rt d)
   | .ex x ρ' => some (.ex x ρ')
  else some (.nx ρ)
noncomputable def forN (s : D -> Rho -> Option Rho) (g : Rho -> Option Out) : List D -> Rho -> Option Out
 | [], ρ => some (.nx ρ)
 | d :: ds, ρ => (s d ρ).bind fun ρ1 => (g ρ1).bind fun o => match o with
   | .nx ρ' => forN s g ds ρ'
   | .ct ρ' => forN s g ds ρ'
   | .bk ρ' => some (.nx ρ')
   | .rt d => some (.rt d)
   | .ex x ρ' => some (.ex x ρ')
noncomputable def sFor (gi : Rho -> Option (List D)) (s : D -> Rho -> Option Rho) (g : Rho -> Option Out) : Rho -> Option Out := fun ρ => (gi ρ).bind fun xs => forN s g xs ρ
section
variable {X : Cx} {e a b c tg : Expr} {es : List Expr} {st : Stmt} {rest body orelse : List Stmt} {g g1 g2 gb : Rho -> Option Out} {ga : Rho -> Option D} {gr : Rho -> Option (List D)} {t : Rho -> Option Bool} {pos p : Pos}
theorem zAN : DSs X [] zAG := zIH zNh fun W σ H zz => by
 obtain ⟨F₀, H₀, F, ρ, o, E, S, q, k⟩ := zz
 cases q
 exact k F H σ E (Stay.refl _ F H) S
theorem zNL {F₀ : Addr -> Prop} {H₀ : Hp} {F : Addr -> Prop} {ρ : Rho} {o : Out} {W : Ends} {σ : L2.St} {H : Hp} (E : Ext F₀ F H₀ H) (S : StOk X.K F H H₀ σ ρ) (q : sSeq g1 g2 ρ = some o) (k : zC1 X F₀ H₀ F H W o) : tDS X g1 { W with nx := tDS X g2 W } σ H := by
 obtain ⟨o1, e1, q⟩ := bnd q
 refine ⟨F₀, H₀, F, ρ, o1, E, S, e1, ?_⟩
 cases o1 with
 | nx ρ' => exact fun F' H' σ' E' T' S' => ⟨F₀, H₀, F', ρ', o, E', S', q, k.from T'⟩
 | rt d => cases q; exact k
 | bk ρ' => cases q; exact k
 | ct ρ' => cases q; exact k
 | ex x ρ' => cases q; exact k
theorem zAi (h1 : DS X st g1) (h2 : DSs X rest g2) : DSs X (st :: rest) (sSeq g1 g2) :=
 zIH (zNg h1 h2) fun W σ H ⟨F₀, H₀, F, ρ, o, E, S, q, k⟩ => zNL E S q k
theorem zAl (h1 : DS X st g) : DSs X [st] g := zNi h1
theorem Ext.thaw {K : PySem.W.Frag} {F₀ F F' : Addr -> Prop} {H₀ H H' : Hp} {σ : L2.St} {ρ : Rho} (E : Ext F₀ F H₀ H) (S : StOk K F H H₀ σ ρ) (E' : Ext (fun a => F a ∨ Own σ ρ a) F' H H') : Ext F₀ F' H₀ H' :=
 ⟨E.same.trans E'.same, fun a f => E'.up a (.inl (E.up a f)), fun a f => by
  rcases E'.new a f with (f | ⟨i, ds, q1, q2⟩ | ⟨i, ds, q1, q2⟩) | ⟨f1, f2⟩
  ·rcases E.new a f with f | ⟨f, f'⟩
   ·exact .inl f
   ·exact .inr ⟨f, fun z => f' (E'.same.free z)⟩
  ·obtain ⟨b, vs, g1, g2, _, g4, _⟩ := S.own q1
   rw [g1] at q2; cases q2
   exact .inr ⟨g4, by rw [E'.same _ _ g2]; simp⟩
  ·obtain ⟨b, vs, ep, g1, g2, _, g4, _⟩ := S.ownD q1
   rw [g1] at q2; cases q2
   exact .inr ⟨g4, by rw [E'.same _ _ g2]; simp⟩
  ·exact .inr ⟨E.same.free f1, f2⟩⟩
theorem zAp (ha : DE X e ga) : DS X (.Return (some e) pos) (sRet ga) := ps_mono (zIG ha) fun W σ H zz => by
 obtain ⟨F₀, H₀, F, ρ, o, E, S, q, k⟩ := zz
 obtain ⟨d, e1, q⟩ := bnd q
 cases q
 exact ⟨_, H₀, ρ.map frz, d, S.frz, e1, fun F' H' v E' R' => k F' H' v (E.thaw S E') R'⟩
theorem zAu {i : Nat} {x : Str} {pos' : Pos} (hN : X.N.Nodup) (ha : DE X e ga) (hi : X.N[i]? = some x := by rfl) (hx : Loc X.env.scope x := by first | exact Or.inl rfl | exact Or.inr rfl) (hs : swapsWith e (some (.Name x pos')) pos.line X.env = pure false := by rfl) (hf : X.fn x = true ∨ X.env.scope.names.lookup x = some .local := by first | exact .inl rfl | exact .inr rfl | assumption) :
  DS X (.Assign [.Name x pos'] e pos) (sSet i ga) := ps_mono (zDn hN hi hx ha hs hf) fun W σ H zz => by
 obtain ⟨F₀, H₀, F, ρ, o, E, S, q, k⟩ := zz
 obtain ⟨d, e1, q⟩ := bnd q
 cases q
 exact ⟨F, H₀, ρ, d, S, e1, fun F' H' v E' R' => k F' H' _ (E.trans E') E'.stay ((S.ext E').put R')⟩
theorem Ext.lend {K : PySem.W.Frag} {F F' : Addr -> Prop} {H H₀ H' : Hp} {σ : L2.St} {ρ : Rho} (S : StOk K F H H₀ σ ρ) (E' : Ext (fun a => F a ∨ Own σ ρ a) F' H H') : Ext F (fun a => F' a /\ ¬ Own σ ρ a) H H' :=
 ⟨E'.same, fun a f => ⟨E'.up a (.inl f), fun z => by
   rcases z with ⟨i, ds, q1, q2⟩ | ⟨i, ds, q1, q2⟩
   ·obtain ⟨b, vs, g1, g2, g3, _⟩ := S.own q1
    rw [g1] at q2; cases q2
    exact g3 f
   ·obtain ⟨b, vs, ep, g1, g2, g3, _⟩ := S.ownD q1
    rw [g1] at q2; cases q2
    exact g3 f⟩, fun a zz => by
  obtain ⟨f, n⟩ := zz
  rcases E'.new a f with (f | f) | f
  ·exact .inl f
  ·exact absurd f n
  ·exact .inr f⟩
theorem zC6 {i : Nat} {x : Str} {pos' pos'' : Pos} (hN : X.N.Nodup) (ha : DA X es gr) (hi : X.N[i]? = some x := by rfl) (hx : Loc X.env.scope x := by first | exact Or.inl rfl | exact Or.inr rfl) (hs : swapsWith (.List es pos'') (some (.Name x pos')) pos.line X.env = pure false := by rfl) (hf : X.fn x = true ∨ X.env.scope.names.lookup x = some .local := by first | exact .inl rfl | exact .inr rfl | assumption) :
  DS X (.Assign [.Name x pos'] (.List es pos'') pos) (sOwn i gr) := ps_mono (zDn hN hi hx (zFQ ha) hs hf) fun W σ H zz => by
 obtain ⟨F₀, H₀, F, ρ, o, E, S, q, k⟩ := zz
 obtain ⟨ds, e1, q⟩ := bnd q
 by_cases hl : ds.length <= 1000
 ·rw [if_pos hl] at q
  cases q
  refine ⟨F, H₀, ρ, ds, S, e1, fun F' H' vs E' R' => ⟨zBc (by rw [<- R'.length]; exact hl), fun pp hp => ?_⟩⟩
  exact k F' _ _ ((E.trans E').trans (Ext.fresh hp)) (E'.stay.trans (Ext.fresh hp).stay) ((S.ext E').putOwn hp ((E.trans E').same.free hp) R')
 ·rw [if_neg hl] at q; cases q
theorem zAM (hc : DT X c t) (h1 : DSs X body g1) (h2 : DSs X orelse g2) : DS X (.If c body orelse pos) (sIf t g1 g2) := ps_mono (ps_if hc h1 h2) fun W σ H zz => by
 obtain ⟨F₀, H₀, F, ρ, o, E, S, q, k⟩ := zz
 obtain ⟨r, e1, q⟩ := bnd q
 refine ⟨_, H₀, ρ.map frz, r, S.frz, e1, fun F' H' E' => ?_⟩
 have E2 := E'.lend S
 cases r with
 | true => simp only [if_true] at q ⊢; exact ⟨F₀, H₀, _, ρ, o, E.trans E2, S.ext E2, q, k.from E2.stay⟩
 | false => simp only [Qp, if_false] at q ⊢; exact ⟨F₀, H₀, _, ρ, o, E.trans E2, S.ext E2, q, k.from E2.stay⟩
theorem zC5 (ha : DE X e ga) (hs : swapsWith e none pos.line X.env = pure false := by rfl) : DS X (.Expr e pos) (zBY ga) := ps_mono (zD6 ha hs) fun W σ H zz => by
 obtain ⟨F₀, H₀, F, ρ, o, E, S, q, k⟩ := zz
 obtain ⟨d, e1, q⟩ := bnd q
 cases q
 exact ⟨F, H₀, ρ, d, S, e1, fun F' H' v E' R' => k F' H' σ (E.trans E') E'.stay (S.ext E')⟩
theorem Ext.turn {F₀ F : Addr -> Prop} {H₀ H : Hp} {p : Addr} {o : HO} (E : Ext F₀ F H₀ H) (h0 : H₀ p = none) : Ext F₀ F H₀ (upd H p o) :=
 ⟨fun b u q => by rw [zAg (zBd q h0)]; exact E.same b u q, E.up, fun a f => by
  rcases E.new a f with f | ⟨f1, f2⟩
  ·exact .inl f
  ·refine .inr ⟨f1, fun z => ?_⟩
   by_cases ha : a = p
   ·subst ha; rw [zAC] at z; cases z
   ·rw [zAg ha] at z; exact f2 z⟩
theorem zER {i : Nat} {x : Str} {apos pos' : Pos} (ha : DE X e ga) (hN : X.N[i]? = some x := by rfl) (hv : Vis X.env.scope x := by first | exact Or.inl rfl | exact Or.inr (Or.inl rfl) | exact Or.inr (Or.inr rfl)) (hd : (x == ("__debug__" : Str)) = false := by decide)
  (hcd : (x == ("__classdict__" : Str)) = false := by decide) (hse : starEach [e] X.env = (false, eval e X.env) :: starEach [] X.env := by rfl)
  (hbase : attributeBase (.Name x p) "append" X.env (eval (.Name x p) X.env) = eval (.Name x p) X.env := by rfl)
  (hfew : ((backTo pos' (starEach [e] X.env)).all (fun x => !x.1) && (backToKw pos' (keywordEach [] X.env)).all (fun x => x.1.isSome)
   && decide ([e].length + ([] : List Keyword).length + (if ([] : List Keyword).isEmpty then 0 else 1) < 30)) = true := by rfl)
  (hline : (apos.endLine == pos'.line) = true := by rfl) (hplain : (backTo pos' (starEach [] X.env)).any (·.1) = false := by rfl) (hsw : swapsWith (.Call (.Attribute (.Name x p) "append" apos) [e] [] pos') none pos.line X.env = pure false := by rfl) :
  DS X (.Expr (.Call (.Attribute (.Name x p) "append" apos) [e] [] pos') pos) (sApp i ga) :=
 ps_mono (zD6 (zFP PySem.F.plainAttrs_list PySem.F.slot_list_append PySem.F.type_list_append zFF (zDk hN hv hd hcd) (zBx ha zBX hse) hbase hfew hline hse hplain) hsw) fun W σ H zz => by
 obtain ⟨F₀, H₀, F, ρ, o, E, S, q, k⟩ := zz
 unfold sApp at q
 split at q
 ·rename_i ds e0
  obtain ⟨d, e1, q⟩ := bnd q
  by_cases hl : ds.length < 1000
  ·rw [if_pos hl] at q
   cases q
   obtain ⟨l, vs, q1, q2, q3, q4, q5⟩ := S.own e0
   refine ⟨_, q1, .inl ⟨rfl, _, SqL.of q2⟩, F, H₀, ρ, d, S, e1, fun F' H' v E' R' => ?_⟩
   have S' := S.ext E'
   obtain ⟨l', vs', g1, g2, g3, g4, g5⟩ := S'.own e0
   rw [q1] at g1; cases g1
   refine ⟨l, vs', v, rfl, rfl, g2, zEi (by rw [<- g5.length]; lia), ?_⟩
   obtain ⟨S2, T⟩ := S'.turn e0 q1 g2 g3 (g5.append (.cons R' .nil))
   exact k F' _ σ ((E.trans E').turn q4) (E'.stay.trans T) S2
  ·rw [if_neg hl] at q; cases q
 ·cases q
end
end DL
namespace DL
open PySem PySem.Spec PyProof.Rows L2
inductive TDG (K : PySem.W.Frag) (s : D -> Rho -> Option Rho) (v : V) (σ : L2.St) (H : Hp) (Q : L2.St -> Hp -> Prop) : Prop
 | mk (F : Addr -> Prop) (H₀ : Hp) (ρ : Rho) (d : D) (ρ' : Rho) (S : StOk K F H H₀ σ ρ) (R : Rep K F H d v) (q : s d ρ = some ρ') (k : ∀ σ', StOk K F H H₀ σ' ρ' -> Q σ' H) : TDG K s v σ H Q
noncomputable def tDG (K : PySem.W.Frag) (s : D -> Rho -> Option Rho) : TG := fun v σ H Q => TDG K s v σ H Q
noncomputable def tDGs (K : PySem.W.Frag) (s : List D -> Rho -> Option Rho) : TGs := fun vs σ H Q => ∃ (F : Addr -> Prop) (H₀ : Hp) (ρ : Rho) (ds : List D) (ρ' : Rho), StOk K F H H₀ σ ρ /\ Reps K F H ds vs /\ s ds ρ = some ρ' /\ ∀ σ', StOk K F H H₀ σ' ρ' -> Q σ' H
noncomputable def DG (X : Cx) (tg : Expr) (s : D -> Rho -> Option Rho) : Prop := PG X tg (tDG X.K s)
noncomputable def DGs (X : Cx) (ts : List Expr) (s : List D -> Rho -> Option Rho) : Prop := PGs X ts (tDGs X.K s)
noncomputable def zAo (i : Nat) : D -> Rho -> Option Rho := fun d ρ => some (ρ.set i (.dat d))
noncomputable def uNil : List D -> Rho -> Option Rho
 | [], ρ => some ρ
 | _ :: _, _ => none
noncomputable def zBM (s1 : D -> Rho -> Option Rho) (s2 : List D -> Rho -> Option Rho) : List D -> Rho -> Option Rho
 | [], _ => none
 | d :: ds, ρ => (s1 d ρ).bind fun ρ' => s2 ds ρ'
noncomputable def uTup (n : Nat) (s : List D -> Rho -> Option Rho) : D -> Rho -> Option Rho
 | .tuple ds, ρ => if ds.length = n then s ds ρ else none
 | _, _ => none
section
variable {X : Cx} {e tg : Expr} {es : List Expr} {pos : Pos}
theorem zIy {t t' : TG} (h : PG X tg t) (m : ∀ v σ H Q, t' v σ H Q -> t v σ H Q) : PG X tg t' := fun pins s σ H v u Q I r q => h pins s σ H v u Q I r (m v σ H Q q)
theorem zIz {t t' : TGs} (h : PGs X es t) (m : ∀ v σ H Q, t' v σ H Q -> t v σ H Q) : PGs X es t' := fun pins s σ H v u Q I r q => h pins s σ H v u Q I r (m v σ H Q q)
theorem zAr {i : Nat} {x : Str} (hN : X.N.Nodup) (hi : X.N[i]? = some x := by rfl) (hx : Loc X.env.scope x := by first | exact Or.inl rfl | exact Or.inr rfl) (hf : X.fn x = true ∨ X.env.scope.names.lookup x = some .local := by first | exact .inl rfl | exact .inr rfl | assumption) : DG X (.Name x pos) (zAo i) :=
 zIy (zM0 hN hi hx hf) fun v σ H Q zz => by
  obtain ⟨F, H₀, ρ, d, ρ', S, R, q, k⟩ := zz
  cases q
  exact k _ (S.put R)
theorem zEO : DGs X [] uNil := zIz zM3 fun v σ H Q zz => by
 obtain ⟨F, H₀, ρ, ds, ρ', S, R, q, k⟩ := zz
 cases R with
 | nil => cases q; exact ⟨rfl, k σ S⟩
 | cons _ _ => cases q
theorem zCz {s1 : D -> Rho -> Option Rho} {s2 : List D -> Rho -> Option Rho} (h1 : DG X e s1) (h2 : DGs X es s2)
  (hs : (assignEach (e :: es) X.env).map (·.2) = assign e X.env :: (assignEach es X.env).map (·.2) := by rfl) : DGs X (e :: es) (zBM s1 s2) :=
 zIz (zM2 h1 h2 hs) fun v σ H Q zz => by
  obtain ⟨F, H₀, ρ, ds, ρ', S, R, q, k⟩ := zz
  cases R with
  | nil => cases q
  | cons r rs =>
   obtain ⟨ρ1, e1, q⟩ := bnd q
   exact ⟨_, _, rfl, F, H₀, ρ, _, ρ1, S, r, e1, fun σ1 S1 => ⟨F, H₀, ρ1, _, ρ', S1, rs, q, k⟩⟩
theorem zEN {n k : Nat} {s : List D -> Rho -> Option Rho} (hc : X.calm = true) (h : DGs X es s) (hn : (assignEach es X.env).length = n := by rfl) (hst : (assignEach es X.env).findIdx? (·.1) = none := by rfl) : DG X (.Tuple es k pos) (uTup n s) :=
 zIy (zM1 hc h hn hst) fun v σ H Q zz => by
  obtain ⟨F, H₀, ρ, d, ρ', S, R, q, k⟩ := zz
  cases R with
  | @tup a vs ds hq r =>
   by_cases hl : ds.length = n
   ·have q' : (if ds.length = n then s ds ρ else none) = some ρ' := q
    rw [if_pos hl] at q'
    exact ⟨_, _, rfl, hq, by rw [<- r.length]; exact hl, F, H₀, ρ, _, ρ', S, r, q', k⟩
   ·have q' : (if ds.length = n then s ds ρ else none) = some ρ' := q
    rw [if_neg hl] at q'; cases q'
  | non => cases q
  | dct _ _ _ _ _ => cases q
  | exn _ _ _ => cases q
  | bl _ => cases q
  | int _ => cases q
  | str _ => cases q
  | lst _ _ => cases q
end
section
variable {X : Cx} {e a b c tg iter : Expr} {es : List Expr} {st : Stmt} {rest body orelse : List Stmt} {g g1 g2 gb : Rho -> Option Out} {ga : Rho -> Option D} {gr : Rho -> Option (List D)} {t : Rho -> Option Bool} {pos p : Pos}
theorem zKO (n : Nat) (hp : PassesOwn (model X.prog X.w) X.A X.env X.xe) (hc : DT X c t) (hb : DSs X body g) : DS X (.While c body [] pos) (zB0 t g n) :=
 ps_mono (zNf hp hc hb) fun W σ H zz => by
  obtain ⟨F₀, H₀, F1, ρ1, o, E, S, q, k⟩ := zz
  refine ⟨fun m σ' H' => ∃ F ρ, Ext F₀ F H₀ H' /\ Stay X.K F1 F H H' /\ StOk X.K F H' H₀ σ' ρ /\ zB0 t g m ρ = some o, ⟨n, F1, ρ1, E, Stay.refl _ _ _, S, q⟩, ?_⟩
  rintro m σ' H' ⟨F, ρ, E', T', S', q'⟩
  cases m with
  | zero => cases q'
  | succ m =>
   obtain ⟨r, e1, q'⟩ := bnd q'
   refine ⟨_, H₀, ρ.map frz, r, S'.frz, e1, fun F2 H2 E2' => ?_⟩
   have E2 := E2'.lend S'
   cases r with
   | false =>
    simp only [Qp, if_false] at q' ⊢
    cases q'
    exact k _ H2 σ' (E'.trans E2) (T'.trans E2.stay) (S'.ext E2)
   | true =>
    simp only [if_true] at q' ⊢
    obtain ⟨o1, e2, q'⟩ := bnd q'
    refine ⟨fun σ3 H3 => ∃ F ρ, Ext F₀ F H₀ H3 /\ Stay X.K F1 F H H3 /\ StOk X.K F H3 H₀ σ3 ρ /\ zB0 t g m ρ = some o, fun σ3 H3 h3 => ⟨m, Nat.lt_succ_self m, h3⟩, F₀, H₀, _, ρ, o1, E'.trans E2, S'.ext E2, e2, ?_⟩
    cases o1 with
    | nx ρ3 => exact fun F3 H3 σ3 E3 T3 S3 => ⟨F3, ρ3, E3, (T'.trans E2.stay).trans T3, S3, q'⟩
    | ct ρ3 => exact fun F3 H3 σ3 E3 T3 S3 => ⟨F3, ρ3, E3, (T'.trans E2.stay).trans T3, S3, q'⟩
    | bk ρ3 => cases q'; exact fun F3 H3 σ3 E3 T3 S3 => k F3 H3 σ3 E3 ((T'.trans E2.stay).trans T3) S3
    | rt d => cases q'; exact k
    | ex x ρ3 => cases q'; exact k
noncomputable def ItD (K : PySem.W.Frag) (F : Addr -> Prop) (H : Hp) (ds : List D) (J : It) : Prop :=
 ∀ F2 H2, Stay K F F2 H H2 -> (∀ a, F2 a -> H2 a ≠ none) -> ∀ i : Nat, (∀ d, ds[i]? = some d -> J.go i H2 /\ ∀ x H3, J.yld i H2 x H3 -> ∃ F3, Ext F2 F3 H2 H3 /\ Rep K F3 H3 d x) /\ (ds.length <= i -> J.stop i H2)
noncomputable def tDI (K : PySem.W.Frag) (gi : Rho -> Option (List D)) : TI := fun σ H R => TDx K σ H gi fun F ds => ∀ F' H' J, Ext F F' H H' -> ItD K F' H' ds J -> R J H'
noncomputable def DI (X : Cx) (tg iter : Expr) (gi : Rho -> Option (List D)) : Prop := PI X tg iter (tDI X.K gi)
theorem zFR {wi wi' : TI} (h : PI X tg iter wi) (m : ∀ σ H R, wi' σ H R -> wi σ H R) : PI X tg iter wi' := fun pins s σ H R I q => h pins s σ H R I (m σ H R q)
structure FInv (K : PySem.W.Frag) (s : D -> Rho -> Option Rho) (g : Rho -> Option Out) (xs : List D) (o : Out) (F₀ F F1 : Addr -> Prop) (H₀ H H1 : Hp) (i : Nat) (σ2 : L2.St) (H2 : Hp) (F2 : Addr -> Prop) (ρ2 : Rho) : Prop where
 E : Ext F₀ F2 H₀ H2
 T0 : Stay K F F2 H H2
 T1 : Stay K F1 F2 H1 H2
 S : StOk K F2 H2 H₀ σ2 ρ2
 q : forN s g (xs.drop i) ρ2 = some o
theorem zBp {gi : Rho -> Option (List D)} {s : D -> Rho -> Option Rho} (hp : PassesOwn (model X.prog X.w) X.A X.env X.xe) (hc : X.calm = true) (hi : DI X tg iter gi) (hg : DG X tg s) (hb : DSs X body g)
  (hs : ∀ x, foldedSetIterable iter X.env x = pure x := by intro _; rfl) : DS X (.For tg iter body [] pos) (sFor gi s g) :=
 ps_mono (zNe hp hc hi hg hb hs) fun W σ H zz => by
  obtain ⟨F₀, H₀, F, ρ, o, E, S, q, k⟩ := zz
  obtain ⟨xs, e1, q⟩ := bnd q
  refine ⟨F, H₀, ρ, xs, S, e1, fun F1 H1 J E1 I1 => ?_⟩
  refine ⟨fun i m σ2 H2 => m = xs.length - i /\ i <= xs.length /\ ∃ F2 ρ2, FInv X.K s g xs o F₀ F F1 H₀ H H1 i σ2 H2 F2 ρ2,
   ⟨xs.length, rfl, QY _, F1, ρ, E.trans E1, E1.stay, Stay.refl _ _ _, S.ext E1, q⟩, ?_⟩
  rintro i m σ2 H2 ⟨rfl, hi2, F2, ρ2, E2, T0, T1, S2, q2⟩
  obtain ⟨it1, it2⟩ := I1 F2 H2 T1 S2.fz i
  by_cases hlt : i < xs.length
  ·right
   have hget : xs[i]? = some xs[i] := by simp [hlt]
   obtain ⟨go, yld⟩ := it1 _ hget
   rw [Yq hlt] at q2
   obtain ⟨ρ3, e3, q2⟩ := bnd q2
   obtain ⟨o3, e4, q2⟩ := bnd q2
   refine ⟨go, fun σ4 H4 => ∃ F4 ρ4, FInv X.K s g xs o F₀ F F1 H₀ H H1 (i + 1) σ4 H4 F4 ρ4, fun σ4 H4 h => ⟨xs.length - (i + 1), by lia, rfl, hlt, h⟩, fun x H3 y => ?_⟩
   obtain ⟨F3, E3, R3⟩ := yld x H3 y
   refine ⟨F3, H₀, ρ2, xs[i], ρ3, S2.ext E3, R3, e3, fun σ5 S5 => ⟨F₀, H₀, F3, ρ3, o3, E2.trans E3, S5, e4, ?_⟩⟩
   have TT0 := T0.trans E3.stay
   have TT1 := T1.trans E3.stay
   cases o3 with
   | nx ρ6 => exact fun F6 H6 σ6 E6 T6 S6 => ⟨F6, ρ6, E6, TT0.trans T6, TT1.trans T6, S6, q2⟩
   | ct ρ6 => exact fun F6 H6 σ6 E6 T6 S6 => ⟨F6, ρ6, E6, TT0.trans T6, TT1.trans T6, S6, q2⟩
   | bk ρ6 => cases q2; exact fun F6 H6 σ6 E6 T6 S6 => k F6 H6 σ6 E6 (TT0.trans T6) S6
   | rt d => cases q2; exact k
   | ex x ρ6 => cases q2; exact k
  ·left
   have hge : xs.length <= i := Jb hlt
   refine ⟨it2 hge, ?_⟩
   rw [List.drop_eq_nil_of_le hge] at q2
   cases q2
   exact k F2 H2 σ2 E2 T0 S2
noncomputable def rng1 : List D -> Option (List D)
 | [.int j] => if -4611686018427387904 <= j /\ j < 4611686018427387904 then some ((List.range j.toNat).map fun (k : Nat) => .int (0 + (k : Int))) else none
 | _ => none
theorem zLk {K : PySem.W.Frag} {F : Addr -> Prop} {H : Hp} (lo : Int) (n : Nat) : ItD K F H ((List.range n).map fun (k : Nat) => .int (lo + (k : Int))) (Itr lo n) := fun F2 H2 T z i => by
 refine ⟨fun d hd => ?_, fun hl => ?_⟩
 ·have hi : i < n := by
   have := (Qe.mp hd).1
   simpa using this
  have hd' : d = .int (lo + (i : Int)) := by
   rw [QQ, List.getElem?_range hi] at hd
   cases hd; rfl
  subst hd'
  refine ⟨hi, fun x H3 y => ?_⟩
  obtain ⟨y1, y2⟩ := y
  subst y1 y2
  exact ⟨F2, Ext.refl _ _, .int _⟩
 ·show n <= i
  simpa using hl
theorem zKA (hg : Gl X "range") (hm : X.mg "range" = none) (ha : DA X [a] gr) (hs : starEach [a] X.env = [(false, eval a X.env)] := by rfl) : DI X tg (.Call (.Name "range" p) [a] [] pos) (fun ρ => (gr ρ).bind rng1) :=
 zFR (zM5 hg hm ha hs) fun σ H R zz => by
  obtain ⟨F, H₀, ρ, ds, S, q, k⟩ := zz
  obtain ⟨xs, e1, q⟩ := bnd q
  unfold rng1 at q
  split at q
  ·rename_i j
   by_cases hj : -4611686018427387904 <= j /\ j < 4611686018427387904
   ·rw [if_pos hj] at q
    cases q
    refine ⟨F, H₀, ρ, _, S, e1, fun F1 H1 vs E1 R1 => ?_⟩
    cases R1 with
    | cons r rs =>
     cases r
     cases rs
     exact ⟨j, rfl, by lia, by lia, k F1 H1 _ E1 (zLk 0 _)⟩
   ·rw [if_neg hj] at q; cases q
  ·cases q
noncomputable def seqD : D -> Option (List D)
 | .list ds => some ds
 | .tuple ds => some ds
 | _ => none
theorem zLj {K : PySem.W.Frag} {F : Addr -> Prop} {H : Hp} {a : Addr} {vs : List V} {ds : List D} (h : FzL K F H a vs) (r : Reps K F H ds vs) : ItD K F H ds (Itl K a) := fun F2 H2 T z i => by
 have h2 := h.stay T
 have r2 := r.stay T
 refine ⟨fun d hd => ?_, fun hl => ⟨vs, h2.sq, by rw [<- r2.length]; exact hl⟩⟩
 obtain ⟨v, e, rv⟩ := r2.get hd
 refine ⟨⟨vs, v, h2.sq, e⟩, fun x H3 y => ?_⟩
 obtain ⟨y1, y2⟩ := y
 subst y1
 have := y2 vs h2.sq
 rw [e] at this; cases this
 exact ⟨F2, Ext.refl _ _, rv⟩
theorem zLl {K : PySem.W.Frag} {F : Addr -> Prop} {H : Hp} {a : Addr} {vs : List V} {ds : List D} (h : SqT K H a vs) (r : Reps K F H ds vs) : ItD K F H ds (Itt K a) := fun F2 H2 T z i => by
 have h2 := T.tp _ _ h
 have r2 := r.stay T
 refine ⟨fun d hd => ?_, fun hl => ⟨vs, h2, by rw [<- r2.length]; exact hl⟩⟩
 obtain ⟨v, e, rv⟩ := r2.get hd
 refine ⟨⟨vs, v, h2, e⟩, fun x H3 y => ?_⟩
 obtain ⟨y1, y2⟩ := y
 subst y1
 have := y2 vs h2
 rw [e] at this; cases this
 exact ⟨F2, Ext.refl _ _, rv⟩
theorem zKB (ha : DE X e ga) : DI X tg e (fun ρ => (ga ρ).bind seqD) := by
 intro pins s σ H R I h
 obtain ⟨F, H₀, ρ, ds, S, q, k⟩ := h
 obtain ⟨d, e1, q⟩ := bnd q
 refine thn (ha pins s σ H (fun x H1 => ∃ F1, Ext F F1 H H1 /\ Rep X.K F1 H1 d x) I ⟨F, H₀, ρ, d, S, e1, fun F1 H1 v E1 R1 => ⟨F1, E1, R1⟩⟩) fun v s1 zz => ?_
 obtain ⟨x, H1, I1, r1, F1, E1, R1⟩ := zz
 cases R1 with
 | @lst a vs ds' hq rr =>
  cases q
  cases r1
  obtain ⟨its, rv, p, hz⟩ := I1.list hq.sq
  refine wpAny_pyIter_list p.isList ?_
  refine ⟨s1.heap.objs.size, [s1.heap.objs.size], _, _, H1, rfl, I1.kept (t' := s1.toks) fun b o e => Qc _ e, zOb a _, ⟨_, Qx _ rfl, rfl, rfl⟩, fun b hb => ?_, k F1 H1 _ E1 (zLj hq rr)⟩
  have e : b = s1.heap.objs.size := by simpa using hb
  subst e
  exact I1.fpOk (Qj _) (I1.hok.fresh (Qj _))
 | @tup a vs ds' hq rr =>
  cases q
  cases r1
  obtain ⟨its, rv, p, hz⟩ := I1.tuple hq
  refine wpAny_pyIter_tuple (show s1.heap.IsTuple a its.toArray from p) ?_
  refine ⟨s1.heap.objs.size, [s1.heap.objs.size], _, _, H1, rfl, I1.kept (t' := s1.toks) fun b o e => Qc _ e, zOd a _, ⟨_, Qx _ rfl, rfl, rfl⟩, fun b hb => ?_, k F1 H1 _ E1 (zLl hq rr)⟩
  have e : b = s1.heap.objs.size := by simpa using hb
  subst e
  exact I1.fpOk (Qj _) (I1.hok.fresh (Qj _))
 | non => cases q
 | dct _ _ _ _ _ => cases q
 | exn _ _ _ => cases q
 | bl _ => cases q
 | int _ => cases q
 | str _ => cases q
end
noncomputable def zAD (n : Nat) (ds : List D) : Rho := ds.map .dat ++ List.replicate (n - ds.length) .no
noncomputable def fnD (n : Nat) (g : Rho -> Option Out) : List D -> Option D := fun ds => match g (zAD n ds) with
 | some (.rt d) => some d
 | some (.nx _) => some .none
 | _ => none
theorem zJf {K : PySem.W.Frag} {F : Addr -> Prop} {H : Hp} {N : List Str} {ds : List D} {vs : List V} (z : ∀ a, F a -> H a ≠ none) (r : Reps K F H ds vs) : StOk K F H H (L2.start N vs) (zAD N.length ds) := by
 have hl := r.length
 refine ⟨by simp [L2.start, zAD, hl], fun i s h => ?_, fun i j a es es' hij h1 => ?_, z⟩
 ·unfold zAD at h
  by_cases hi : i < ds.length
  ·rw [YG (by simpa using hi), QQ] at h
   cases e : ds[i]? with
   | none => rw [e] at h; cases h
   | some d =>
    rw [e] at h; cases h
    obtain ⟨v, e2, rv⟩ := r.get e
    refine ⟨some v, ?_, v, rfl, rv⟩
    unfold L2.start
    rw [YG (by simpa using (by lia : i < vs.length)), QQ, e2]
    rfl
  ·rw [YB (by simpa using hi), Y9] at h
   split at h
   ·rename_i hlt
    cases h
    refine ⟨none, ?_, trivial⟩
    unfold L2.start
    rw [YB (by simpa using (by lia : vs.length <= i)), Y9, if_pos (by simp at hlt ⊢; lia)]
   ·cases h
 ·unfold zAD at h1
  by_cases hi : i < ds.length
  ·rw [YG (by simpa using hi), QQ] at h1
   cases e : ds[i]? with
   | none => rw [e] at h1; cases h1
   | some d => rw [e] at h1; cases h1
  ·rw [YB (by simpa using hi), Y9] at h1
   split at h1 <;> cases h1
theorem fn_D {P : Program} {w : World} {K : PySem.W.Frag} {mg : Str -> Option Value} {base : Heap} {x qual : Str} {st : Stmt} {f : Addr} {fd : FuncData} {N ps : List Str} {k : Nat} {g : Rho -> Option Out} (F : Fun K x qual st f fd) (S : zAq N ps (zAh st))
  (hb : ∀ (cdv : Value) (A : Around) (outer : List Env) (s : Shared) (H : Hp) (E : XK), Room k (A.deeper (envOfC qual (zAh st) s.heap.objs.size f cdv)) ->
   DSs (cxOf CX0 P w K mg base N qual (zAh st) f cdv A outer s H E).nox (zA0 st) g) : FnOk P w K mg base CX0 (k + 1) f fd ps (spD K ps.length (fnD N.length g)) := by
 refine F.ok S (fun vs H Q E h => ?_) (fun cdv A outer s H vs Q E hr h => ?_)
 ·obtain ⟨F, ds, d, hl, _, r, _⟩ := h
  rw [<- r.length, hl]
 ·obtain ⟨F, ds, d, hl, z, r, q, kk⟩ := h
  refine ⟨_, hb cdv A outer s H E hr, ?_⟩
  unfold fnD at q
  split at q
  ·rename_i d' e
   cases q
   exact ⟨F, H, F, _, _, Ext.refl F H, zJf z r, e, fun F' H' v E' R' => kk F' H' v E' R'⟩
  ·rename_i ρ' e
   cases q
   exact ⟨F, H, F, _, _, Ext.refl F H, zJf z r, e, fun F' H' σ' E' T' S' => kk F' H' .non E' .non⟩
  ·cases q
end DL
namespace DL
open PySem PySem.Spec PySem.SeqAt PyProof.Rows L2
mutual
theorem Rep.reads {X : Cx} {pins : List (Addr × Obj)} {σ : L2.St} {H : Hp} {s : Shared} {F : Addr -> Prop} (I : L2.Inv X pins σ H s) : ∀ {d : D} {x : V} {u : Value}, Rep X.K F H d x -> d.canLay0 = true -> L2.RelV x u -> ∃ as, Reads s.heap u d as
 | _, _, _, .non, _, r => by cases r; exact ⟨_, .none⟩
 | _, _, _, .bl b, _, r => by cases r; exact ⟨_, .bool b⟩
 | _, _, _, .int i, _, r => by obtain ⟨t, rfl⟩ := r; exact ⟨_, .int i t⟩
 | _, _, _, .str x, _, r => by obtain ⟨t, rfl⟩ := r; exact ⟨_, .str x t⟩
 | _, _, _, .tup h q, c, r => by
  cases r
  obtain ⟨its, rv, ⟨o, ho, hc, n, hd⟩, _⟩ := I.tuple h
  obtain ⟨as, z⟩ := Reps.reads I q (by simpa [PyData.canLay0] using c) rv
  exact ⟨_, .tuple ho hc hd (by simpa using z)⟩
 | _, _, _, .lst h q, c, r => by
  cases r
  obtain ⟨its, rv, pl, _⟩ := I.list h.sq
  obtain ⟨o, n, ho, hc, _, hd⟩ := pl
  obtain ⟨as, z⟩ := Reps.reads I q (by simpa [PyData.canLay0] using c) rv
  exact ⟨_, .list ho hc hd (by simpa using z)⟩
 | _, _, _, .dct _ _ _ _ _, c, _ => by simp [PyData.canLay0] at c
 | _, _, _, .exn _ _ _, c, _ => by simp [excD, PyData.canLay0] at c
theorem Reps.reads {X : Cx} {pins : List (Addr × Obj)} {σ : L2.St} {H : Hp} {s : Shared} {F : Addr -> Prop} (I : L2.Inv X pins σ H s) : ∀ {ds : List D} {xs : List V} {us : List Value}, Reps X.K F H ds xs -> PyData.canLayAll0 ds = true -> L2.Vals xs us -> ∃ as, ReadsAll s.heap us ds as
 | _, _, _, .nil, _, r => by cases r; exact ⟨_, .nil⟩
 | _, _, _, .cons h q, c, r => by
  rw [PyData.canLayAll0, Qw] at c
  cases r with
  | cons r1 r2 =>
   obtain ⟨as, z⟩ := Rep.reads I h c.1 r1
   obtain ⟨bs, y⟩ := Reps.reads I q c.2 r2
   exact ⟨_, .cons z y⟩
end
noncomputable def dI0 (t : Int -> Int -> D) : D -> D -> Option D
 | .int i, .int j => some (t i j)
 | _, _ => none
noncomputable def dI2 (C : Int -> Int -> Bool) (t : Int -> Int -> D) : D -> D -> Option D
 | .int i, .int j => if C i j = true then some (t i j) else none
 | _, _ => none
noncomputable def zBJ (i j : Int) : Bool := (decide (-18446744073709551616 < i) && decide (i < 18446744073709551616)) || (decide (-18446744073709551616 < j) && decide (j < 18446744073709551616))
noncomputable def zCG (_ j : Int) : Bool := decide (0 < j) && decide (j < 1073741824)
noncomputable def zIn (_ j : Int) : Bool := decide (0 < j)
section
variable {X : Cx}
theorem opd0 {f : Value -> Value -> Sem Value} {g : Int -> Int -> V} {t : Int -> Int -> D} (h : OpR X f (rI0 g)) (r : ∀ i j K F H, Rep K F H (t i j) (g i j)) : OpR X f (rD2 X.K (dI0 t)) :=
 zDj h fun x y H Q zz => by
  obtain ⟨F, d, e, q, z, R1, R2, hq, k⟩ := zz
  unfold dI0 at hq
  split at hq
  ·cases hq
   cases R1
   cases R2
   exact ⟨_, _, rfl, rfl, k F H _ (Ext.refl F H) (r _ _ _ _ _)⟩
  ·cases hq
theorem opd2 {f : Value -> Value -> Sem Value} {C : Int -> Int -> Prop} {B : Int -> Int -> Bool} {g : Int -> Int -> V} {t : Int -> Int -> D} (h : OpR X f (rI C g)) (hB : ∀ i j, B i j = true -> C i j) (r : ∀ i j K F H, Rep K F H (t i j) (g i j)) : OpR X f (rD2 X.K (dI2 B t)) :=
 zDj h fun x y H Q zz => by
  obtain ⟨F, d, e, q, z, R1, R2, hq, k⟩ := zz
  unfold dI2 at hq
  split at hq
  ·rename_i i j
   by_cases hb : B i j = true
   ·rw [if_pos hb] at hq
    cases hq
    cases R1
    cases R2
    exact ⟨_, _, rfl, rfl, hB _ _ hb, k F H _ (Ext.refl F H) (r _ _ _ _ _)⟩
   ·rw [if_neg hb] at hq; cases hq
  ·cases hq
noncomputable def dSub : D -> D -> Option D := dI0 fun i j => .int (i - j)
noncomputable def dMul : D -> D -> Option D := dI2 zBJ fun i j => .int (i * j)
noncomputable def zBD : D -> D -> Option D := dI2 zCG fun i j => .int (i / j)
noncomputable def dMod : D -> D -> Option D := dI2 zIn fun i j => .int (i % j)
noncomputable def dLe : D -> D -> Option D := dI0 fun i j => .bool (decide (i <= j))
noncomputable def dGt : D -> D -> Option D := dI0 fun i j => .bool (decide (j < i))
theorem zIq : OpR X (binaryOp .Sub) (rD2 X.K dSub) := opd0 zMB fun _ _ _ _ _ => .int _
theorem zMC : OpR X (binaryOp .Mult) (rD2 X.K dMul) := opd2 zMA (fun i j h => by
 unfold zBJ at h
 simp only [JD, Qw, decide_eq_true_eq] at h
 unfold CMul
 lia) fun _ _ _ _ _ => .int _
theorem zDi : OpR X (binaryOp .FloorDiv) (rD2 X.K zBD) := opd2 zMx (fun i j h => by
 unfold zCG at h
 simp only [Qw, decide_eq_true_eq] at h
 exact h) fun _ _ _ _ _ => .int _
theorem zCe : OpR X (binaryOp .Mod) (rD2 X.K dMod) := opd2 zMz (fun i j h => by
 unfold zIn at h
 simpa using h) fun _ _ _ _ _ => .int _
theorem zD1 : OpR X (compareOp .LtE) (rD2 X.K dLe) := opd0 op_le fun _ _ _ _ _ => .bl _
theorem zIp : OpR X (compareOp .Gt) (rD2 X.K dGt) := opd0 op_gt fun _ _ _ _ _ => .bl _
noncomputable def dNeg : D -> Option D
 | .int i => some (.int (-i))
 | _ => none
theorem zGe : UnR X (unaryOp .USub) (rD1 X.K dNeg) := zOi zOh fun x H Q zz => by
 obtain ⟨F, d, q, z, R1, hq, k⟩ := zz
 unfold dNeg at hq
 split at hq
 ·cases hq
  cases R1
  exact ⟨_, rfl, k F H _ (Ext.refl F H) (.int _)⟩
 ·cases hq
noncomputable def dEq (d e : D) : Option D := if (shaped d && shaped e) = true then some (.bool (PyData.eqv d e)) else none
noncomputable def dNe (d e : D) : Option D := if (shaped d && shaped e) = true then some (.bool (!PyData.eqv d e)) else none
theorem zD0 (hu : X.A.units + 64 < cLine) : OpR X (compareOp .Eq) (rD2 X.K dEq) := fun pins s σ H x y v u Q I rx ry zz => by
 obtain ⟨F, d, e, q, z, R1, R2, hq, k⟩ := zz
 unfold dEq at hq
 by_cases c : (shaped d && shaped e) = true
 ·rw [if_pos c] at hq
  cases hq
  have c' := QH.mp c
  obtain ⟨as, a1⟩ := R1.reads I (QT c'.1) rx
  obtain ⟨bs, a2⟩ := R2.reads I (QT c'.2) ry
  exact eq_dataH a1 a2 c'.1 c'.2 hu ⟨.bl _, H, I, rfl, k F H _ (Ext.refl F H) (.bl _)⟩
 ·rw [if_neg c] at hq; cases hq
theorem zBe (hu : X.A.units + 64 < cLine) : OpR X (compareOp .NotEq) (rD2 X.K dNe) := fun pins s σ H x y v u Q I rx ry zz => by
 obtain ⟨F, d, e, q, z, R1, R2, hq, k⟩ := zz
 unfold dNe at hq
 by_cases c : (shaped d && shaped e) = true
 ·rw [if_pos c] at hq
  cases hq
  have c' := QH.mp c
  obtain ⟨as, a1⟩ := R1.reads I (QT c'.1) rx
  obtain ⟨bs, a2⟩ := R2.reads I (QT c'.2) ry
  exact ne_dataH a1 a2 c'.1 c'.2 hu ⟨.bl _, H, I, rfl, k F H _ (Ext.refl F H) (.bl _)⟩
 ·rw [if_neg c] at hq; cases hq
noncomputable def dIn (neg : Bool) (d : D) : D -> Option D
 | .list xs => if (shaped d && shaped (.list xs)) = true then some (.bool (if neg then !(xs.any fun y => PyData.eqv y d) else xs.any fun y => PyData.eqv y d)) else none
 | .tuple xs => if (shaped d && shaped (.tuple xs)) = true then some (.bool (if neg then !(xs.any fun y => PyData.eqv y d) else xs.any fun y => PyData.eqv y d)) else none
 | _ => none
theorem zCd (hu : X.A.units + 65 < cLine) : OpR X (compareOp .In) (rD2 X.K (dIn false)) := fun pins s σ H x y v u Q I rx ry zz => by
 obtain ⟨F, d, e, q, z, R1, R2, hq, k⟩ := zz
 unfold dIn at hq
 split at hq
 ·rename_i xs
  by_cases c : (shaped d && shaped (.list xs)) = true
  ·rw [if_pos c] at hq
   cases hq
   have c' := QH.mp c
   obtain ⟨as, a1⟩ := R1.reads I (QT c'.1) rx
   obtain ⟨bs, a2⟩ := R2.reads I (QT c'.2) ry
   exact in_list_reads a2 a1 (QT c'.2) (QT c'.1) (room_in_shaped c'.1 hu) ⟨.bl _, H, I, rfl, k F H _ (Ext.refl F H) (.bl _)⟩
  ·rw [if_neg c] at hq; cases hq
 ·rename_i xs
  by_cases c : (shaped d && shaped (.tuple xs)) = true
  ·rw [if_pos c] at hq
   cases hq
   have c' := QH.mp c
   obtain ⟨as, a1⟩ := R1.reads I (QT c'.1) rx
   obtain ⟨bs, a2⟩ := R2.reads I (QT c'.2) ry
   exact in_tuple_reads a2 a1 (QT c'.2) (QT c'.1) (room_in_shaped c'.1 hu) ⟨.bl _, H, I, rfl, k F H _ (Ext.refl F H) (.bl _)⟩
  ·rw [if_neg c] at hq; cases hq
 ·cases hq
theorem zCf (hu : X.A.units + 65 < cLine) : OpR X (compareOp .NotIn) (rD2 X.K (dIn true)) := fun pins s σ H x y v u Q I rx ry zz => by
 obtain ⟨F, d, e, q, z, R1, R2, hq, k⟩ := zz
 unfold dIn at hq
 split at hq
 ·rename_i xs
  by_cases c : (shaped d && shaped (.list xs)) = true
  ·rw [if_pos c] at hq
   cases hq
   have c' := QH.mp c
   obtain ⟨as, a1⟩ := R1.reads I (QT c'.1) rx
   obtain ⟨bs, a2⟩ := R2.reads I (QT c'.2) ry
   exact notIn_list_reads a2 a1 (QT c'.2) (QT c'.1) (room_in_shaped c'.1 hu) ⟨.bl _, H, I, rfl, k F H _ (Ext.refl F H) (.bl _)⟩
  ·rw [if_neg c] at hq; cases hq
 ·rename_i xs
  by_cases c : (shaped d && shaped (.tuple xs)) = true
  ·rw [if_pos c] at hq
   cases hq
   have c' := QH.mp c
   obtain ⟨as, a1⟩ := R1.reads I (QT c'.1) rx
   obtain ⟨bs, a2⟩ := R2.reads I (QT c'.2) ry
   exact notIn_tuple_reads a2 a1 (QT c'.2) (QT c'.1) (room_in_shaped c'.1 hu) ⟨.bl _, H, I, rfl, k F H _ (Ext.refl F H) (.bl _)⟩
  ·rw [if_neg c] at hq; cases hq
 ·cases hq
noncomputable def dIx : D -> D -> Option D
 | .tuple xs, .int i => atI xs i
 | .list xs, .int i => atI xs i
 | _, _ => none
theorem Reps.atI {K : PySem.W.Frag} {F : Addr -> Prop} {H : Hp} {ds : List D} {vs : List V} {i : Int} {d : D} (r : Reps K F H ds vs) (h : L2.atI ds i = some d) : ∃ v, L2.atI vs i = some v /\ Rep K F H d v := by
 unfold L2.atI at h ⊢
 rw [r.length] at h
 cases e : ixN vs.length i with
 | none => rw [e] at h; cases h
 | some j =>
  rw [e] at h
  obtain ⟨v, h1, h2⟩ := r.get (show ds[j]? = some d from h)
  exact ⟨v, h1, h2⟩
theorem ixd : IxR X (rD2 X.K dIx) := zLs (zLq.or zLr) fun x y H Q zz => by
 obtain ⟨F, d, e, q, z, R1, R2, hq, k⟩ := zz
 unfold dIx at hq
 split at hq
 ·rename_i xs i
  cases R1 with
  | @tup a vs _ h1 r1 =>
   cases R2
   obtain ⟨v, g1, g2⟩ := r1.atI hq
   exact .inr ⟨a, vs, i, v, rfl, rfl, h1, g1, k F H _ (Ext.refl F H) g2⟩
 ·rename_i xs i
  cases R1 with
  | @lst a vs _ h1 r1 =>
   cases R2
   obtain ⟨v, g1, g2⟩ := r1.atI hq
   exact .inl ⟨a, vs, i, v, rfl, rfl, h1.sq, g1, k F H _ (Ext.refl F H) g2⟩
 ·cases hq
noncomputable def dLen : List D -> Option D
 | [.list xs] => some (.int xs.length)
 | [.tuple xs] => some (.int xs.length)
 | _ => none
theorem zDB : zAR X (.builtin "len") (rDA X.K dLen) := zC2 zJW fun xs H Q zz => by
 obtain ⟨F, ds, q, z, R, hq, k⟩ := zz
 unfold dLen at hq
 split at hq
 ·cases hq
  cases R with
  | cons R1 R2 =>
   cases R2
   cases R1 with
   | @lst a vs _ h1 r1 => exact ⟨a, vs, rfl, .inl h1.sq, by rw [<- r1.length]; exact k F H _ (Ext.refl F H) (.int _)⟩
 ·cases hq
  cases R with
  | cons R1 R2 =>
   cases R2
   cases R1 with
   | @tup a vs _ h1 r1 => exact ⟨a, vs, rfl, .inr h1, by rw [<- r1.length]; exact k F H _ (Ext.refl F H) (.int _)⟩
 ·cases hq
noncomputable def dAbs : List D -> Option D
 | [.int i] => some (.int (if i < 0 then -i else i))
 | _ => none
theorem zGN : zAR X (.builtin "abs") (rDA X.K dAbs) := zC2 zJS fun xs H Q zz => by
 obtain ⟨F, ds, q, z, R, hq, k⟩ := zz
 unfold dAbs at hq
 split at hq
 ·cases hq
  cases R with
  | cons R1 R2 => cases R2; cases R1; exact ⟨_, rfl, k F H _ (Ext.refl F H) (.int _)⟩
 ·cases hq
noncomputable def zAE : List D -> Option (List Int)
 | [] => some []
 | .int i :: r => (zAE r).bind fun is => some (i :: is)
 | _ => none
theorem zDO {K : PySem.W.Frag} {F : Addr -> Prop} {H : Hp} : ∀ {ds : List D} {vs : List V} {is : List Int}, Reps K F H ds vs -> zAE ds = some is -> vs = is.map V.int := by
 intro ds
 induction ds with
 | nil => intro vs is r h; cases r; cases h; rfl
 | cons d ds ih =>
  intro vs is r h
  cases r with
  | cons r1 r2 =>
   cases d with
   | int i =>
    cases r1
    obtain ⟨js, e, h⟩ := bnd h
    cases h
    rw [ih r2 e]; rfl
   | _ => cases h
noncomputable def zCv : List D -> Option D
 | [.list xs] => some (.tuple xs)
 | [.tuple xs] => some (.tuple xs)
 | _ => none
theorem zDC : zAR X (.type "tuple") (rDA X.K zCv) := zC2 zJZ fun xs H Q zz => by
 obtain ⟨F, ds, q, z, R, hq, k⟩ := zz
 unfold zCv at hq
 split at hq
 ·cases hq
  cases R with
  | cons R1 R2 =>
   cases R2
   cases R1 with
   | @lst a vs _ h1 r1 => exact ⟨a, vs, rfl, .inl ⟨h1.sq, fun l hl => k F _ _ (Ext.fresh hl) (Rep.newTup hl r1)⟩⟩
 ·cases hq
  cases R with
  | cons R1 R2 =>
   cases R2
   cases R1 with
   | @tup a vs _ h1 r1 => exact ⟨a, vs, rfl, .inr ⟨h1, k F H _ (Ext.refl F H) (.tup h1 r1)⟩⟩
 ·cases hq
end
end DL
namespace CL
open PySem PySem.Spec PyProof.Rows L2
theorem zEz {env : Env} : ∀ (names : List (Str × NameKind)) (acc : List (Str × Addr)), (∀ x ∈ names, x.2 = .free -> ∃ c, env.cells.lookup x.1 = some c) ->
  (∀ x c, acc.lookup x = some c -> env.cells.lookup x = some c) ->
  ∃ cl, (forIn names acc (fun (x : Str × NameKind) (cs : List (Str × Addr)) => (do
    if x.2 == .free then
     let c <- cellOf env x.1
     pure (ForInStep.yield ((x.1, c) :: cs))
    else pure (ForInStep.yield cs) : Sem (ForInStep (List (Str × Addr))))) = (pure cl : Sem _)) /\ (∀ x c, cl.lookup x = some c -> env.cells.lookup x = some c) /\
   (∀ x, (x, NameKind.free) ∈ names -> ∃ c, cl.lookup x = some c) /\ (∀ x c, acc.lookup x = some c -> ∃ c', cl.lookup x = some c') /\ (∀ x c, cl.lookup x = some c -> (x, NameKind.free) ∈ names ∨ acc.lookup x = some c)
 | [], acc, _, h2 => ⟨acc, by rw [List.forIn_nil], h2, fun x h => by simp at h, fun x c h => ⟨c, h⟩, fun x c h => .inr h⟩
 | (n, k) :: r, acc, h1, h2 => by
  rw [List.forIn_cons]
  by_cases hk : k = .free
  ·subst hk
   obtain ⟨c, hc⟩ := h1 (n, .free) (Qf) rfl
   have hc' : env.cells.lookup n = some c := hc
   have h2' : ∀ x c', ((n, c) :: acc).lookup x = some c' -> env.cells.lookup x = some c' := fun x c' h => by
    rw [QN] at h
    cases e : x == n with
    | true => rw [e] at h; cases h; rw [QZ e]; exact hc'
    | false => rw [e] at h; exact h2 x c' h
   obtain ⟨cl, q, a1, a2, a3, a4⟩ := zEz r ((n, c) :: acc) (fun x hx => h1 x (Qd _ hx)) h2'
   refine ⟨cl, ?_, a1, fun x hx => ?_, fun x c' h => ?_, fun x c' h => ?_⟩
   ·have e1 : cellOf env n = pure c := by unfold cellOf; rw [hc']
    simp only [beq_self_eq_true, if_true, e1, pure_bind]
    exact q
   ·rcases Qh.mp hx with hx | hx
    ·cases hx
     exact a3 n c (by rw [QN, beq_self_eq_true])
    ·exact a2 x hx
   ·cases e : x == n with
    | true => rw [QZ e]; exact a3 n c (by rw [QN, beq_self_eq_true])
    | false => exact a3 x c' (by rw [QN, e]; exact h)
   ·rcases a4 x c' h with h | h
    ·exact .inl (Qd _ h)
    ·rw [QN] at h
     cases e : x == n with
     | true => rw [QZ e]; exact .inl Qf
     | false => rw [e] at h; exact .inr h
  ·obtain ⟨cl, q, a1, a2, a3, a4⟩ := zEz r acc (fun x hx => h1 x (Qd _ hx)) h2
   refine ⟨cl, ?_, a1, fun x hx => ?_, a3, fun x c h => (a4 x c h).imp (Qd _) id⟩
   ·have e : (k == NameKind.free) = false := by simpa using hk
    simp only [e, Qp, if_false, pure_bind]
    exact q
   ·rcases Qh.mp hx with hx | hx
    ·cases hx; exact absurd rfl hk
    ·exact a2 x hx
theorem clos {env : Env} {scope : Scope} (h : ∀ x ∈ scope.names, x.2 = .free -> ∃ c, env.cells.lookup x.1 = some c) :
  ∃ cl, closureFor scope env = pure cl /\ (∀ x c, cl.lookup x = some c -> env.cells.lookup x = some c) /\ (∀ x, (x, NameKind.free) ∈ scope.names -> ∃ c, cl.lookup x = some c) /\ (∀ x c, cl.lookup x = some c -> (x, NameKind.free) ∈ scope.names) := by
 obtain ⟨cl, q, a1, a2, _, a4⟩ := zEz (env := env) scope.names [] h (fun x c h => by simp at h)
 refine ⟨cl, ?_, a1, a2, fun x c h => (a4 x c h).elim id fun z => by simp at z⟩
 simp only [closureFor]
 first
  | exact q
  | (rw [<- q]; congr 1; funext x cs; obtain ⟨n, k⟩ := x; rfl)
  | simpa using q
noncomputable def inCx (X : Cx) (N' : List Str) (scope : Scope) (cl : List (Str × Addr)) (C : Addr) (fp : List Addr) (s : Shared) (H : Hp) : Cx :=
 { X with N := N', s₀ := s, H₀ := H, env := compEnvC scope cl C X.env, outer := X.stack, ex := fp, fn := fun x => scope.names.lookup x == some .local, pn := [], xe := fun _ _ => False }
structure zBB (X : Cx) (N' : List Str) (scope : Scope) (inner : List (Option Nat)) : Prop where
 kind : scope.kind = .function
 nocell : ∀ x ∈ scope.names, x.2 ≠ .cell
 loc : ∀ x ∈ scope.names, x.2 = .local -> scope.names.lookup x.1 = some .local
 free : ∀ x ∈ scope.names, x.2 = .free -> scope.names.lookup x.1 = some .free /\ (X.env.scope.names.lookup x.1 = some .cell ∨ X.env.scope.names.lookup x.1 = some .free)
 len : inner.length = N'.length
 out : ∀ (i j : Nat), inner[i]? = some (some j) -> ∃ x, N'[i]? = some x /\ X.N[j]? = some x /\ scope.names.lookup x = some .free
noncomputable def inSt (inner : List (Option Nat)) (σ : L2.St) : L2.St := inner.map fun o => o.bind fun j => (σ[j]?).bind id
theorem zF1 {env : Env} : ∀ {names : List (Str × NameKind)} {x : Str}, names.lookup x = some .free ->
  (names.map fun (n, k) => if (k == NameKind.free && env.scope.kind == .function && env.kindOf n == some .cell) then (n, NameKind.cell) else (n, k)).lookup x = some .free ∨
  (names.map fun (n, k) => if (k == NameKind.free && env.scope.kind == .function && env.kindOf n == some .cell) then (n, NameKind.cell) else (n, k)).lookup x = some .cell
 | [], _, h => by simp at h
 | (n, k) :: r, x, h => by
  have ih := @zF1 env r x
  rw [Ql]
  show List.lookup x ((if (k == NameKind.free && env.scope.kind == .function && env.kindOf n == some .cell) = true then (n, NameKind.cell) else (n, k)) :: _) = _ ∨ List.lookup x ((if (k == NameKind.free && env.scope.kind == .function && env.kindOf n == some .cell) = true then (n, NameKind.cell) else (n, k)) :: _) = _
  cases hx : x == n with
  | true =>
   simp only [QN, hx] at h
   cases h
   by_cases hc : (NameKind.free == NameKind.free && env.scope.kind == .function && env.kindOf n == some .cell) = true
   ·rw [if_pos hc]; right; simp [QN, hx]
   ·rw [if_neg hc]; left; simp [QN, hx]
  | false =>
   simp only [QN, hx] at h
   by_cases hc : (k == NameKind.free && env.scope.kind == .function && env.kindOf n == some .cell) = true
   ·rw [if_pos hc]; simp only [QN, hx]; exact ih h
   ·rw [if_neg hc]; simp only [QN, hx]; exact ih h
theorem zFZ {env : Env} : ∀ {names : List (Str × NameKind)} {x : Str} {q : NameKind}, (∀ y ∈ names, y.2 ≠ .cell) -> (q = .cell ∨ q = .free) ->
  (names.map fun (n, k) => if (k == NameKind.free && env.scope.kind == .function && env.kindOf n == some .cell) then (n, NameKind.cell) else (n, k)).lookup x = some q -> (x, NameKind.free) ∈ names
 | [], _, _, _, _, h => by simp at h
 | (n, k) :: r, x, q, hn, hq, h => by
  have ih := @zFZ env r x q (fun y hy => hn y (Qd _ hy)) hq
  rw [Ql] at h
  have h' : List.lookup x ((if (k == NameKind.free && env.scope.kind == .function && env.kindOf n == some .cell) = true then (n, NameKind.cell) else (n, k)) :: _) = some q := h
  cases hx : x == n with
  | true =>
   have e : x = n := QZ hx
   by_cases hc : (k == NameKind.free && env.scope.kind == .function && env.kindOf n == some .cell) = true
   ·have : k = .free := by
     have := hc
     simp only [Qw, beq_iff_eq] at this
     exact this.1.1
    rw [e, this]; exact Qf
   ·rw [if_neg hc] at h'
    simp only [QN, hx] at h'
    have kq : k = q := QJ h'
    rcases hq with z | z
    ·exact absurd (kq.trans z) (hn (n, k) Qf)
    ·rw [e, <- z, <- kq]; exact Qf
  | false =>
   by_cases hc : (k == NameKind.free && env.scope.kind == .function && env.kindOf n == some .cell) = true
   ·rw [if_pos hc] at h'; simp only [QN, hx] at h'; exact Qd _ (ih h')
   ·rw [if_neg hc] at h'; simp only [QN, hx] at h'; exact Qd _ (ih h')
section
variable {X : Cx} {N' : List Str} {scope : Scope} {inner : List (Option Nat)} {cl : List (Str × Addr)} {C : Addr} {fp : List Addr} {s s4 : Shared} {H : Hp} {σ : L2.St} {pins : List (Addr × Obj)}
theorem zLe (CS : zBB X N' scope inner) (I : Inv X pins σ H s) (hf : ∀ b ∈ fp, FpOk X pins H b) (c1 : ∀ x c, cl.lookup x = some c -> X.env.cells.lookup x = some c) (c2 : ∀ x, (x, NameKind.free) ∈ scope.names -> ∃ c, cl.lookup x = some c) (c3 : ∀ x c, cl.lookup x = some c -> (x, NameKind.free) ∈ scope.names)
  (hfl : ∀ b ∈ fp, b < s.heap.objs.size) (hC : C = s.heap.objs.size) {h' : Heap} {tk : Nat} (hk : ∀ b o, s.heap.get? b = some o -> h'.get? b = some o) (hns : h'.Ns C fun _ => none) (hs4 : s4 = { s with heap := h', toks := tk }) :
  Inv (inCx X N' scope cl C fp s H) [] (inSt inner σ) H s4 := by
 subst hs4
 have old : ∀ b o, s.heap.get? b = some o -> b ≠ C := fun b o e => by rw [hC]; exact Qq (Qk e)
 have cC : ∀ x c, cl.lookup x = some c -> c ≠ C := fun x c e => by
  obtain ⟨v, o, q, _⟩ := I.cell x c (c1 x c e)
  exact old c o q
 refine ⟨⟨I.ok.mod, CS.kind, I.ok.glob, I.ok.blt, ?_, fun x y c h1 h2 => I.ok.inj x y c (c1 x c h1) (c1 y c h2), fun x hx => ?_, fun x c hx h => ?_, I.ok.hd, I.ok.frames, .inl rfl, fun b hb => ⟨?_, fun x c e z => (hf b hb).2.2.2.2.1 x c (c1 x c e) z⟩, I.bs, Qt I.ok.bsz I.sz, fun b o e hb => ?_, fun b hb => ?_, I.stack, I.stkFree⟩,
  rfl, I.bare, Un.kept hk, ⟨_, hns, fun i x v e1 e2 e3 => ?_⟩, fun x c e => ?_, ?_, fun x c e => I.freeC x c (c1 x c e), fun p hp => absurd (show p ∈ ([] : List (Addr × Obj)) from hp) (by simp), I.hok.kept hk, ?_⟩
 ·show s.heap.objs.size <= C
  rw [hC]; exact Qj _
 ·have hx' : (relabel scope X.env).names.lookup x = some .cell ∨ (relabel scope X.env).names.lookup x = some .free := hx
  rcases hx' with hx' | hx'
  ·exact c2 x (zFZ CS.nocell (.inl rfl) hx')
  ·exact c2 x (zFZ CS.nocell (.inr rfl) hx')
 ·have hx' : (scope.names.lookup x == some NameKind.local) = true := hx
  have e1 : scope.names.lookup x = some .local := QZ hx'
  have e2 := (CS.free _ (c3 x c h) rfl).1
  rw [e1] at e2; cases e2
 ·show b ≠ C
  rw [hC]; exact Qq (hfl b hb)
 ·rcases (hf b hb).2.2.2.1 with z | z
  ·exact I.ok.noex b o e z
  ·exact absurd (QD (Qk e) (Qt I.ok.bsz z)) (YV _)
 ·intro z
  rcases Qh.mp (I.stkSub b z) with q | q
  ·exact (hf b hb).2.1 q
  ·exact (hf b hb).2.2.1 q
 ·-- a name of the block: one that is free, read through its cell
  unfold inSt at e2
  rw [QQ] at e2
  cases ei : inner[i]? with
  | none => rw [ei] at e2; cases e2
  | some o =>
   rw [ei] at e2
   cases o with
   | none => cases e2
   | some j =>
    have e2' : (σ[j]?).bind id = some v := by simpa using e2
    have e4 : σ[j]? = some (some v) := by
     cases ej : σ[j]? with
     | none => rw [ej] at e2'; cases e2'
     | some w' => rw [ej] at e2'; exact congrArg some e2'
    obtain ⟨x', g1, g2, g3⟩ := CS.out i j ei
    have e1' : N'[i]? = some x := e1
    rw [e1'] at g1; cases g1
    have mem : (x, NameKind.free) ∈ scope.names := PySem.mem_of_lookup g3
    have outer := (CS.free _ mem rfl).2
    obtain ⟨m, hm, hl⟩ := I.loc
    have vis : Vis X.env.scope x := outer.elim (fun z => .inr (.inl z)) fun z => .inr (.inr z)
    obtain ⟨u, ru, lk⟩ := hl j x v g2 e4 vis
    refine ⟨u, ru, ?_⟩
    obtain ⟨c, hc⟩ := c2 x mem
    rcases lk with ⟨k1, _⟩ | ⟨_, c', k2, k3⟩
    ·have k1' : X.env.scope.names.lookup x = some .local := k1
     rcases outer with z | z <;> (rw [k1'] at z; cases z)
    ·have e5 := c1 x c hc
     rw [k2] at e5; cases e5
     refine .inr ⟨?_, c, hc, (let ⟨o, q1, q2⟩ := k3; ⟨o, hk _ o q1, q2⟩)⟩
     have := zF1 (env := X.env) g3
     exact this.elim .inr .inl
 ·obtain ⟨v, q⟩ := I.cell x c (c1 x c e)
  exact ⟨v, (let ⟨o, q1, q2⟩ := q; ⟨o, hk _ o q1, q2⟩)⟩
 ·show H C = none
  exact I.hok.fresh (by rw [hC]; exact Qj _)
 ·show (inSt inner σ).length = N'.length
  unfold inSt
  rw [Qg]; exact CS.len
theorem zLc (I : Inv X pins σ H s) (hf : ∀ b ∈ fp, FpOk X pins H b) (hC : C = s.heap.objs.size) {σ' : L2.St} {H' : Hp} {s5 : Shared} (J : Inv (inCx X N' scope cl C fp s H) [] σ' H' s5) {h' : Heap} (sb : Heap.SameBut C s5.heap h') :
  Inv X pins σ H' { s5 with heap := h' } := by
 have old : ∀ b o, s.heap.get? b = some o -> b ≠ C := fun b o e => by rw [hC]; exact Qq (Qk e)
 have U : Un (frs X.stack) fp H H' s.heap s5.heap := J.base
 have nC : H' C = none := J.free
 refine I.call' (ch := fp) J.os ⟨fun b o e n hb hx => ?_, fun b o e n hb hx => ?_, U.free, fun b o e hx => ?_, U.tups, U.frzs, U.tbls⟩ (fun b u e => ?_) J.bare fun b hb => ?_
 ·rw [sb.2 b (old b o e)]; exact U.keep b o e n hb hx
 ·obtain ⟨sl, q⟩ := U.slot b o e n hb hx
  exact ⟨sl, by rw [sb.2 b (old b o e)]; exact q⟩
 ·obtain ⟨o', q⟩ := U.there b o e hx
  exact ⟨o', by rw [sb.2 b (old b o e)]; exact q⟩
 ·have nt : ∀ c v, H' c = some v -> c ≠ C := fun c v q z => by rw [z, nC] at q; cases q
  refine (J.hok b u e).stay (fun c v hc q => ?_) (fun _ q => q) fun _ _ q => q
  rw [sb.2 c ?_]
  ·exact q
  ·rcases hc with z | z
   ·rw [z]; exact nt b u e
   ·exact nt c _ z
 ·exact ⟨(hf b hb).2.2.2.1, (hf b hb).2.1, (hf b hb).2.2.2.2.1, (hf b hb).2.2.2.2.2⟩
end
noncomputable def PTs (X : Cx) (ifs : List Expr) (t : TT) : Prop :=
 ∀ (pins : List (Addr × Obj)) (s : Shared) (σ : L2.St) (H : Hp) (Q : Bool -> Hp -> Prop), Inv X pins σ H s -> t σ H Q ->
  wpAny (model X.prog X.w) X.A (forIn ifs true fun c r => if r = true then do let ok <- isTrue c X.env (eval c X.env); pure (ForInStep.yield ok) else pure (ForInStep.yield r)) (TP X pins σ Q) X.xe s
theorem zNn {X : Cx} {c : Expr} {t : TT} (h : PT X c t) : PTs X [c] t := fun pins s σ H Q I q => wpAny_tests_one (h pins s σ H Q I q)
noncomputable def zEn (wi : TI) (g : TG) (ti : TT) (te : TE) (inner : List (Option Nat)) : TE := fun σ H Q => wi σ H fun J H1 => ∀ D, H1 D = none -> ∃ W : Nat -> Nat -> L2.St -> Hp -> Prop, (∃ m, W 0 m (inSt inner σ) (upd H1 D (.lst []))) /\ ∀ i m σ' H', W i m σ' H' ->
 (J.stop i H' /\ Q (.ref D) H') ∨ (J.go i H' /\ ∀ x H2, J.yld i H' x H2 -> g x σ' H2 fun σ3 H3 => ti σ3 H3 fun b H4 => if b = true then te σ3 H4 fun y H5 => ∃ ys, H5 D = some (.lst ys) /\ ys.length < sizeLine /\ ∃ m', m' < m /\ W (i + 1) m' σ3 (upd H5 D (.lst (ys ++ [y]))) else ∃ m', m' < m /\ W (i + 1) m' σ3 H4)
section
variable {X : Cx} {elt tg iter : Expr} {ifs : List Expr} {scope : Scope} {pos : Pos} {N' : List Str} {inner : List (Option Nat)} {wi : TI} {g : TG} {ti : TT} {te : TE}
theorem zGS {Y : Cx} {D it : Addr} {fp : List Addr} {tn : Nat -> Heap -> Prop} {J : It} {W : Nat -> Nat -> L2.St -> Hp -> Prop} {Qn : Hp -> Prop} {RR : Result -> Shared -> Prop} {σ0 : L2.St} {H0 : Hp} {s4 : Shared} {m0 : Nat}
  (hc : Y.calm = true) (hxe : ∀ v s, ¬ Y.xe v s) (hg : PG Y tg g) (ht : PTs Y ifs ti) (he : PE Y elt te) (T : Turn Y.prog Y.w Y.K tg J fp it tn) (fx : ∀ {H'' : Hp}, (∀ b ∈ fp, H'' b = none) -> ∀ b ∈ fp, FpOk Y [] H'' b)
  (I4 : Inv Y [] σ0 H0 s4) (t4 : tn 0 s4.heap) (fr4 : ∀ b ∈ fp, H0 b = none) (w0 : W 0 m0 σ0 H0)
  (step : ∀ i m σ' H', W i m σ' H' -> (J.stop i H' /\ Qn H') ∨ (J.go i H' /\ ∀ x H3, J.yld i H' x H3 -> g x σ' H3 fun σ3 H3 => ti σ3 H3 fun b H4 => if b = true then te σ3 H4 fun y H5 => ∃ ys, H5 D = some (.lst ys) /\ ys.length < sizeLine /\ ∃ m', m' < m /\ W (i + 1) m' σ3 (upd H5 D (.lst (ys ++ [y]))) else ∃ m', m' < m /\ W (i + 1) m' σ3 H4))
  (fin : ∀ σ' H' s5, Inv Y [] σ' H' s5 -> Qn H' -> RR (.ok .next) s5) :
  codeAny (model Y.prog Y.w) Y.A (.compLoop (.ListComp elt [⟨tg, iter, ifs, 0⟩] scope pos) 0 (.ref it) (.ref D) Y.env) RR s4 := by
 refine codeAny_loop rfl (fun m s' => ∃ i σ' H', Inv Y [] σ' H' s' /\ tn i s'.heap /\ (∀ b ∈ fp, H' b = none) /\ W i m σ' H') (fun m s' hI => ?_) m0 ⟨0, _, _, I4, t4, fr4, w0⟩
 obtain ⟨i, σ', H', I', t', fr', w'⟩ := hI
 show wpAny _ Y.A ((compTurn (.ListComp elt [⟨tg, iter, ifs, 0⟩] scope pos) 0 (.ref it) (.ref D) Y.env).onRaise (fun x => do noteFrame x Y.env; theTreesLotGoes x)) _ _ s'
 refine wpAny_noted ?_
 rw [compTurn_list]
 refine Qa (wpAny_standAt (Qa ?_))
 rcases step i m σ' H' w' with ⟨stop, qn⟩ | ⟨go, nxt⟩
 ·refine YO (T.done Y rfl rfl rfl hc i [] s' σ' H' (fun _ _ => False) I' (fx fr') t' stop) (fun r s5 hr => ?_) fun _ _ z => z.elim
  obtain ⟨hr, I5⟩ := hr
  subst hr
  exact Qb (fin σ' H' s5 I5 qn)
 ·refine YO (T.item Y rfl rfl rfl hc i [] s' σ' H' (fun _ _ => False) I' (fx fr') t' go) (fun r s5 hr => ?_) fun _ _ z => z.elim
  obtain ⟨u, hr, h5⟩ := hr
  subst hr
  refine Qa (YO h5 (fun _ s6 h6 => ?_) fun _ _ z => z.elim)
  obtain ⟨x, H6, I6, r6, y6, t6, fr6⟩ := h6
  have I6' := I6.pinned (fx fr6) (T.obj _ _ t6)
  have back : ∀ {m' : Nat} {σ7 : L2.St} {H7 : Hp} {s7 : Shared}, Inv Y ([] ++ zDm fp s6.heap) σ7 H7 s7 -> m' < m -> W (i + 1) m' σ7 H7 ->
    ∃ m', m' < m /\ ∃ i σ' H', Inv Y [] σ' H' s7 /\ tn i s7.heap /\ (∀ b ∈ fp, H' b = none) /\ W i m' σ' H' := fun {m' σ7 H7 s7} I7 lt w7 => by
   refine ⟨m', lt, i + 1, σ7, H7, I7.unpinned, T.keep _ _ _ t6 fun b hb o e => (I7.pin (b, o) (Qy _ (Qy _ (zDZ hb e)))).1, fun b hb => ?_, w7⟩
   obtain ⟨o, e, _⟩ := T.obj _ _ t6 b hb
   exact (I7.pin (b, o) (Qy _ (Qy _ (zDZ hb e)))).2.1
  refine Qa (YO (hg _ s6 σ' H6 x u _ I6' r6 (nxt x H6 y6)) (fun _ s7 h7 => ?_) fun _ _ z => absurd z (hxe _ _))
  obtain ⟨σ7, H7, I7, q7⟩ := h7
  refine Qa (YO (ht _ s7 σ7 H7 _ I7 q7) (fun ok s8 h8 => ?_) fun _ _ z => absurd z (hxe _ _))
  obtain ⟨H8, I8, q8⟩ := h8
  cases ok with
  | false =>
   simp only [Qp, if_false] at q8 ⊢
   obtain ⟨m', lt, w8⟩ := q8
   exact Qb ⟨rfl, back I8 lt w8⟩
  | true =>
   simp only [if_true] at q8 ⊢
   refine Qa (Qa (YO (he _ s8 σ7 H8 _ I8 q8) (fun y s9 h9 => ?_) fun _ _ z => absurd z (hxe _ _)))
   obtain ⟨yv, H9, I9, r9, ys, d9, l9, m', lt, w9⟩ := h9
   refine Qa (YO (zFF (X := Y) _ s9 σ7 H9 (.ref D) [yv] _ [y] (fun v H' => H' = upd H9 D (.lst (ys ++ [yv]))) I9 rfl (.cons r9 .nil) ⟨_, ys, yv, rfl, rfl, d9, l9, rfl⟩) (fun _ s10 h10 => ?_) fun _ _ z => absurd z (hxe _ _))
   obtain ⟨_, H10, I10, _, e10⟩ := h10
   subst e10
   exact Qb (Qb ⟨rfl, back I10 lt w9⟩)
theorem zC3 (hc : X.calm = true) (CS : zBB X N' scope inner) (hg : ∀ cl C fp s H, PG (inCx X N' scope cl C fp s H) tg g) (ht : ∀ cl C fp s H, PTs (inCx X N' scope cl C fp s H) ifs ti) (he : ∀ cl C fp s H, PE (inCx X N' scope cl C fp s H) elt te)
  {pins : List (Addr × Obj)} {σ : L2.St} {s2 : Shared} {H2 : Hp} {it : Addr} {fp : List Addr} {tn : Nat -> Heap -> Prop} {J : It} {cl : List (Str × Addr)} {Q : VK} {RR : Value -> Addr -> Result -> Shared -> Prop}
  (c1 : ∀ x c, cl.lookup x = some c -> X.env.cells.lookup x = some c) (c2 : ∀ x, (x, NameKind.free) ∈ scope.names -> ∃ c, cl.lookup x = some c) (c3 : ∀ x c, cl.lookup x = some c -> (x, NameKind.free) ∈ scope.names)
  (I2 : Inv X pins σ H2 s2) (T : Turn X.prog X.w X.K tg J fp it tn) (t0 : tn 0 s2.heap) (f2 : ∀ b ∈ fp, FpOk X pins H2 b)
  (q : ∀ D, H2 D = none -> ∃ W : Nat -> Nat -> L2.St -> Hp -> Prop, (∃ m, W 0 m (inSt inner σ) (upd H2 D (.lst []))) /\ ∀ i m σ' H', W i m σ' H' ->
   (J.stop i H' /\ Q (.ref D) H') ∨ (J.go i H' /\ ∀ x H3, J.yld i H' x H3 -> g x σ' H3 fun σ3 H3 => ti σ3 H3 fun b H4 => if b = true then te σ3 H4 fun y H5 => ∃ ys, H5 D = some (.lst ys) /\ ys.length < sizeLine /\ ∃ m', m' < m /\ W (i + 1) m' σ3 (upd H5 D (.lst (ys ++ [y]))) else ∃ m', m' < m /\ W (i + 1) m' σ3 H4))
  (fin : ∀ (D C : Addr) (H' : Hp) (s5 : Shared) (m : Str -> Option Value), s5.heap.Ns C m -> Q (.ref D) H' -> (∀ h', Heap.SameBut C s5.heap h' -> Inv X pins σ H' { s5 with heap := h' }) -> (H' C = none /\ C ≠ X.env.locals /\ X.s₀.heap.objs.size <= C /\ (∀ x c, X.env.cells.lookup x = some c -> c ≠ C) /\ ∀ p ∈ X.pn ++ pins, p.1 ≠ C) -> RR (.ref D) C (.ok .next) s5) :
  wpAny (model X.prog X.w) X.A (newList []) (fun acc s₃ => wpAny (model X.prog X.w) X.A (newFunctionEnv scope X.env.globals cl [] X.env.qual none .none (some X.env)) (fun cenv s₄ =>
   codeAny (model X.prog X.w) X.A (.compStart (.ListComp elt [⟨tg, iter, ifs, 0⟩] scope pos) 0 (.ref it) acc { cenv with scope := relabel scope X.env }) (RR acc cenv.locals) s₄) X.xe s₃) X.xe s2 := by
 refine wpAny_newList ?_
 have hD : H2 s2.heap.objs.size = none := I2.hok.fresh (Qj _)
 generalize hs3 : ({ s2 with heap := s2.heap.push { cls := .type "list", data := .seq ([] : List Value).toArray } } : Shared) = s3
 have k23 : ∀ b o, s2.heap.get? b = some o -> s3.heap.get? b = some o := fun b o e => by rw [<- hs3]; exact Qc _ e
 have sz3 : s3.heap.objs.size = s2.heap.objs.size + 1 := by rw [<- hs3]; exact Ym _ _
 have I3 : Inv X pins σ (upd H2 s2.heap.objs.size (.lst [])) s3 := by
  rw [<- hs3]
  exact I2.laid (t' := s2.toks) (o := .lst []) (fun b o e => Qc _ e) (Qj _) ⟨QY _, [], 0, .nil, Qx _ rfl⟩
 have ffl : ∀ b ∈ fp, b < s2.heap.objs.size := fun b hb => by
  obtain ⟨o, e, _⟩ := T.obj 0 _ t0 b hb
  exact Qk e
 have f3 : ∀ b ∈ fp, FpOk X pins (upd H2 s2.heap.objs.size (.lst [])) b := fun b hb => by
  obtain ⟨g0, g1⟩ := f2 b hb
  exact ⟨by rw [zAg (Qq (ffl b hb))]; exact g0, g1⟩
 have t3 : tn 0 s3.heap := T.keep _ _ _ t0 fun b _ o e => k23 b o e
 obtain ⟨W, ⟨m0, w0⟩, step⟩ := q _ hD
 refine wpAny_newFunctionEnv (fun x hx => CS.nocell x hx) (by intro y hy; simp at hy) (fun h₁ hns₁ hsb₁ => ?_) CS.kind
 try dsimp only at hns₁ hsb₁ ⊢
 have k34 : ∀ b o, s3.heap.get? b = some o -> h₁.get? b = some o := fun b o e => hsb₁.extBut b o (Qq (Qk e)) (Qc _ e)
 have hns : h₁.Ns s3.heap.objs.size fun _ => none := by
  have : (fun x => ([] : List (Str × Value)).reverse.lookup x) = (fun _ => none : Str -> Option Value) := by funext x; rfl
  rw [this] at hns₁; exact hns₁
 generalize hs4 : ({ s3 with heap := h₁, toks := s3.toks + ([] : List (Str × Value)).length } : Shared) = s4
 have I4 : Inv (inCx X N' scope cl s3.heap.objs.size fp s3 (upd H2 s2.heap.objs.size (.lst []))) [] (inSt inner σ) (upd H2 s2.heap.objs.size (.lst [])) s4 :=
  zLe CS I3 f3 c1 c2 c3 (fun b hb => by rw [sz3]; exact YC (ffl b hb)) rfl k34 hns hs4.symm
 have t4 : tn 0 s4.heap := by rw [<- hs4]; exact T.keep _ _ _ t3 fun b _ o e => k34 b o e
 have CL : s3.heap.objs.size ≠ X.env.locals := YK I3.lt
 have CC : ∀ x c, X.env.cells.lookup x = some c -> c ≠ s3.heap.objs.size := fun x c e => by
  obtain ⟨v, o, z, _⟩ := I3.cell x c e
  exact Qq (Qk z)
 show codeAny (model X.prog X.w) X.A (.compStart (.ListComp elt [⟨tg, iter, ifs, 0⟩] scope pos) 0 (.ref it) (.ref s2.heap.objs.size) (compEnvC scope cl s3.heap.objs.size X.env)) (RR (.ref s2.heap.objs.size) s3.heap.objs.size) s4
 have loop : codeAny (model X.prog X.w) X.A (.compLoop (.ListComp elt [⟨tg, iter, ifs, 0⟩] scope pos) 0 (.ref it) (.ref s2.heap.objs.size) (compEnvC scope cl s3.heap.objs.size X.env)) (RR (.ref s2.heap.objs.size) s3.heap.objs.size) s4 := by
  have fx : ∀ {H'' : Hp}, (∀ b ∈ fp, H'' b = none) -> ∀ b ∈ fp, FpOk (inCx X N' scope cl s3.heap.objs.size fp s3 (upd H2 s2.heap.objs.size (.lst []))) [] H'' b := fun {H''} z b hb =>
   ⟨z b hb, (I4.ok.exf b hb).1, I4.ok.exfs b hb, .inl hb, fun x c e => (I4.ok.exf b hb).2 x c e, fun p hp => absurd (show p ∈ ([] : List (Addr × Obj)) from hp) (by simp)⟩
  refine zGS (Y := inCx X N' scope cl s3.heap.objs.size fp s3 (upd H2 s2.heap.objs.size (.lst []))) hc (fun _ _ z => z) (hg _ _ _ _ _) (ht _ _ _ _ _) (he _ _ _ _ _) T fx I4 t4 (fun b hb => (f3 b hb).1) w0 step fun σ' H' s5 I5 qn => ?_
  obtain ⟨m5, hm5, _⟩ := id I5.loc
  exact fin _ _ H' s5 m5 hm5 qn (fun h' sb => zLc I3 f3 rfl I5 sb) ⟨I5.free, CL, I3.sz, CC, fun p hp => Qq (Qk (I3.pin p hp).1)⟩
 exact codeAny_compStart_list loop (T.self X.A 0 s4 _ _ t4 loop)
theorem zMO (hc : X.calm = true) (CS : zBB X N' scope inner) (hi : PI X tg iter wi) (hg : ∀ cl C fp s H, PG (inCx X N' scope cl C fp s H) tg g) (ht : ∀ cl C fp s H, PTs (inCx X N' scope cl C fp s H) ifs ti) (he : ∀ cl C fp s H, PE (inCx X N' scope cl C fp s H) elt te)
  (hs : ∀ x, foldedSetIterable iter X.env x = pure x := by intro _; rfl) : PE X (.ListComp elt [⟨tg, iter, ifs, 0⟩] scope pos) (zEn wi g ti te inner) := by
 intro pins s σ H Q I h
 obtain ⟨cl, hcl, c1, c2, c3⟩ := clos (env := X.env) (scope := scope) fun x hx hk => I.ok.has x.1 (CS.free x hx hk).2
 rw [eval_ListComp]
 refine wpAny_comprehension_free (use := none) rfl hs hcl CS.kind CS.loc (thn (hi pins s σ H _ I h) fun xv s1 h1 => thn h1 fun itv s2 h2 => ?_)
 obtain ⟨it, fp, tn, J, H2, rfl, I2, T, t0, f2, q⟩ := h2
 refine zC3 (RR := fun acc C => compPost (model X.prog X.w) X.A X.xe none (EP X pins σ Q) acc C) hc CS hg ht he c1 c2 c3 I2 T t0 f2 q ?_
 intro D C H' s5 m hm hq hI _
 exact ⟨m, hm, fun h' sb => ⟨.ref D, H', hI h' sb, rfl, hq⟩⟩
theorem zIF {i : Nat} {y : Str} {py spos : Pos} (hN : X.N.Nodup) (hc : X.calm = true) (CS : zBB X N' scope inner) (hi : PI X tg iter wi) (hg : ∀ cl C fp s H, PG (inCx X N' scope cl C fp s H) tg g) (ht : ∀ cl C fp s H, PTs (inCx X N' scope cl C fp s H) ifs ti) (he : ∀ cl C fp s H, PE (inCx X N' scope cl C fp s H) elt te)
  (hsw : swapsWith (.ListComp elt [⟨tg, iter, ifs, 0⟩] scope pos) (some (.Name y py)) spos.line X.env = pure true := by rfl) (hy : X.N[i]? = some y := by rfl) (hx : Loc X.env.scope y := by first | exact Or.inl rfl | exact Or.inr rfl) (hf : X.fn y = true ∨ X.env.scope.names.lookup y = some .local := by first | exact .inl rfl | exact .inr rfl | assumption)
  (hs : ∀ x, foldedSetIterable iter X.env x = pure x := by intro _; rfl) : PS X (.Assign [.Name y py] (.ListComp elt [⟨tg, iter, ifs, 0⟩] scope pos) spos) (tAsg (zEn wi g ti te inner) (zDM i)) := by
 intro pins s σ H D I h
 obtain ⟨cl, hcl, c1, c2, c3⟩ := clos (env := X.env) (scope := scope) fun x hx hk => I.ok.has x.1 (CS.free x hx hk).2
 rw [exec_Assign_Name_used _ _ _ _ hsw]
 refine Qa (wpAny_standAt (Qa ?_))
 show wpAny _ X.A (do let _ <- comprehension (.ListComp elt [⟨tg, iter, ifs, 0⟩] scope pos) scope X.env _ (newList []) false (eval iter X.env) (some (assign (.Name y py) X.env))) _ _ s
 refine Qa (YO (wpAny_comprehension_free (use := some (assign (.Name y py) X.env)) (Q := fun _ s' => SP X pins D .next s') rfl hs hcl CS.kind CS.loc
  (thn (hi pins s σ H _ I h) fun xv s1 h1 => thn h1 fun itv s2 h2 => ?_)) (fun _ s' hq => Qb (Qb hq)) fun _ _ e => e)
 obtain ⟨it, fp, tn, J, H2, rfl, I2, T, t0, f2, q⟩ := h2
 refine zC3 (Q := fun v H' => zDM i v σ H' D.nx) (RR := fun acc C => compPost (model X.prog X.w) X.A X.xe (some (assign (.Name y py) X.env)) (fun _ s' => SP X pins D .next s') acc C) hc CS hg ht he c1 c2 c3 I2 T t0 f2 q ?_
 intro D' C H' s5 m hm hq hI hC
 obtain ⟨z1, z2, z3, z4, z5⟩ := hC
 show wpAny _ X.A (assign (.Name y py) X.env (.ref D')) _ _ _
 have I5 := hI s5.heap (Heap.SameBut.refl ..)
 refine wpAny_assign_Name (zJh (v := .ref D') I5 hN hy hx (show L2.RelV (.ref D') (Value.ref D') from rfl) (fun s6 I6 k6 => ?_) hf)
 obtain ⟨a, sb, ha⟩ := k6
 have na : C ≠ a := by
  rcases ha with ha | ha
  ·rw [ha]; exact z2
  ·exact (z4 y a ha).symm
 refine ⟨m, hm.sameBut sb na, fun h' sb' => ⟨_, H', ?_, hq⟩⟩
 exact I6.turned (t' := s6.toks) (fun b o nb e => by rw [sb'.2 b nb]; exact e) z1 z2 (.inr z3) z4 z5
end
end CL
namespace DL
open PySem PySem.Spec PySem.SeqAt PyProof.Rows L2 CL
noncomputable def zBk (inner : List (Option Nat)) (ρ : Rho) : Rho := inner.map fun o => match o with
 | some j => match ρ[j]? with
  | some (.dat d) => .dat d
  | _ => .no
 | none => .no
noncomputable def zCu (s : D -> Rho -> Option Rho) (t : Rho -> Option Bool) (ge : Rho -> Option D) : List D -> Rho -> Option (List D)
 | [], _ => some []
 | d :: ds, ρ => (s d ρ).bind fun ρ1 => (t ρ1).bind fun b => if b = true then (ge ρ1).bind fun y => (zCu s t ge ds ρ1).bind fun r => some (y :: r) else zCu s t ge ds ρ1
noncomputable def zAx (gi : Rho -> Option (List D)) (s : D -> Rho -> Option Rho) (t : Rho -> Option Bool) (ge : Rho -> Option D) (inner : List (Option Nat)) : Rho -> Option (List D) :=
 fun ρ => (gi ρ).bind fun xs => (zCu s t ge xs (zBk inner ρ)).bind fun out => if out.length <= 1000 then some out else none
noncomputable def eLc (g : Rho -> Option (List D)) : Rho -> Option D := fun ρ => (g ρ).bind fun out => some (.list out)
noncomputable def eT : Rho -> Option Bool := fun _ => some true
noncomputable def isOwn : Sl -> Bool
 | .own _ | .ownD _ | .ownM _ => true
 | _ => false
noncomputable def zB7 (ρ : Rho) : Prop := ∀ (i : Nat) (s : Sl), isOwn s = true -> ρ[i]? ≠ some s
noncomputable def zCr (s : D -> Rho -> Option Rho) : Prop := ∀ d ρ ρ', zB7 ρ -> s d ρ = some ρ' -> zB7 ρ'
theorem zNa {ρ : Rho} {i : Nat} {d : D} (h : zB7 ρ) : zB7 (ρ.set i (.dat d)) := fun j ds ow e => by
 by_cases c : i = j
 ·subst c
  by_cases l : i < ρ.length
  ·rw [QA l] at e; cases e; cases ow
  ·rw [List.getElem?_eq_none (by simpa using Jb l)] at e; cases e
 ·rw [Qu c] at e; exact h j ds ow e
theorem zAP (i : Nat) : zCr (zAo i) := fun d ρ ρ' h e => by cases e; exact zNa h
theorem zFT (inner : List (Option Nat)) (ρ : Rho) : zB7 (zBk inner ρ) := fun i ds ow e => by
 unfold zBk at e
 rw [QQ] at e
 cases q : inner[i]? with
 | none => rw [q] at e; cases e
 | some o =>
  rw [q] at e
  cases o with
  | none => cases e; cases ow
  | some j =>
   have e' : (match ρ[j]? with | some (.dat d) => Sl.dat d | _ => Sl.no) = ds := QJ e
   split at e' <;> (subst e'; cases ow)
theorem zN1 {K : PySem.W.Frag} {F : Addr -> Prop} {H : Hp} {p : Addr} {vs us : List V} (hp : H p = some (.lst vs)) (hf : ¬ F p) : Stay K F F H (upd H p (.lst us)) :=
 ⟨fun _ h => h, fun a xs h => by
  rcases h with (h | ⟨o, h⟩) | h
  ·exact .inl (.inl (by rw [zAg (by intro z; subst z; rw [hp] at h; cases h)]; exact h))
  ·exact .inl (.inr ⟨o, by rw [zAg (by intro z; subst z; rw [hp] at h; cases h)]; exact h⟩)
  ·exact .inr h, fun a xs f h => by
  have na : a ≠ p := fun z => hf (by rw [<- z]; exact f)
  rcases h with h | ⟨o, h⟩
  ·exact .inl (by rw [zAg na]; exact h)
  ·exact .inr ⟨o, by rw [zAg na]; exact h⟩, fun a φ f h => by rw [zAg (fun z => hf (by rw [<- z]; exact f))]; exact h⟩
theorem StOk.plain {K : PySem.W.Frag} {F F' : Addr -> Prop} {H H' H₀ H₁ : Hp} {σ : L2.St} {ρ : Rho} (S : StOk K F H H₀ σ ρ) (pl : zB7 ρ) (T : Stay K F F' H H') (z : ∀ a, F' a -> H' a ≠ none) : StOk K F' H' H₁ σ ρ :=
 ⟨S.len, fun i s h => by
  obtain ⟨o, q, w⟩ := S.sl i s h
  refine ⟨o, q, ?_⟩
  cases s with
  | no => trivial
  | ownD kvs => exact absurd h (pl i _ rfl)
  | ownM kvs => exact absurd h (pl i _ rfl)
  | dat d => obtain ⟨v, e, r⟩ := w; exact ⟨v, e, r.stay T⟩
  | own ds => exact absurd h (pl i _ rfl), fun i j a ds es _ h1 => absurd h1 (pl i _ rfl), z⟩
theorem StOk.inner {K : PySem.W.Frag} {F : Addr -> Prop} {H H₀ : Hp} {σ : L2.St} {ρ : Rho} (S : StOk K F H H₀ σ ρ) (inner : List (Option Nat)) : StOk K F H H₀ (inSt inner σ) (zBk inner ρ) :=
 ⟨by simp [inSt, zBk], fun i s h => by
  unfold zBk at h
  unfold inSt
  rw [QQ] at h ⊢
  cases q : inner[i]? with
  | none => rw [q] at h; cases h
  | some o =>
   rw [q] at h
   cases o with
   | none => cases h; exact ⟨none, rfl, trivial⟩
   | some j =>
    have h' : (match ρ[j]? with | some (.dat d) => Sl.dat d | _ => Sl.no) = s := QJ h
    split at h'
    ·rename_i d e
     cases h'
     obtain ⟨v, e2, r⟩ := S.dat e
     exact ⟨some v, by simp [e2], v, rfl, r⟩
    ·cases h'
     exact ⟨_, rfl, trivial⟩, fun i j a ds es _ h1 => absurd h1 (zFT inner ρ i _ rfl), S.fz⟩
noncomputable def DTs (X : Cx) (ifs : List Expr) (t : Rho -> Option Bool) : Prop := PTs X ifs (tDT X.K t)
theorem zCB {X : Cx} : DTs X [] eT := fun pins s σ H Q I zz => by
 obtain ⟨F, H₀, ρ, b, S, q, k⟩ := zz
 cases q
 exact wpAny_tests_nil ⟨H, I, k F H (Ext.refl F H)⟩
theorem zA6 {X : Cx} {c : Expr} {t : Rho -> Option Bool} (h : DT X c t) : DTs X [c] t := zNn h
section
variable {X : Cx} {elt tg iter : Expr} {ifs : List Expr} {scope : Scope} {pos : Pos} {N' : List Str} {inner : List (Option Nat)} {gi : Rho -> Option (List D)} {s : D -> Rho -> Option Rho} {t : Rho -> Option Bool} {ge : Rho -> Option D}
structure CInv (X : Cx) (s : D -> Rho -> Option Rho) (t : Rho -> Option Bool) (ge : Rho -> Option D) (xs out : List D) (F1 : Addr -> Prop) (H1 : Hp) (D' : Addr) (i m : Nat) (σ' : L2.St) (H' : Hp) (F2 : Addr -> Prop) (ρ2 : Rho) (vs : List V) (don rst : List D) : Prop where
 em : m = xs.length - i
 hi : i <= xs.length
 E : Ext F1 F2 H1 H'
 T : Stay X.K F1 F2 H1 H'
 S : StOk X.K F2 H' H1 σ' ρ2
 pl : zB7 ρ2
 dD : H' D' = some (.lst vs)
 nf : ¬ F2 D'
 rd : Reps X.K F2 H' don vs
 ec : zCu s t ge (xs.drop i) ρ2 = some rst
 eo : don ++ rst = out
 kp : ∀ b o, b ≠ D' -> H1 b = some o -> H' b = some o
theorem zDD (kp : zCr s) {σ : L2.St} {H : Hp} {Q : VK} {F : Addr -> Prop} {H₀ : Hp} {ρ : Rho} {out : List D} (S : StOk X.K F H H₀ σ ρ) (q : zAx gi s t ge inner ρ = some out)
  (fin : ∀ F' H' D' vs, Ext F F' H H' -> Stay X.K F F' H H' -> H D' = none -> H' D' = some (.lst vs) -> ¬ F' D' -> Reps X.K F' H' out vs -> StOk X.K F' H' H₀ σ ρ -> Q (.ref D') H') :
  zEn (tDI X.K gi) (tDG X.K s) (tDT X.K t) (tD X.K ge) inner σ H Q := by
 obtain ⟨xs, e1, q⟩ := bnd q
 obtain ⟨out', e2, q⟩ := bnd q
 by_cases hl : out'.length <= 1000
 ·rw [if_pos hl] at q
  cases q
  refine ⟨F, H₀, ρ, xs, S, e1, fun F1 H1 J E1 I1 D' hD => ?_⟩
  have S1 := S.ext E1
  refine ⟨fun i m σ' H' => ∃ F2 ρ2 vs don rst, CInv X s t ge xs out F1 H1 D' i m σ' H' F2 ρ2 vs don rst, ?_, ?_⟩
  ·have E2 : Ext F1 F1 H1 (upd H1 D' (.lst [])) := Ext.fresh hD
   refine ⟨xs.length, F1, zBk inner ρ, [], [], out, rfl, QY _, E2, E2.stay, ?_, zFT inner ρ, zAC, fun f => S1.fz _ f hD, .nil, e2, rfl, fun b o nb e => by rw [zAg nb]; exact e⟩
   exact (S1.inner inner).plain (zFT inner ρ) E2.stay (E2.fz S1.fz)
  ·rintro i m σ' H' ⟨F2, ρ2, vs, don, rst, rfl, hi, E2, T2, S2, pl, dD, nf, rd, ec, eo, kp2⟩
   obtain ⟨it1, it2⟩ := I1 F2 H' T2 S2.fz i
   by_cases hlt : i < xs.length
   ·right
    have hget : xs[i]? = some xs[i] := by simp [hlt]
    obtain ⟨go, yld⟩ := it1 _ hget
    rw [Yq hlt] at ec
    obtain ⟨ρ3, e3, ec⟩ := bnd ec
    obtain ⟨b, e4, ec⟩ := bnd ec
    refine ⟨go, fun x H3 y => ?_⟩
    obtain ⟨F3, E3, R3⟩ := yld x H3 y
    have pl3 := kp _ _ _ pl e3
    refine ⟨F3, H1, ρ2, xs[i], ρ3, S2.ext E3, R3, e3, fun σ5 S5 => ⟨F3, H1, ρ3, b, S5, e4, fun F6 H6 E6 => ?_⟩⟩
    have S6 := S5.ext E6
    have E36 := E3.trans E6
    have d6 : H6 D' = some (.lst vs) := E36.same _ _ dD
    have nf6 : ¬ F6 D' := fun f => by
     rcases E36.new _ f with f | ⟨f, _⟩
     ·exact nf f
     ·rw [dD] at f; cases f
    cases b with
    | false =>
     simp only [Qp, if_false] at ec ⊢
     exact ⟨xs.length - (i + 1), by lia, F6, ρ3, vs, don, rst, rfl, hlt, E2.trans E36, T2.trans E36.stay, S6, pl3, d6, nf6, rd.stay E36.stay, ec, eo, fun b o nb e => E36.same _ _ (kp2 b o nb e)⟩
    | true =>
     simp only [if_true] at ec ⊢
     obtain ⟨yd, e5, ec⟩ := bnd ec
     obtain ⟨r', e6, ec⟩ := bnd ec
     cases ec
     refine ⟨F6, H1, ρ3, yd, S6, e5, fun F7 H7 yv E7 R7 => ?_⟩
     have E37 := E36.trans E7
     have d7 : H7 D' = some (.lst vs) := E37.same _ _ dD
     have nf7 : ¬ F7 D' := fun f => by
      rcases E37.new _ f with f | ⟨f, _⟩
      ·exact nf f
      ·rw [dD] at f; cases f
     have T8 : Stay X.K F7 F7 H7 (upd H7 D' (.lst (vs ++ [yv]))) := zN1 d7 nf7
     have S7 := S6.ext E7
     have E8 : Ext F1 F7 H1 (upd H7 D' (.lst (vs ++ [yv]))) := (E2.trans E37).turn hD
     have ll : vs.length < 1000 := by
      have h1 := rd.length
      have h2 := congrArg List.length eo
      rw [Qm, QM] at h2
      lia
     refine ⟨vs, d7, zEi (Yv ll), xs.length - (i + 1), by lia, F7, ρ3, vs ++ [yv], don ++ [yd], r', rfl, hlt, E8, (T2.trans E37.stay).trans T8, S7.plain pl3 T8 (E8.fz S1.fz), pl3, zAC, nf7, ?_, e6, by rw [Q1]; exact eo, fun b o nb e => ?_⟩
     ·exact ((rd.stay E37.stay).append (.cons R7 .nil)).stay T8
     ·rw [zAg nb]; exact E37.same _ _ (kp2 b o nb e)
   ·left
    have hge : xs.length <= i := Jb hlt
    refine ⟨it2 hge, ?_⟩
    rw [List.drop_eq_nil_of_le hge] at ec
    cases ec
    rw [Yn] at eo
    subst eo
    have hH : H D' = none := E1.same.free hD
    have EE : Ext F F2 H H' := E1.trans E2
    exact fin F2 H' D' vs EE (E1.stay.trans T2) hH dD nf rd (S.ext EE)
 ·rw [if_neg hl] at q; cases q
theorem zAV (hc : X.calm = true) (CS : zBB X N' scope inner) (kp : zCr s) (hi : DI X tg iter gi) (hg : ∀ cl C fp s' H, DG (inCx X N' scope cl C fp s' H) tg s) (ht : ∀ cl C fp s' H, DTs (inCx X N' scope cl C fp s' H) ifs t) (he : ∀ cl C fp s' H, DE (inCx X N' scope cl C fp s' H) elt ge)
  (hs : ∀ x, foldedSetIterable iter X.env x = pure x := by intro _; rfl) : DE X (.ListComp elt [⟨tg, iter, ifs, 0⟩] scope pos) (eLc (zAx gi s t ge inner)) :=
 zAQ (zMO (g := tDG X.K s) (ti := tDT X.K t) (te := tD X.K ge) hc CS hi (fun cl C fp s' H => hg cl C fp s' H) (fun cl C fp s' H => ht cl C fp s' H) (fun cl C fp s' H => he cl C fp s' H) hs) fun σ H Q zz => by
  obtain ⟨F, H₀, ρ, d, S, q, k⟩ := zz
  obtain ⟨out, e1, q⟩ := bnd q
  cases q
  refine zDD kp S e1 fun F' H' D' vs E' T' h1 h2 h3 h4 h5 => ?_
  refine k (fun a => F' a ∨ a = D') H' _ ⟨E'.same, fun a f => .inl (E'.up a f), fun a f => ?_⟩ (.lst (.inl ⟨.inr rfl, .inl h2⟩) (h4.stay ⟨fun _ f => .inl f, fun _ _ f => f, fun _ _ _ f => f, fun _ _ _ f => f⟩))
  rcases f with f | rfl
  ·exact E'.new a f
  ·exact .inr ⟨h1, by rw [h2]; simp⟩
theorem zG4 {i : Nat} {y : Str} {py spos : Pos} (hN : X.N.Nodup) (hc : X.calm = true) (CS : zBB X N' scope inner) (kp : zCr s) (hi : DI X tg iter gi) (hg : ∀ cl C fp s' H, DG (inCx X N' scope cl C fp s' H) tg s) (ht : ∀ cl C fp s' H, DTs (inCx X N' scope cl C fp s' H) ifs t) (he : ∀ cl C fp s' H, DE (inCx X N' scope cl C fp s' H) elt ge)
  (hsw : swapsWith (.ListComp elt [⟨tg, iter, ifs, 0⟩] scope pos) (some (.Name y py)) spos.line X.env = pure true := by rfl) (hy : X.N[i]? = some y := by rfl) (hx : L2.Loc X.env.scope y := by first | exact Or.inl rfl | exact Or.inr rfl) (hf : X.fn y = true ∨ X.env.scope.names.lookup y = some .local := by first | exact .inl rfl | exact .inr rfl | assumption)
  (hs : ∀ x, foldedSetIterable iter X.env x = pure x := by intro _; rfl) : DS X (.Assign [.Name y py] (.ListComp elt [⟨tg, iter, ifs, 0⟩] scope pos) spos) (sSet i (eLc (zAx gi s t ge inner))) :=
 ps_mono (zIF (g := tDG X.K s) (ti := tDT X.K t) (te := tD X.K ge) hN hc CS hi (fun cl C fp s' H => hg cl C fp s' H) (fun cl C fp s' H => ht cl C fp s' H) (fun cl C fp s' H => he cl C fp s' H) hsw hy hx hf hs) fun W σ H zz => by
  obtain ⟨F₀, H₀, F, ρ, o, E, S, q, k⟩ := zz
  obtain ⟨d, e1, q⟩ := bnd q
  cases q
  obtain ⟨out, e2, q⟩ := bnd e1
  cases q
  refine zDD kp S e2 fun F' H' D' vs E' T' h1 h2 h3 h4 h5 => ?_
  have T9 : Stay X.K F' (fun a => F' a ∨ a = D') H' H' := ⟨fun _ f => .inl f, fun _ _ f => f, fun _ _ _ f => f, fun _ _ _ f => f⟩
  have E9 : Ext F (fun a => F' a ∨ a = D') H H' := ⟨E'.same, fun a f => .inl (E'.up a f), fun a f => by
   rcases f with f | rfl
   ·exact E'.new a f
   ·exact .inr ⟨h1, by rw [h2]; simp⟩⟩
  exact k _ H' _ (E.trans E9) (T'.trans T9) ((S.ext E9).put (.lst (.inl ⟨.inr rfl, .inl h2⟩) (h4.stay T9)))
end
end DL
namespace SD
open PySem PySem.Spec PySem.SeqAt PyProof.Rows L2 DL SG
theorem zCE : ∀ a : List Int, HT.lexLt a a = false
 | [] => rfl
 | x :: xs => by rw [HT.lexLt_cons, if_pos rfl]; exact zCE xs
theorem zDU : ∀ a b c : List Int, HT.lexLt a b = true -> HT.lexLt b c = true -> HT.lexLt a c = true
 | [], b, [], h1, h2 => by cases b with | nil => cases h1 | cons _ _ => cases h2
 | [], _, _ :: _, _, _ => rfl
 | _ :: _, [], _, h1, _ => by cases h1
 | _ :: _, _ :: _, [], _, h2 => by cases h2
 | x :: xs, y :: ys, z :: zs, h1, h2 => by
  rw [HT.lexLt_cons] at h1 h2 ⊢
  by_cases c1 : x = y
  ·subst c1
   rw [if_pos rfl] at h1
   by_cases c2 : x = z
   ·subst c2
    rw [if_pos rfl] at h2 ⊢
    exact zDU xs ys zs h1 h2
   ·rw [if_neg c2] at h2 ⊢; exact h2
  ·rw [if_neg c1] at h1
   have g1 : x < y := of_decide_eq_true h1
   by_cases c2 : y = z
   ·subst c2
    rw [if_neg c1]; exact decide_eq_true g1
   ·rw [if_neg c2] at h2
    have g2 : y < z := of_decide_eq_true h2
    rw [if_neg (by lia)]
    exact decide_eq_true (by lia)
theorem zDe : ∀ a b : List Int, HT.lexLt a b = false -> HT.lexLt b a = false -> a = b
 | [], [], _, _ => rfl
 | [], _ :: _, h1, _ => by cases h1
 | _ :: _, [], _, h2 => by cases h2
 | x :: xs, y :: ys, h1, h2 => by
  rw [HT.lexLt_cons] at h1 h2
  by_cases c : x = y
  ·subst c
   rw [if_pos rfl] at h1 h2
   rw [zDe xs ys h1 h2]
  ·rw [if_neg c] at h1
   rw [if_neg (Ne.symm c)] at h2
   have g1 : ¬ x < y := of_decide_eq_false h1
   have g2 : ¬ y < x := of_decide_eq_false h2
   lia
theorem zH4 (a b c : List Int) (h : HT.lexLt a c = true) : HT.lexLt a b = true ∨ HT.lexLt b c = true := by
 cases e1 : HT.lexLt a b with
 | true => exact .inl rfl
 | false =>
  right
  cases e2 : HT.lexLt b a with
  | false => rw [<- zDe a b e1 e2]; exact h
  | true => exact zDU b a c e2 h
theorem zFz : ∀ (a b c d : List Int), a.length = b.length -> HT.lexLt (a ++ c) (b ++ d) = if a = b then HT.lexLt c d else HT.lexLt a b
 | [], [], c, d, _ => by simp
 | [], _ :: _, _, _, h => by simp at h
 | _ :: _, [], _, _, h => by simp at h
 | x :: xs, y :: ys, c, d, h => by
  rw [YI, YI, HT.lexLt_cons]
  have ih := zFz xs ys c d (by simpa using h)
  by_cases e : x = y
  ·subst e
   rw [if_pos rfl, ih, HT.lexLt_cons, if_pos rfl]
   simp
  ·rw [if_neg e, if_neg (by simp [e]), HT.lexLt_cons, if_neg e]
noncomputable def keyT (tab : List (Value × List Int)) : PyProof.Rows.KeyKind where
 α := List Int
 blt := HT.lexLt
 irrefl := zCE
 trans := zDU
 negTrans := zH4
 total := zDe
 keyOf := fun v => tab.lookup v
 dflt := []
noncomputable def zBl : D -> D -> Bool
 | .int _, .int _ => true
 | .tuple xs, .tuple ys => decide (xs.length = ys.length)
 | _, _ => false
noncomputable def zA7 : List D -> List D -> Bool
 | [], [] => true
 | x :: xs, y :: ys => zBl x y && zA7 xs ys
 | _, _ => false
noncomputable def zBR : D -> Option (List Int)
 | .int i => some [i]
 | .tuple ds => zAE ds
 | _ => none
noncomputable def zBj : List D -> Option (List Int)
 | [] => some []
 | d :: ds => (zBR d).bind fun a => (zBj ds).bind fun b => some (a ++ b)
theorem zLH {d x y : D} (h1 : zBl d x = true) (h2 : zBl d y = true) : zBl x y = true := by
 cases d with
 | int i =>
  cases x with
  | int _ => cases y with
   | int _ => rfl
   | _ => cases h2
  | _ => cases h1
 | tuple ds =>
  cases x with
  | tuple xs => cases y with
   | tuple ys =>
    have a : ds.length = xs.length := of_decide_eq_true h1
    have b : ds.length = ys.length := of_decide_eq_true h2
    exact decide_eq_true (a.symm.trans b)
   | _ => cases h2
  | _ => cases h1
 | _ => cases x <;> cases h1
theorem zDW : ∀ {d x y : List D}, zA7 d x = true -> zA7 d y = true -> zA7 x y = true
 | [], [], [], _, _ => rfl
 | [], [], _ :: _, _, h => by cases h
 | [], _ :: _, _, h, _ => by cases h
 | _ :: _, [], _, h, _ => by cases h
 | _ :: _, _ :: _, [], _, h => by cases h
 | d :: ds, x :: xs, y :: ys, h1, h2 => by
  have a := QH.mp h1
  have b := QH.mp h2
  exact QH.mpr ⟨zLH a.1 b.1, zDW a.2 b.2⟩
theorem zHU : ∀ {xs ys : List D} {a b : List Int}, zAE xs = some a -> zAE ys = some b -> PyData.eqvAll xs ys = decide (a = b)
 | [], [], _, _, h1, h2 => by cases h1; cases h2; rfl
 | [], .int _ :: _, _, _, h1, h2 => by
  cases h1
  obtain ⟨_, _, h2⟩ := bnd h2
  cases h2
  simp [PyData.eqvAll]
 | .int _ :: _, [], _, _, h1, h2 => by
  cases h2
  obtain ⟨_, _, h1⟩ := bnd h1
  cases h1
  simp [PyData.eqvAll]
 | .int i :: xs, .int j :: ys, _, _, h1, h2 => by
  obtain ⟨a, e1, h1⟩ := bnd h1
  obtain ⟨b, e2, h2⟩ := bnd h2
  cases h1; cases h2
  rw [PyData.eqvAll, zHU e1 e2]
  simp [PyData.eqv]
  by_cases c : i = j <;> simp [c]
 | .none :: _, _, _, _, h1, _ => by cases h1
 | .bool _ :: _, _, _, _, h1, _ => by cases h1
 | .str _ :: _, _, _, _, h1, _ => by cases h1
 | .list _ :: _, _, _, _, h1, _ => by cases h1
 | .tuple _ :: _, _, _, _, h1, _ => by cases h1
 | .dict _ :: _, _, _, _, h1, _ => by cases h1
 | _, .none :: _, _, _, _, h2 => by cases h2
 | _, .bool _ :: _, _, _, _, h2 => by cases h2
 | _, .str _ :: _, _, _, _, h2 => by cases h2
 | _, .list _ :: _, _, _, _, h2 => by cases h2
 | _, .tuple _ :: _, _, _, _, h2 => by cases h2
 | _, .dict _ :: _, _, _, _, h2 => by cases h2
theorem zBT : ∀ {xs : List D} {a : List Int}, zAE xs = some a -> PyData.canLayAll0 xs = true /\ PyData.depthAll xs = 0 /\ xs.length = a.length /\ xs = a.map PyData.int
 | [], _, h => by cases h; exact ⟨rfl, rfl, rfl, rfl⟩
 | .int i :: xs, _, h => by
  obtain ⟨a, e, h⟩ := bnd h
  cases h
  obtain ⟨h1, h2, h3, h4⟩ := zBT e
  exact ⟨by simp [PyData.canLayAll0, PyData.canLay0, h1], by simp [PyData.depthAll, PyData.depth, h2], by simp [h3], by rw [h4]; rfl⟩
 | .none :: _, _, h => by cases h
 | .bool _ :: _, _, h => by cases h
 | .str _ :: _, _, h => by cases h
 | .list _ :: _, _, h => by cases h
 | .tuple _ :: _, _, h => by cases h
 | .dict _ :: _, _, h => by cases h
theorem zFx {h : Heap} : ∀ {xs : List D} {a : List Int} {us : List Value} {as : List Addr}, zAE xs = some a -> ReadsAll h us xs as -> IntsAre us a
 | [], _, _, _, e, r => by cases e; cases r; exact .nil
 | .int i :: xs, _, _, _, e, r => by
  obtain ⟨a, e1, e⟩ := bnd e
  cases e
  cases r with
  | cons r1 r2 =>
   cases r1
   exact .cons i _ (zFx e1 r2)
 | .none :: _, _, _, _, h, _ => by cases h
 | .bool _ :: _, _, _, _, h, _ => by cases h
 | .str _ :: _, _, _, _, h, _ => by cases h
 | .list _ :: _, _, _, _, h, _ => by cases h
 | .tuple _ :: _, _, _, _, h, _ => by cases h
 | .dict _ :: _, _, _, _, h, _ => by cases h
section
variable {prog : Program} {w : World} {A : Around} {E : Value -> Shared -> Prop} {s : Shared}
theorem zHj {x y : D} {a b : List Int} (l : zBl x y = true) (fx : zBR x = some a) (fy : zBR y = some b) : a.length = b.length := by
 cases x with
 | int i => cases y with
  | int j => cases fx; cases fy; rfl
  | _ => cases l
 | tuple xs => cases y with
  | tuple ys =>
   have e : xs.length = ys.length := of_decide_eq_true l
   rw [<- (zBT (show zAE xs = some a from fx)).2.2.1, <- (zBT (show zAE ys = some b from fy)).2.2.1, e]
  | _ => cases l
 | _ => cases y <;> cases l
theorem el_eq {x y : D} {p q : Value} {a b : List Int} {as bs : List Addr} (hu : A.units + 64 < cLine) (rp : Reads s.heap p x as) (rq : Reads s.heap q y bs) (l : zBl x y = true) (fx : zBR x = some a) (fy : zBR y = some b) : EqAt A s p q (decide (a = b)) := by
 cases x with
 | int i => cases y with
  | int j =>
   cases fx; cases fy
   cases rp with
   | int _ t => cases rq with
    | int _ u =>
     have := EqAt.int_int (A := A) (s := s) i t j u
     have e : (i == j) = decide ([i] = [j]) := by
      by_cases c : i = j
      ·subst c; simp
      ·simp [c]
     rw [<- e]; exact this
  | _ => cases l
 | tuple xs => cases y with
  | tuple ys =>
   have e1 : zAE xs = some a := fx
   have e2 : zAE ys = some b := fy
   obtain ⟨c1, d1, _, _⟩ := zBT e1
   obtain ⟨c2, d2, _, _⟩ := zBT e2
   have := eqAt_reads (.tuple xs) (.tuple ys) A s p q as bs rp rq c1 c2 (by show A.units + min (PyData.depthAll xs + 1) (PyData.depthAll ys + 1) < cLine; rw [d1, d2]; lia)
   have e : PyData.eqv (.tuple xs) (.tuple ys) = decide (a = b) := by rw [PyData.eqv]; exact zHU e1 e2
   rw [e] at this
   exact this
  | _ => cases l
 | _ => cases y <;> cases l
theorem zJs {b : Bool} {Q : Bool -> Shared -> Prop} (h : Q b s) : wpAny (model prog w) A (truthOfDropped (.bool b)) Q E s := by
 unfold truthOfDropped
 exact Y5 h
theorem el_lt {x y : D} {p q : Value} {a b : List Int} {as bs : List Addr} {f : Bool} {Q : Bool -> Shared -> Prop} (hu : A.units + 64 < cLine) (rp : Reads s.heap p x as) (rq : Reads s.heap q y bs) (l : zBl x y = true) (fx : zBR x = some a) (fy : zBR y = some b)
  (hf : f = true -> ∃ i, x = .int i) (k : Q (HT.lexLt a b) s) (ne : a ≠ b) : wpAny (model prog w) A (oneLt' f p q) Q E s := by
 cases x with
 | int i => cases y with
  | int j =>
   cases fx; cases fy; cases rp; cases rq
   have e : HT.lexLt [i] [j] = decide (i < j) := by
    rw [HT.lexLt_cons, if_neg (by intro z; exact ne (by rw [z]))]
   rw [e] at k
   cases f with
   | true => exact oneLt_int k
   | false =>
    rw [oneLt'_eq]
    simp only [Qp, if_false]
    refine Qa (HT.rcLt_int A s i _ j _ prog w E _ (zJs k))
  | _ => cases l
 | tuple xs =>
  cases f with
  | true => obtain ⟨i, hi⟩ := hf rfl; cases hi
  | false => cases y with
   | tuple ys =>
    have e1 : zAE xs = some a := fx
    have e2 : zAE ys = some b := fy
    cases rp with
    | tuple h1 h2 h3 h4 => cases rq with
     | tuple g1 g2 g3 g4 =>
      rw [oneLt'_eq]
      simp only [Qp, if_false]
      exact Qa (HT.lt_tupInts ⟨_, h1, h2, _, h3⟩ ⟨_, g1, g2, _, g3⟩ (zFx e1 h4) (zFx e2 g4) (by lia) (zJs k))
   | _ => cases l
 | _ => cases y <;> cases l
theorem zIN {b : Bool} {fin : Bool} {Q : Bool -> Shared -> Prop} (hu : A.units + 64 < cLine) : ∀ {xs ys : List D} {a c : List Int} {us vs : List Value} {as bs : List Addr} (i : Nat), zA7 xs ys = true -> zBj xs = some a -> zBj ys = some c -> ReadsAll s.heap us xs as -> ReadsAll s.heap vs ys bs ->
  (b = true -> i = 0 -> ∀ x r, xs = x :: r -> ∃ n, x = .int n) -> (a = c -> Q fin s) -> (a ≠ c -> Q (HT.lexLt a c) s) -> PySem.W.KatLex prog w A b fin Q (us.zip vs) i s
 | [], [], _, _, _, _, _, _, i, _, f1, f2, r1, r2, _, k1, k2 => by
  cases f1; cases f2; cases r1; cases r2
  exact PySem.W.kat_nil (k1 rfl)
 | [], _ :: _, _, _, _, _, _, _, _, l, _, _, _, _, _, _, _ => by cases l
 | _ :: _, [], _, _, _, _, _, _, _, l, _, _, _, _, _, _, _ => by cases l
 | x :: xs, y :: ys, _, _, _, _, _, _, i, l, f1, f2, r1, r2, hb, k1, k2 => by
  obtain ⟨a1, e1, f1⟩ := bnd f1
  obtain ⟨a2, e2, f1⟩ := bnd f1
  cases f1
  obtain ⟨c1, e3, f2⟩ := bnd f2
  obtain ⟨c2, e4, f2⟩ := bnd f2
  cases f2
  obtain ⟨l1, l2⟩ := QH.mp l
  have hlen := zHj l1 e1 e3
  cases r1 with
  | cons p1 p2 => cases r2 with
   | cons q1 q2 =>
    rw [List.zip_cons_cons]
    refine PySem.W.kat_cons (el_eq hu p1 q1 l1 e1 e3 prog w _ _ ?_)
    by_cases c : a1 = c1
    ·rw [decide_eq_true c]
     subst c
     refine PySem.W.kat_yes (zIN hu (i + 1) l2 e2 e4 p2 q2 (fun _ h => by lia) (fun e => k1 (by rw [e])) fun e => ?_)
     have := k2 (fun z => e (List.append_cancel_left z))
     rw [zFz _ _ _ _ rfl, if_pos rfl] at this
     exact this
    ·rw [decide_eq_false c]
     refine PySem.W.kat_no (el_lt hu p1 q1 l1 e1 e3 (fun hf => ?_) ?_ c)
     ·obtain ⟨g1, g2⟩ := QH.mp hf
      exact hb g1 (by simpa using g2) x xs rfl
     ·have ne : a1 ++ a2 ≠ c1 ++ c2 := fun z => c (List.append_inj_left z hlen)
      have := k2 ne
      rw [zFz _ _ _ _ hlen, if_neg c] at this
      exact this
theorem zFC {α : Type} {f : Value -> Sem α} {g : Value -> α} : ∀ {vs : List Value} {Q : List α -> Shared -> Prop}, (∀ v ∈ vs, ∀ (R : α -> Shared -> Prop), R (g v) s -> wpAny (model prog w) A (f v) R E s) -> Q (vs.map g) s -> wpAny (model prog w) A (vs.mapM f) Q E s
 | [], _, _, k => by rw [List.mapM_nil]; exact Qb k
 | v :: vs, Q, h, k => by
  rw [List.mapM_cons]
  refine Qa (h v Qf _ (Qa (zFC (fun u hu => h u (Qd _ hu)) (Qb k))))
noncomputable def isInt : D -> Bool
 | .int _ => true
 | _ => false
noncomputable def zBq (h : Heap) : Value -> Option Value
 | .ref a => match h.get? a with
  | some o => match o.data with
   | .seq xs _ => xs[0]?
   | _ => none
  | none => none
 | _ => none
noncomputable def tyE : Value -> Value
 | .ref _ => .type "tuple"
 | _ => .type "int"
theorem zKV (v : Value) : firstOfTuple' v = (typeOf v >>= fun t => if (t != .type "tuple") = true then pure none else Builtin.List.listItems v >>= fun xs => pure xs[0]?) := by
 unfold firstOfTuple'
 rfl
theorem zLz {vs : List Value} {bi : Bool} {d : D} (hd : isInt d = bi) (hR : ∀ v ∈ vs, ∃ x xs as, Reads s.heap v (.tuple (x :: xs)) as /\ zBl d x = true) (hne : vs ≠ []) :
  wpAny (model prog w) A (keyKind' vs.toArray) (fun q s' => q = tuples' bi /\ s' = s) E s := by
 rw [keyKind'_eq, List.mapM_toArray, map_eq_pure_bind]
 refine Qa (Qa (zFC (g := fun v => zBq s.heap v) (fun v hv R hR' => ?_) (Qb ?_)))
 ·obtain ⟨x, xs, as, r, _⟩ := hR v hv
  cases r with
  | @tuple a o us n _ _ h1 h2 h3 h4 =>
   rw [zKV]
   refine Qa (YS (T := "tuple") ⟨o, h1, h2⟩ ?_)
   have e : (Value.type "tuple" != Value.type "tuple") = false := by simp
   rw [if_neg (by rw [e]; simp)]
   refine Qa (listItems_at h1 h3 (Qb ?_))
   have e2 : zBq s.heap (.ref a) = us[0]? := by
    show (match s.heap.get? a with | some o => (match o.data with | .seq xs _ => xs[0]? | _ => none) | none => none) = us[0]?
    rw [h1]
    show (match o.data with | .seq xs _ => xs[0]? | _ => none) = us[0]?
    rw [h3]
   rw [e2] at hR'
   exact hR'
 ·have fst : ∀ v ∈ vs, ∃ u x as, zBq s.heap v = some u /\ Reads s.heap u x as /\ zBl d x = true := fun v hv => by
   obtain ⟨x, xs, as, r, l⟩ := hR v hv
   cases r with
   | @tuple a o us n _ _ h1 h2 h3 h4 =>
    have e2 : zBq s.heap (.ref a) = us[0]? := by
     show (match s.heap.get? a with | some o => (match o.data with | .seq xs _ => xs[0]? | _ => none) | none => none) = us[0]?
     rw [h1]
     show (match o.data with | .seq xs _ => xs[0]? | _ => none) = us[0]?
     rw [h3]
    generalize hl : us.toList = ul at h4
    cases h4 with
    | @cons u vs' _ _ as' bs' r1 r2 =>
     refine ⟨u, x, as', ?_, r1, l⟩
     rw [e2, <- QI, hl]
     rfl
  have ty : ∀ u x as, Reads s.heap u x as -> zBl d x = true -> tyE u = (if bi = true then .type "int" else .type "tuple") /\ ∀ (R : Value -> Shared -> Prop), R (tyE u) s -> wpAny (model prog w) A (typeOf u) R E s := fun u x as r l => by
   cases d with
   | int i =>
    cases x with
    | int j => cases r; cases hd; exact ⟨rfl, fun R k => YS (T := "int") (typeIs_int s _ _) k⟩
    | _ => cases l
   | tuple ds =>
    cases x with
    | tuple xs =>
     cases r with
     | tuple h1 h2 h3 h4 => cases hd; exact ⟨rfl, fun R k => YS (T := "tuple") ⟨_, h1, h2⟩ k⟩
    | _ => cases l
   | _ => cases x <;> cases l
  have all : ((vs.map fun v => zBq s.heap v).toArray.all fun x => x.isSome) = true := by
   rw [List.all_toArray, List.all_map, QF]
   intro v hv
   obtain ⟨u, x, as, e, _⟩ := fst v hv
   simp [e]
  rw [if_pos all]
  refine Qa (Jr (Qa ?_))
  rw [oneTypeOnly'_eq]
  have ef : ((vs.map fun v => zBq s.heap v).toArray.filterMap id) = (vs.filterMap fun v => zBq s.heap v).toArray := by
   rw [List.filterMap_toArray, List.filterMap_map]
   rfl
  rw [ef, List.mapM_toArray, map_eq_pure_bind]
  have mem : ∀ u ∈ vs.filterMap (fun v => zBq s.heap v), ∃ x as, Reads s.heap u x as /\ zBl d x = true := fun u hu => by
   obtain ⟨v, hv, e⟩ := List.mem_filterMap.mp hu
   obtain ⟨u', x, as, e', r, l⟩ := fst v hv
   rw [e] at e'; cases e'
   exact ⟨x, as, r, l⟩
  refine Qa (Qa (zFC (g := tyE) (fun u hu R k => ?_) (Qb ?_)))
  ·obtain ⟨x, as, r, l⟩ := mem u hu
   exact (ty u x as r l).2 R k
  ·obtain ⟨v0, vs', rfl⟩ : ∃ v0 vs', vs = v0 :: vs' := by
    cases vs with
    | nil => exact absurd rfl hne
    | cons a b => exact ⟨a, b, rfl⟩
   obtain ⟨u0, x0, as0, e0, r0, l0⟩ := fst v0 Qf
   have em : ∀ t ∈ ((v0 :: vs').filterMap (fun v => zBq s.heap v)).map tyE, t = (if bi = true then .type "int" else .type "tuple") := fun t ht => by
    obtain ⟨u, hu, rfl⟩ := Qr.mp ht
    obtain ⟨x, as, r, l⟩ := mem u hu
    exact (ty u x as r l).1
   have e1 : (((v0 :: vs').filterMap (fun v => zBq s.heap v)).map tyE).toArray[0]? = some (if bi = true then .type "int" else .type "tuple") := by
    rw [Jv, e0]
    simp only [Ql]
    rw [(ty u0 x0 as0 r0 l0).1]
    rfl
   rw [e1]
   have e2 : ((((v0 :: vs').filterMap (fun v => zBq s.heap v)).map tyE).toArray.all fun x => x == (if bi = true then .type "int" else .type "tuple")) = true := by
    rw [List.all_toArray, QF]
    intro t ht
    rw [em t ht]
    simp
   dsimp only
   rw [if_pos e2]
   refine Qb (Qb ⟨?_, rfl⟩)
   cases bi <;> rfl
end
end SD
namespace SD
open PySem PySem.Spec PySem.SeqAt PyProof.Rows L2 DL SG
abbrev KD := List Int × D
noncomputable def rowK (d0 : List D) : D -> Option (List Int)
 | .tuple (x :: xs) => if zA7 d0 (x :: xs) = true then zBj (x :: xs) else none
 | _ => none
noncomputable def zAY (d0 : List D) : List D -> Option (List KD)
 | [] => some []
 | d :: ds => (rowK d0 d).bind fun k => (zAY d0 ds).bind fun r => some ((k, d) :: r)
noncomputable def insK (p : KD) : List KD -> List KD
 | [] => [p]
 | q :: r => if HT.lexLt q.1 p.1 = true then q :: insK p r else p :: q :: r
noncomputable def zAU : List KD -> List KD
 | [] => []
 | p :: r => insK p (zAU r)
noncomputable def zBE : List D -> Option D
 | [.list []] => some (.list [])
 | [.list (.tuple d0 :: ds)] => if ds.length < 63 then (zAY d0 (.tuple d0 :: ds)).bind fun l => some (.list ((zAU l).map (·.2))) else none
 | _ => none
noncomputable def Le (p q : KD) : Prop := HT.lexLt q.1 p.1 = false
theorem Le.trans {p q r : KD} (a : Le p q) (b : Le q r) : Le p r := by
 unfold Le at *
 cases e : HT.lexLt r.1 p.1 with
 | false => rfl
 | true =>
  rcases zH4 _ q.1 _ e with h | h
  ·rw [b] at h; cases h
  ·rw [a] at h; cases h
theorem zFw (p : KD) : ∀ l : List KD, (insK p l).Perm (p :: l)
 | [] => .refl _
 | q :: r => by
  unfold insK
  split
  ·exact ((zFw p r).cons q).trans (.swap p q r)
  ·exact .refl _
theorem zCN : ∀ l : List KD, (zAU l).Perm l
 | [] => .refl _
 | p :: r => (zFw p (zAU r)).trans ((zCN r).cons p)
theorem zHR (p : KD) : ∀ l : List KD, l.Pairwise Le -> (insK p l).Pairwise Le
 | [], _ => by simp [insK]
 | q :: r, h => by
  obtain ⟨h1, h2⟩ := Q3.mp h
  unfold insK
  split
  ·rename_i c
   refine Q3.mpr ⟨fun z hz => ?_, zHR p r h2⟩
   rcases Qh.mp ((zFw p r).mem_iff.mp hz) with e | e
   ·subst e
    unfold Le
    cases e2 : HT.lexLt z.1 q.1 with
    | false => rfl
    | true => have := zDU _ _ _ c e2; rw [zCE] at this; cases this
   ·exact h1 z e
  ·rename_i c
   have pq : Le p q := by simpa [Le] using c
   refine Q3.mpr ⟨fun z hz => ?_, h⟩
   rcases Qh.mp hz with e | e
   ·rw [e]; exact pq
   ·exact pq.trans (h1 z e)
theorem zDw : ∀ l : List KD, (zAU l).Pairwise Le
 | [] => .nil
 | p :: r => zHR p _ (zDw r)
theorem zGc : ∀ {a b : List KD}, a.Perm b -> a.Pairwise Le -> b.Pairwise Le -> (∀ p ∈ a, ∀ q ∈ a, p.1 = q.1 -> p = q) -> a = b
 | [], b, h, _, _, _ => h.nil_eq
 | x :: r, [], h, _, _, _ => absurd h.length_eq (by simp)
 | x :: r, y :: t, h, ha, hb, inj => by
  have hy : y ∈ x :: r := h.mem_iff.mpr Qf
  have hx : x ∈ y :: t := h.mem_iff.mp Qf
  have e : x = y := by
   refine inj x Qf y hy (zDe _ _ ?_ ?_)
   ·rcases Qh.mp hx with c | c
    ·rw [c]; exact zCE _
    ·exact (Q3.mp hb).1 x c
   ·rcases Qh.mp hy with c | c
    ·rw [c]; exact zCE _
    ·exact (Q3.mp ha).1 y c
  subst e
  rw [zGc h.cons_inv (Q3.mp ha).2 (Q3.mp hb).2 fun p hp q hq => inj p (Qd _ hp) q (Qd _ hq)]
theorem zMZ {α β : Type} {f : α -> β} {a b : List β} (h : a.Perm b) : ∀ l : List α, l.map f = a -> ∃ l' : List α, l'.Perm l /\ l'.map f = b := by
 induction h with
 | nil => intro l e; exact ⟨l, .refl _, e⟩
 | cons x _ ih =>
  intro l e
  cases l with
  | nil => cases e
  | cons y l =>
   rw [Ql] at e
   injection e with e1 e2
   obtain ⟨l', p, q⟩ := ih l e2
   exact ⟨y :: l', p.cons y, by rw [Ql, e1, q]⟩
 | swap x y r =>
  intro l e
  match l, e with
  | a :: b :: l, e =>
   rw [Ql, Ql] at e
   injection e with e1 e2
   injection e2 with e2 e3
   exact ⟨b :: a :: l, .swap a b l, by rw [Ql, Ql, e1, e2, e3]⟩
 | trans _ _ ih1 ih2 =>
  intro l e
  obtain ⟨l1, p1, q1⟩ := ih1 l e
  obtain ⟨l2, p2, q2⟩ := ih2 l1 q1
  exact ⟨l2, p2.trans p1, q2⟩
theorem zHh : ∀ {xs ys : List D} {a : List Int}, zA7 xs ys = true -> zBj xs = some a -> zBj ys = some a -> xs = ys
 | [], [], _, _, _, _ => rfl
 | [], _ :: _, _, l, _, _ => by cases l
 | _ :: _, [], _, l, _, _ => by cases l
 | x :: xs, y :: ys, a, l, f1, f2 => by
  obtain ⟨a1, e1, f1⟩ := bnd f1
  obtain ⟨a2, e2, f1⟩ := bnd f1
  obtain ⟨c1, e3, f2⟩ := bnd f2
  obtain ⟨c2, e4, f2⟩ := bnd f2
  obtain ⟨l1, l2⟩ := QH.mp l
  have hl := zHj l1 e1 e3
  have ee : a1 ++ a2 = c1 ++ c2 := (QJ f1).trans (QJ f2).symm
  obtain ⟨g1, g2⟩ := List.append_inj ee hl
  subst g1 g2
  rw [zHh l2 e2 e4]
  congr 1
  cases x with
  | int i => cases y with
   | int j => cases e1; cases e3; rfl
   | _ => cases l1
  | tuple us => cases y with
   | tuple vs => rw [(zBT (show zAE us = some a1 from e1)).2.2.2, (zBT (show zAE vs = some a1 from e3)).2.2.2]
   | _ => cases l1
  | _ => cases y <;> cases l1
theorem zE2 : ∀ {xs : List D} {a : List Int}, zBj xs = some a -> PyData.canLayAll0 xs = true
 | [], _, _ => rfl
 | x :: xs, a, f => by
  obtain ⟨a1, e1, f⟩ := bnd f
  obtain ⟨a2, e2, f⟩ := bnd f
  have h2 := zE2 e2
  have h1 : PyData.canLay0 x = true := by
   cases x with
   | int i => rfl
   | tuple us => exact (zBT (show zAE us = some a1 from e1)).1
   | _ => cases e1
  simp [PyData.canLayAll0, h1, h2]
theorem zCh {d0 : List D} {d : D} {k : List Int} (h : rowK d0 d = some k) : ∃ x xs, d = .tuple (x :: xs) /\ zA7 d0 (x :: xs) = true /\ zBj (x :: xs) = some k := by
 cases d with
 | tuple ds =>
  cases ds with
  | nil => cases h
  | cons x xs =>
   have h' : (if zA7 d0 (x :: xs) = true then zBj (x :: xs) else none) = some k := h
   by_cases c : zA7 d0 (x :: xs) = true
   ·rw [if_pos c] at h'; exact ⟨x, xs, rfl, c, h'⟩
   ·rw [if_neg c] at h'; cases h'
 | _ => cases h
theorem zBK {d0 : List D} {d e : D} {k : List Int} (h1 : rowK d0 d = some k) (h2 : rowK d0 e = some k) : d = e := by
 obtain ⟨x, xs, rfl, l1, f1⟩ := zCh h1
 obtain ⟨y, ys, rfl, l2, f2⟩ := zCh h2
 rw [zHh (zDW l1 l2) f1 f2]
theorem zF2 {d0 : List D} : ∀ {ds : List D} {l : List KD}, zAY d0 ds = some l -> l.map (·.2) = ds /\ ∀ p ∈ l, rowK d0 p.2 = some p.1
 | [], _, h => by cases h; exact ⟨rfl, fun p hp => nomatch hp⟩
 | d :: ds, _, h => by
  obtain ⟨k, e1, h⟩ := bnd h
  obtain ⟨r, e2, h⟩ := bnd h
  cases h
  obtain ⟨h1, h2⟩ := zF2 e2
  refine ⟨by rw [Ql, h1], fun p hp => ?_⟩
  rcases Qh.mp hp with e | e
  ·rw [e]; exact e1
  ·exact h2 p e
abbrev Tr := KD × V × Value
section
variable {X : Cx} {pins : List (Addr × Obj)} {σ : L2.St} {H : Hp} {s : Shared} {F : Addr -> Prop}
theorem zJq {K : PySem.W.Frag} : ∀ {l : List KD} {vs : List V} {us : List Value}, Reps K F H (l.map (·.2)) vs -> L2.Vals vs us -> ∃ T : List Tr, T.map (·.1) = l /\ T.map (·.2.1) = vs /\ T.map (·.2.2) = us /\ ∀ t ∈ T, Rep K F H t.1.2 t.2.1 /\ L2.RelV t.2.1 t.2.2
 | [], _, _, r, v => by cases r; cases v; exact ⟨[], rfl, rfl, rfl, fun t ht => nomatch ht⟩
 | p :: l, _, _, r, v => by
  cases r with
  | cons r1 r2 => cases v with
   | cons v1 v2 =>
    obtain ⟨T, h1, h2, h3, h4⟩ := zJq (l := l) r2 v2
    refine ⟨(p, _, _) :: T, by rw [Ql, h1], by rw [Ql, h2], by rw [Ql, h3], fun t ht => ?_⟩
    rcases Qh.mp ht with e | e
    ·rw [e]; exact ⟨r1, v1⟩
    ·exact h4 t e
theorem zJr {K : PySem.W.Frag} : ∀ {T : List Tr}, (∀ t ∈ T, Rep K F H t.1.2 t.2.1 /\ L2.RelV t.2.1 t.2.2) -> Reps K F H (T.map (·.1.2)) (T.map (·.2.1)) /\ L2.Vals (T.map (·.2.1)) (T.map (·.2.2))
 | [], _ => ⟨.nil, .nil⟩
 | t :: T, h => by
  obtain ⟨h1, h2⟩ := h t Qf
  obtain ⟨g1, g2⟩ := zJr fun u hu => h u (Qd _ hu)
  exact ⟨.cons h1 g1, .cons h2 g2⟩
theorem zEo : ∀ {T : List Tr} {v : Value} {k : List Int}, (T.map fun t => (t.2.2, t.1.1)).lookup v = some k -> ∃ t ∈ T, t.2.2 = v /\ t.1.1 = k
 | [], _, _, h => by cases h
 | t :: T, v, k, h => by
  rw [Ql, QN] at h
  cases e : v == t.2.2 with
  | true => rw [e] at h; cases h; exact ⟨t, Qf, (QZ e).symm, rfl⟩
  | false =>
   rw [e] at h
   obtain ⟨u, hu, h1, h2⟩ := zEo h
   exact ⟨u, Qd _ hu, h1, h2⟩
theorem zJn : ∀ {T : List Tr} {t : Tr}, t ∈ T -> ∃ k, (T.map fun t => (t.2.2, t.1.1)).lookup t.2.2 = some k := by
 intro T
 induction T with
 | nil => intro t h; cases h
 | cons u T ih =>
  intro t h
  rw [Ql, QN]
  cases e : t.2.2 == u.2.2 with
  | true => exact ⟨_, rfl⟩
  | false =>
   rcases Qh.mp h with z | z
   ·rw [z, beq_self_eq_true] at e; cases e
   ·exact ih z
theorem zJd {d0 : List D} {its : List Value} {ds : List D} {vs : List V} {l : List KD} {Q : VK} (hu : X.A.units + 66 < cLine) (I : L2.Inv X pins σ H s) (rv : L2.Vals vs its) (r : Reps X.K F H ds vs) (hk : zAY d0 ds = some l) (h64 : ds.length < 64)
  (k : ∀ p vs', H p = none -> Reps X.K F H ((zAU l).map (·.2)) vs' -> vs'.length <= 1000 -> Q (.ref p) (upd H p (.lst vs'))) : wpAny (model X.prog X.w) X.A.in1 (newList its >>= fun l => holding [l] (call (.builtin "list.sort") [l] []) >>= fun _ => ret l) (fun fin s' => ∃ v, fin = .done (.ret v) /\ EP X pins σ Q v s') X.xe s := by
 obtain ⟨em, hrow⟩ := zF2 hk
 obtain ⟨T, t1, t2, t3, t4⟩ := zJq (K := X.K) (F := F) (H := H) (l := l) (by rw [em]; exact r) rv
 have rowT : ∀ t ∈ T, rowK d0 t.1.2 = some t.1.1 := fun t ht => hrow t.1 (by rw [<- t1]; exact List.mem_map_of_mem ht)
 have l64 : its.length < 64 := by rw [<- rv.length, <- r.length]; exact h64
 have all : KeysOf (keyT (T.map fun t => (t.2.2, t.1.1))) (pairsOf its) := fun p hp => by
  rw [pairsOf_toList] at hp
  have : p.1 ∈ its := (List.of_mem_zip hp).1
  rw [<- t3] at this
  obtain ⟨t, ht, e⟩ := Qr.mp this
  rw [<- e]
  exact zJn ht
 have rd : ∀ t ∈ T, ∀ h' : Heap, (∀ b o, s.heap.get? b = some o -> h'.get? b = some o) -> ∃ as, Reads h' t.2.2 t.1.2 as := fun t ht h' hk' => by
  obtain ⟨y, ys, y1, _, y2⟩ := zCh (rowT t ht)
  obtain ⟨as, z⟩ := (t4 t ht).1.reads I (by rw [y1]; exact zE2 y2) (t4 t ht).2
  exact ⟨as, Reads.keeps hk' z⟩
 have same : ∀ t ∈ T, ∀ u ∈ T, t.2.2 = u.2.2 -> t.1.1 = u.1.1 := fun t ht u hu' e => by
  obtain ⟨as, z1⟩ := rd t ht s.heap fun _ _ q => q
  obtain ⟨bs, z2⟩ := rd u hu' s.heap fun _ _ q => q
  obtain ⟨x, xs, e1, _, f1⟩ := zCh (rowT t ht)
  rw [e] at z1
  have e2 : t.1.2 = u.1.2 := Reads.unique t.1.2 u.1.2 u.2.2 as bs (by rw [e1]; exact zE2 f1) z1 z2
  have h1 := rowT t ht
  have h2 := rowT u hu'
  rw [e2, h2] at h1
  exact (QJ h1).symm
 refine Qa (wpAny_newList ?_ (hsz := ?_))
 rotate_left
 ·exact zBc (by lia)
 show wpAny _ _ _ _ _ { s with heap := s.heap.push (seqObj "list" its.toArray 0) }
 have hL : (s.heap.push (seqObj "list" its.toArray 0)).get? s.heap.objs.size = some (seqObj "list" its.toArray 0) := Qx _ rfl
 have kp : ∀ h' : Heap, (∀ b o, b ≠ s.heap.objs.size -> (s.heap.push (seqObj "list" its.toArray 0)).get? b = some o -> h'.get? b = some o) -> ∀ b o, s.heap.get? b = some o -> h'.get? b = some o := fun h' hk' b o e =>
  hk' b o (Qq (Qk e)) (Qc _ e)
 refine Qa (Ya (Yj slot_list_sort ⟨_, hL, rfl⟩ entry_list_sort (zNT (κ := keyT (T.map fun t => (t.2.2, t.1.1))) (kd := tuples' (isInt (d0.headD .none))) hL all l64 (fun h' hk' h2 => ?_) (fun h' hk' => ?_) fun z' p1 p2 => ⟨_, rfl, Qb ⟨_, rfl, ?_⟩⟩) (args_list_sort _)))
 ·-- the kind of the keys
  refine zLz (s := { s with heap := h' }) (d := d0.headD .none) rfl (fun v hv => ?_) (fun e => by rw [e] at h2; simp at h2)
  rw [<- t3] at hv
  obtain ⟨t, ht, e⟩ := Qr.mp hv
  obtain ⟨x, xs, e1, l1, f1⟩ := zCh (rowT t ht)
  obtain ⟨as, z⟩ := rd t ht h' (kp h' hk')
  rw [e1] at z
  refine ⟨x, xs, as, by rw [<- e]; exact z, ?_⟩
  cases d0 with
  | nil => cases l1
  | cons y ys => exact (QH.mp l1).1
 ·-- what a comparison answers
  intro x y ka kb E' Q' h1 h2 hQ'
  obtain ⟨t, ht, e1, g1⟩ := zEo h1
  obtain ⟨u, hu', e2, g2⟩ := zEo h2
  obtain ⟨x1, xs1, e3, l1, f1⟩ := zCh (rowT t ht)
  obtain ⟨y1, ys1, e4, l2, f2⟩ := zCh (rowT u hu')
  obtain ⟨as, z1⟩ := rd t ht h' (kp h' hk')
  obtain ⟨bs, z2⟩ := rd u hu' h' (kp h' hk')
  rw [e3, e1] at z1
  rw [e4, e2] at z2
  rw [g1] at f1
  rw [g2] at f2
  cases z1 with
  | @tuple ax ox us n _ _ q1 q2 q3 q4 => cases z2 with
   | @tuple ay oy ws m _ _ w1 w2 w3 w4 =>
    have ll : us.size = ws.size := by
     have a1 := ReadsAll.length _ _ _ q4
     have a2 := ReadsAll.length _ _ _ w4
     have a3 : ∀ (p q : List D), zA7 p q = true -> p.length = q.length := by
      intro p
      induction p with
      | nil => intro q hq'; cases q with
       | nil => rfl
       | cons _ _ => cases hq'
      | cons p0 p ih => intro q hq'; cases q with
       | nil => cases hq'
       | cons q0 q => simp [ih q (QH.mp hq').2]
     have a4 := a3 _ _ (zDW l1 l2)
     rw [Qo] at a1 a2
     lia
    have ef : decide (us.size < ws.size) = false := by rw [ll]; simp
    refine PySem.W.kat_lt (s := { s with heap := h' }) q1 q3 w1 w3 ?_
    rw [ef]
    refine zIN (s := { s with heap := h' }) (show X.A.in1.in1.units + 64 < cLine by show X.A.units + 1 + 1 + 64 < cLine; lia) 0 (zDW l1 l2) f1 f2 q4 w4 (fun hb _ z r' ez => ?_) (fun e => ?_) fun _ => hQ'
    ·cases ez
     cases d0 with
     | nil => cases l1
     | cons y0 ys0 =>
      have l3 := (QH.mp l1).1
      cases y0 with
      | int n => cases x1 with
       | int m => exact ⟨m, rfl⟩
       | _ => cases l3
      | _ => cases hb
    ·have e5 : HT.lexLt ka kb = false := by rw [e]; exact zCE _
     have : (keyT (T.map fun t => (t.2.2, t.1.1))).blt ka kb = false := e5
     rw [this] at hQ'
     exact hQ'
 ·-- the list behind
  have pm : (((arrOf z').map (·.2)).toList).Perm its := by
   have h1 := Array.perm_iff_toList_perm.mp p1
   have h2 := h1.map (·.2)
   rw [pairsOf_toList] at h2
   rw [Array.toList_map]
   have h3 : (its.zip its).map (·.2) = its := by
    rw [List.map_snd_zip]
    exact Qj _
   rw [h3] at h2
   exact h2
  obtain ⟨T', q1, q2⟩ := zMZ pm.symm T t3
  have memT : ∀ t ∈ T', t ∈ T := fun t ht => q1.mem_iff.mp ht
  obtain ⟨g1, g2⟩ := zJr (K := X.K) (F := F) (H := H) (T := T') fun t ht => t4 t (memT t ht)
  have lT : T'.length = its.length := by rw [q1.length_eq, <- t3, Qg]
  have ord : (T'.map (·.1)).Pairwise Le := by
   rw [Q6, List.pairwise_iff_getElem]
   intro i j hi hj hij
   have sz' : (arrOf z').size = T'.length := by
    rw [p1.size_eq, Ju, lT]
   have key : ∀ m (hm : m < T'.length), KK (keyT (T.map fun t => (t.2.2, t.1.1))) (arrOf z') m = T'[m].1.1 := fun m hm => by
    have hm' : m < (arrOf z').size := by rw [sz']; exact hm
    have e1 : (arrOf z')[m]? = some (arrOf z')[m] := getElem?_pos _ m hm'
    have e2 : (arrOf z')[m] ∈ (pairsOf its).toList := (Array.perm_iff_toList_perm.mp p1).mem_iff.mp (by simp)
    rw [pairsOf_toList] at e2
    have e3 : (arrOf z')[m].1 = (arrOf z')[m].2 := by
     obtain ⟨n, hn, en⟩ := List.getElem_of_mem e2
     rw [List.getElem_zip] at en
     rw [<- en]
    have e4 : (arrOf z')[m].2 = T'[m].2.2 := by
     have := congrArg (fun (l : List Value) => l[m]?) q2
     simp only [QQ, Array.toList_map, QI, e1] at this
     rw [Qi hm] at this
     exact (QJ this).symm
    unfold KK
    rw [e1]
    show ((keyT (T.map fun t => (t.2.2, t.1.1))).keyOf (arrOf z')[m].1).getD [] = _
    rw [e3, e4]
    obtain ⟨kx, hkx⟩ := zJn (memT T'[m] (Yz hm))
    obtain ⟨t, ht, e5, e6⟩ := zEo hkx
    show ((T.map fun t => (t.2.2, t.1.1)).lookup T'[m].2.2).getD [] = _
    rw [hkx]
    show kx = _
    rw [<- e6]
    exact same t ht _ (memT _ (Yz hm)) e5
   have := p2 i j (Yv hij) (by rw [Ju, <- lT]; exact hj)
   rw [key i hi, key j hj] at this
   exact this
  have uni : T'.map (·.1) = zAU l := by
   refine zGc (((q1.map (·.1)).trans (.of_eq t1)).trans (zCN l).symm) ord (zDw l) fun p hp q hq' e => ?_
   obtain ⟨t, ht, rfl⟩ := Qr.mp hp
   obtain ⟨u, hu', rfl⟩ := Qr.mp hq'
   have h1 := rowT t (memT t ht)
   have h2 := rowT u (memT u hu')
   rw [e] at h1
   exact Jn e (zBK h1 h2)
  have eD : (zAU l).map (·.2) = T'.map (·.1.2) := by rw [<- uni, QV]; rfl
  have fresh : H s.heap.objs.size = none := I.hok.fresh (Qj _)
  obtain ⟨ep, hat⟩ := sortedHeap_at (out := (arrOf z').map (·.2)) hL
  have old : ∀ b o, s.heap.get? b = some o -> (sortedHeap (s.heap.push (seqObj "list" its.toArray 0)) s.heap.objs.size its ((arrOf z').map (·.2))).get? b = some o := fun b o e => by
   have lt := Qk e
   rw [sortedHeap_old (Qq lt) (by rw [size_push']; exact YC lt)]
   exact Qc _ e
  have lv : (T'.map (·.2.1)).length <= 1000 := by rw [Qg, lT]; lia
  refine ⟨.ref s.heap.objs.size, _, I.laid (t' := s.toks) (o := .lst (T'.map (·.2.1))) old (Qj _) ?_, rfl, k _ _ fresh (by rw [eD]; exact g1) lv⟩
  refine ⟨zBc lv, T'.map (·.2.2), ep, g2, ?_⟩
  rw [hat, q2]
theorem zDx {d0 : List D} {a : Addr} {ds : List D} {vs : List V} {l : List KD} {Q : VK} (hu : X.A.units + 66 < cLine) (I : L2.Inv X pins σ H s) (hq : SqL X.K H a vs) (r : Reps X.K F H ds vs) (hk : zAY d0 ds = some l) (h64 : ds.length < 64)
  (k : ∀ p vs', H p = none -> Reps X.K F H ((zAU l).map (·.2)) vs' -> vs'.length <= 1000 -> Q (.ref p) (upd H p (.lst vs'))) : wpAny (model X.prog X.w) X.A (call (.builtin "sorted") [.ref a]) (EP X pins σ Q) X.xe s := by
 obtain ⟨its, rv, pl, hz⟩ := I.list hq
 refine Calls.call_function_entry kind_sorted plain_sorted entry_sorted (args_sorted1 _) ?_
 unfold Builtin.«sorted»
 refine Qa (m := checkCount "sorted" 1 1 _) (Qb (Qa (collect_list pl.isList ?_ (hsz := ?_))))
 ·refine zJd hu (I.kept (h' := (s.heap.push (seqObj "list" #[] 0)).update s.heap.objs.size (Obj.mapSeq (· ++ its.toArray))) (t' := s.toks) fun b o e => ?_) rv r hk h64 k
  rw [Heap.get?_update_ne _ _ _ _ (Qq (Qk e))]
  exact Qc _ e
 ·rw [<- rv.length]; exact hz
end
end SD
namespace DL
open PySem PySem.Spec PyProof.Rows L2 SD
theorem zGO {X : Cx} (hu : X.A.units + 66 < cLine) : zAR X (.builtin "sorted") (rDA X.K zBE) := fun pins s σ H xs us Q I rx zz => by
 obtain ⟨F, ds, q, z, R, hq, k⟩ := zz
 unfold zBE at hq
 split at hq
 ·cases hq
  cases R with
  | cons R1 R2 =>
   cases R2
   cases R1 with
   | @lst a vs _ h1 r1 =>
    obtain ⟨u, rfl, ru⟩ := zBN rx
    cases ru
    exact zDx (d0 := []) (l := []) hu I h1.sq r1 rfl (by simp) fun p vs' hp r' _ => k _ _ _ (Ext.frozen hp) (Rep.newLst hp r')
 ·rename_i d0 ds'
  by_cases c : ds'.length < 63
  ·rw [if_pos c] at hq
   obtain ⟨l, e1, hq⟩ := bnd hq
   cases hq
   cases R with
   | cons R1 R2 =>
    cases R2
    cases R1 with
    | @lst a vs _ h1 r1 =>
     obtain ⟨u, rfl, ru⟩ := zBN rx
     cases ru
     exact zDx (d0 := d0) hu I h1.sq r1 e1 (by simp; lia) fun p vs' hp r' _ => k _ _ _ (Ext.frozen hp) (Rep.newLst hp r')
  ·rw [if_neg c] at hq; cases hq
 ·cases hq
end DL
namespace ZL
open PySem PySem.Spec PyProof.Rows L2 DL
noncomputable def Itz (K : PySem.W.Frag) (a b : Addr) : It :=
 ⟨fun i H => ∃ xs ys x y, SqL K H a xs /\ SqL K H b ys /\ xs[i]? = some x /\ ys[i]? = some y,
  fun i H v H' => ∃ p, H p = none /\ v = .ref p /\ ∃ x y, H' = upd H p (.tup [x, y]) /\ (∀ xs, SqL K H a xs -> xs[i]? = some x) /\ ∀ ys, SqL K H b ys -> ys[i]? = some y,
  fun i H => ∃ xs ys, SqL K H a xs /\ SqL K H b ys /\ (xs.length <= i ∨ ys.length <= i)⟩
theorem zEs {X : Cx} {pins : List (Addr × Obj)} {σ : L2.St} {H H' : Hp} {s : Shared} {ch : List Addr} {h' : Heap} {tk : Nat} (I : L2.Inv X pins σ H s) (hf : ∀ b ∈ ch, FpOk X pins H b) (k : ∀ b o, b ∉ ch -> s.heap.get? b = some o -> h'.get? b = some o)
  (hH : ∀ b o, s.heap.get? b = some o -> H' b = H b) (hS : ∀ b o, H b = some o -> H' b = some o) (hok : HOk X.prog X.w H' h') : L2.Inv X pins σ H' { s with heap := h', toks := tk } := by
 refine I.step (g' := s.gens) (d' := s.drawn) (ch := ch) (fun b hb => ?_) (fun b o _ _ hc e _ => k b o hc e) (fun b o _ _ hc e _ => ⟨o.slots, k b o hc e⟩) (fun b o _ e n => by rw [hH b o e]; exact n)
  (fun b o hc e => ⟨o, k b o hc e⟩) (fun b xs e => hS _ _ e) (fun b o u e => hS _ _ e) (fun b ps e => ⟨#[], by rw [hS _ _ e]; simp⟩) (fun m hm => ?_) hok I.bare
 ·obtain ⟨_, f1, _, f3, f4, f5⟩ := hf b hb
  exact ⟨f3, f1, f4, f5⟩
 ·obtain ⟨o, es, ep, ho, r⟩ := hm
  exact ⟨o, es, ep, k _ o (fun z => (hf _ z).2.1 rfl) ho, r⟩
theorem zOe {P : Program} {w : World} {K : PySem.W.Frag} {elts : List Expr} {x1} {tpos : Pos} (a b z TI TO i1 i2 : Addr) (D : ZipApart z TI TO i1 i2 a b) :
  Turn P w K (.Tuple elts x1 tpos) (Itz K a b) [z, TI, TO, i1, i2] z (fun i h => IsZip h z TI TO .none /\ IsPair h TI (.ref i1) (.ref i2) /\ (∃ u v, IsPair h TO u v) /\ h.IsListIter i1 a i /\ h.IsListIter i2 b i) where
 mem := by simp
 obj := fun i h st c hc => by
  obtain ⟨h1, h2, ⟨u, v, h3⟩, ⟨o4, e4, _, d4⟩, ⟨o5, e5, _, d5⟩⟩ := st
  rcases Qh.mp hc with rfl | hc
  ·exact ⟨_, h1, fun v z => by have z' : Data.fields _ = Data.cell v := z; cases z'⟩
  rcases Qh.mp hc with rfl | hc
  ·exact ⟨_, h2, fun v z => by have z' : Data.seq _ _ = Data.cell v := z; cases z'⟩
  rcases Qh.mp hc with rfl | hc
  ·exact ⟨_, h3, fun v z => by have z' : Data.seq _ _ = Data.cell v := z; cases z'⟩
  rcases Qh.mp hc with rfl | hc
  ·exact ⟨o4, e4, fun v z => by rw [d4] at z; cases z⟩
  rcases Qh.mp hc with rfl | hc
  ·exact ⟨o5, e5, fun v z => by rw [d5] at z; cases z⟩
  cases hc
 keep := fun i h h' st k => by
  obtain ⟨h1, h2, ⟨u, v, h3⟩, h4, h5⟩ := st
  exact ⟨k z (by simp) _ h1, k TI (by simp) _ h2, ⟨u, v, k TO (by simp) _ h3⟩, h4.at fun o e => k i1 (by simp) o e, h5.at fun o e => k i2 (by simp) o e⟩
 item := by
  intro X hP hw hK hc i pins s σ H E I hf st hg
  subst hP hw hK
  obtain ⟨xs, ys, x, y, ha, hb, hx, hy⟩ := hg
  obtain ⟨h1, h2, ⟨u, v, h3⟩, h4, h5⟩ := st
  obtain ⟨its, rv, pl, _⟩ := I.list ha
  obtain ⟨jts, rw', pl2, _⟩ := I.list hb
  obtain ⟨xu, ex, rx⟩ := rv.get hx
  obtain ⟨yu, ey, ry⟩ := rw'.get hy
  refine wpAny_pyNext_zip_item D h1 h2 h3 h4 h5 pl.isList pl2.isList (x := xu) (y := yu) (by simpa using ex) (by simpa using ey) fun h' a1 a2 a3 a4 a5 a6 hk => ⟨_, rfl, ?_⟩
  refine wpAny_letOwnedTupleGo_zip (s := { s with heap := h' }) a1 fun h'' z1 sb => ?_
  have up : ∀ c o, c ≠ z -> h'.get? c = some o -> h''.get? c = some o := fun c o nc e => sb.extBut c o nc e
  have hn : H s.heap.objs.size = none := I.hok.fresh (Qj _)
  have old : ∀ c o, s.heap.get? c = some o -> c ≠ s.heap.objs.size := fun c o e => Qq (Qk e)
  have zT : s.heap.objs.size ≠ z := (old z _ h1).symm
  have kk : ∀ c o, c ∉ [z, TI, TO, i1, i2] -> s.heap.get? c = some o -> h''.get? c = some o := fun c o nc e =>
   up c o (fun q => nc (by simp [q])) (hk c o (fun q => nc (by simp [q])) (fun q => nc (by simp [q])) (fun q => nc (by simp [q])) (fun q => nc (by simp [q])) e)
  have nfp : ∀ c o, H c = some o -> c ∉ [z, TI, TO, i1, i2] := fun c o e hc' => by
   have := (hf c hc').1
   rw [this] at e; cases e
  have t2 : IsPair h'' TI (.ref i1) (.ref i2) := up _ _ D.TIz (hk _ _ D.TIz D.TITO D.TIi1 D.TIi2 h2)
  have t3 : IsPair h'' TO xu yu := up _ _ D.TOz a2
  have t4 : h''.IsListIter i1 a (i + 1) := a3.at fun o e => up _ o D.i1z e
  have t5 : h''.IsListIter i2 b (i + 1) := a4.at fun o e => up _ o D.i2z e
  have hok : HOk X.prog X.w (upd H s.heap.objs.size (.tup [x, y])) h'' := fun c o e => by
   by_cases hcT : c = s.heap.objs.size
   ·subst hcT
    rw [zAC] at e; cases e
    exact ⟨zBc (by simp), [xu, yu], .cons rx (.cons ry .nil), ⟨_, up _ _ zT a5, rfl, 0, rfl⟩⟩
   ·rw [zAg hcT] at e
    refine (I.hok c o e).stay (fun d v hd q => kk d v ?_ q) (fun d q => by rw [zAg (zBd q hn)]; exact q) fun d xs q => by rw [zAg (zBd q hn)]; exact q
    rcases hd with rfl | hd
    ·exact nfp _ _ e
    ·exact nfp _ _ hd
  refine ⟨.ref s.heap.objs.size, _, zEs (s := s) (h' := h'') (tk := s.toks) I hf kk (fun c o e => zAg (old c o e)) (fun c o e => by rw [zAg (zBd e hn)]; exact e) hok, rfl, ⟨_, hn, rfl, x, y, rfl, fun xs' h' => by rw [I.list_inj h' ha]; exact hx, fun ys' h' => by rw [I.list_inj h' hb]; exact hy⟩, ⟨z1, t2, ⟨_, _, t3⟩, t4, t5⟩, fun c hc' => ?_⟩
  ·have e := (hf c hc').1
   have nT : c ≠ s.heap.objs.size := by
    rcases Qh.mp hc' with rfl | hc'
    ·exact old _ _ h1
    rcases Qh.mp hc' with rfl | hc'
    ·exact old _ _ h2
    rcases Qh.mp hc' with rfl | hc'
    ·exact old _ _ h3
    rcases Qh.mp hc' with rfl | hc'
    ·obtain ⟨_, e', _⟩ := h4; exact old _ _ e'
    rcases Qh.mp hc' with rfl | hc'
    ·obtain ⟨_, e', _⟩ := h5; exact old _ _ e'
    cases hc'
   rw [zAg nT]; exact e
 done := by
  intro X hP hw hK hc i pins s σ H E I hf st hg
  subst hP hw hK
  obtain ⟨xs, ys, ha, hb, hend⟩ := hg
  obtain ⟨h1, h2, ⟨u, v, h3⟩, h4, h5⟩ := st
  obtain ⟨its, rv, pl, _⟩ := I.list ha
  obtain ⟨jts, rw', pl2, _⟩ := I.list hb
  have l1 := rv.length
  have l2 := rw'.length
  refine wpAny_pyNext_zip_end (I.ok.hd hc) D h1 h2 h3 h4 h5 pl.isList pl2.isList (by
   rcases hend with hend | hend
   ·left; simp; lia
   ·right; simp; lia) fun h' hk => ⟨rfl, ?_⟩
  have kk : ∀ c o, c ∉ [z, TI, TO, i1, i2] -> s.heap.get? c = some o -> h'.get? c = some o := fun c o nc e =>
   hk c o (fun q => nc (by simp [q])) (fun q => nc (by simp [q])) (fun q => nc (by simp [q])) (fun q => nc (by simp [q])) e
  have nfp : ∀ c o, H c = some o -> c ∉ [z, TI, TO, i1, i2] := fun c o e hc' => by
   have := (hf c hc').1
   rw [this] at e; cases e
  refine zEs (s := s) (h' := h') (tk := s.toks) I hf kk (fun _ _ _ => rfl) (fun _ _ e => e) fun c o e => ?_
  refine (I.hok c o e).stay (fun d v hd q => kk d v ?_ q) (fun d q => q) fun d xs q => q
  rcases hd with rfl | hd
  ·exact nfp _ _ e
  ·exact nfp _ _ hd
 self := fun _ _ _ _ _ st h => wpAny_pyIter_zip st.1 h
theorem nne {x y : Nat} (h : x ≠ y) : @Ne Addr x y := h
theorem zOo {n a b : Nat} (la : a < n) (lb : b < n) : ZipApart (n + 4) (n + 2) (n + 3) n (n + 1) a b :=
 ⟨nne (by lia), nne (by lia), nne (by lia), nne (by lia), nne (by lia), nne (by lia), nne (by lia), nne (by lia), nne (by lia), nne (by lia), nne (by lia), nne (by lia), nne (by lia), nne (by lia), nne (by lia), nne (by lia), nne (by lia), nne (by lia)⟩
noncomputable def iZip (K : PySem.W.Frag) (ta : TA) : TI := fun σ H R => ta σ H fun vs H1 => ∃ a b, vs = [.ref a, .ref b] /\ (∃ xs, SqL K H1 a xs) /\ (∃ ys, SqL K H1 b ys) /\ R (Itz K a b) H1
theorem zM6 {X : Cx} {elts : List Expr} {x1} {tpos : Pos} {a b : Expr} {ta : TA} {p pos : Pos} (hg : Gl X "zip") (hm : X.mg "zip" = none) (ha : PA X [a, b] ta) (hs : starEach [a, b] X.env = [(false, eval a X.env), (false, eval b X.env)] := by rfl) (hs2 : starEach [b] X.env = [(false, eval b X.env)] := by rfl) :
  PI X (.Tuple elts x1 tpos) (.Call (.Name "zip" p) [a, b] [] pos) (iZip X.K ta) := by
 intro pins s σ H R I h
 refine Call_ (zBU I hg hm boot_zip (YA (thn (ha pos pins s σ H _ I h) fun us s1 ⟨vs, H1, I1, r1, q1⟩ => ?_) (by rw [hs, hs2]) (by rw [hs2]; rfl)))
 obtain ⟨a', b', e, ⟨xs, hx⟩, ⟨ys, hy⟩, q⟩ := q1
 subst e
 cases r1 with
 | cons r rr =>
  cases rr with
  | cons r' rr =>
   cases rr
   cases r
   cases r'
   obtain ⟨its, rv, pl, _⟩ := I1.list hx
   obtain ⟨jts, rw', pl2, _⟩ := I1.list hy
   refine call_zip_2 pl.isList pl2.isList fun h' a1 a2 a3 a4 a5 a6 hk => ?_
   have I2 : L2.Inv X pins σ H1 { s1 with heap := h' } := I1.kept (t' := s1.toks) hk
   refine wpAny_pyIter_zip (s := { s1 with heap := h' }) a1 ?_
   have la : a' < s1.heap.objs.size := by obtain ⟨_, e, _⟩ := pl.isList; exact Qk e
   have lb : b' < s1.heap.objs.size := by obtain ⟨_, e, _⟩ := pl2.isList; exact Qk e
   refine ⟨_, [s1.heap.objs.size + 4, s1.heap.objs.size + 2, s1.heap.objs.size + 3, s1.heap.objs.size, s1.heap.objs.size + 1], _, _, H1, rfl, I2, zOe a' b' (s1.heap.objs.size + 4) (s1.heap.objs.size + 2) (s1.heap.objs.size + 3) s1.heap.objs.size (s1.heap.objs.size + 1) (zOo la lb), ⟨a1, a2, ⟨_, _, a3⟩, a4, a5⟩, fun c hc => ?_, q⟩
   have lc : s1.heap.objs.size <= c := by
    rcases Qh.mp hc with rfl | hc
    ·exact Yk _ _
    rcases Qh.mp hc with rfl | hc
    ·exact Yk _ _
    rcases Qh.mp hc with rfl | hc
    ·exact Yk _ _
    rcases Qh.mp hc with rfl | hc
    ·exact Qj _
    rcases Qh.mp hc with rfl | hc
    ·exact Yk _ _
    cases hc
   exact I1.fpOk lc (I1.hok.fresh lc)
end ZL
namespace DL
open PySem PySem.Spec PyProof.Rows L2 ZL
noncomputable def zipD : List D -> Option (List D)
 | [.list xs, .list ys] => some (List.zipWith (fun x y => .tuple [x, y]) xs ys)
 | _ => none
theorem zLm {K : PySem.W.Frag} {F : Addr -> Prop} {H : Hp} {a b : Addr} {vs us : List V} {ds es : List D} (h1 : FzL K F H a vs) (r1 : Reps K F H ds vs) (h2 : FzL K F H b us) (r2 : Reps K F H es us) : ItD K F H (List.zipWith (fun x y => .tuple [x, y]) ds es) (Itz K a b) := fun F2 H2 T z i => by
 have g1 := h1.stay T
 have g2 := h2.stay T
 have s1 := r1.stay T
 have s2 := r2.stay T
 refine ⟨fun d hd => ?_, fun hl => ⟨vs, us, g1.sq, g2.sq, ?_⟩⟩
 ·rw [List.getElem?_zipWith] at hd
  cases e1 : ds[i]? with
  | none => rw [e1] at hd; cases hd
  | some x =>
   cases e2 : es[i]? with
   | none => rw [e1, e2] at hd; cases hd
   | some y =>
    rw [e1, e2] at hd
    cases hd
    obtain ⟨v, e3, R1⟩ := s1.get e1
    obtain ⟨u, e4, R2⟩ := s2.get e2
    refine ⟨⟨vs, us, v, u, g1.sq, g2.sq, e3, e4⟩, fun w H3 yy => ?_⟩
    obtain ⟨p, hp, rfl, x', y', rfl, q1, q2⟩ := yy
    have q3 := q1 vs g1.sq
    have q4 := q2 us g2.sq
    rw [e3] at q3; cases q3
    rw [e4] at q4; cases q4
    exact ⟨F2, Ext.fresh hp, Rep.newTup hp (.cons R1 (.cons R2 .nil))⟩
 ·rw [List.length_zipWith] at hl
  rw [<- s1.length, <- s2.length]
  lia
theorem zKC {X : Cx} {elts : List Expr} {x1} {tpos : Pos} {a b : Expr} {gr : Rho -> Option (List D)} {p pos : Pos} (hg : Gl X "zip") (hm : X.mg "zip" = none) (ha : DA X [a, b] gr) (hs : starEach [a, b] X.env = [(false, eval a X.env), (false, eval b X.env)] := by rfl) (hs2 : starEach [b] X.env = [(false, eval b X.env)] := by rfl) :
  DI X (.Tuple elts x1 tpos) (.Call (.Name "zip" p) [a, b] [] pos) (fun ρ => (gr ρ).bind zipD) :=
 zFR (zM6 hg hm ha hs hs2) fun σ H R zz => by
  obtain ⟨F, H₀, ρ, ds, S, q, k⟩ := zz
  obtain ⟨xs, e1, q⟩ := bnd q
  unfold zipD at q
  split at q
  ·cases q
   refine ⟨F, H₀, ρ, _, S, e1, fun F1 H1 vs E1 R1 => ?_⟩
   cases R1 with
   | cons r rs =>
    cases r with
    | @lst a' vs' _ h1 r1 =>
     cases rs with
     | cons r rs =>
      cases r with
      | @lst b' us' _ h2 r2 =>
       cases rs
       exact ⟨a', b', rfl, ⟨_, h1.sq⟩, ⟨_, h2.sq⟩, k F1 H1 _ E1 (zLm h1 r1 h2 r2)⟩
  ·cases q
end DL
namespace DL
open PySem PySem.Spec PySem.SeqAt PyProof.Rows L2 CL SD ZL
noncomputable def cutD (xs : List D) (lo hi : Option Int) : List D := (xs.drop (HT.sIx xs.length 0 lo)).take (HT.sIx xs.length xs.length hi - HT.sIx xs.length 0 lo)
noncomputable def tDO (K : PySem.W.Frag) (g : Rho -> Option (Option Int)) : TO := fun σ H Q => TDx K σ H g fun F o => ∀ F' H', Ext F F' H H' -> Q o H'
noncomputable def DO (X : Cx) (e : Option Expr) (g : Rho -> Option (Option Int)) : Prop := PO X e (tDO X.K g)
noncomputable def oNo : Rho -> Option (Option Int) := fun _ => some none
noncomputable def oE (g : Rho -> Option D) : Rho -> Option (Option Int) := fun ρ => (g ρ).bind fun d => (asI d).bind fun i => some (some i)
section
variable {X : Cx} {a b e : Expr} {ga : Rho -> Option D} {pos p p2 : Pos} {lo hi : Option Expr} {gl gh : Rho -> Option (Option Int)}
theorem zIE {o : Option Expr} {t t' : TO} (h : PO X o t) (m : ∀ σ H Q, t' σ H Q -> t σ H Q) : PO X o t' := fun pins s σ H Q I q => h pins s σ H Q I (m σ H Q q)
theorem zEP : DO X none oNo := zIE zNb fun σ H Q zz => by
 obtain ⟨F, H₀, ρ, o, S, q, k⟩ := zz
 cases q
 exact k F H (Ext.refl F H)
theorem zEQ (h : DE X e ga) : DO X (some e) (oE ga) := zIE (zNc h) fun σ H Q zz => by
 obtain ⟨F, H₀, ρ, o, S, q, k⟩ := zz
 obtain ⟨d, e1, q⟩ := bnd q
 obtain ⟨i, e2, q⟩ := bnd q
 cases q
 exact ⟨F, H₀, ρ, d, S, e1, fun F1 H1 v E1 R1 => ⟨i, zNz R1 e2, k F1 H1 E1⟩⟩
theorem Reps.cut {K : PySem.W.Frag} {F : Addr -> Prop} {H : Hp} {ds : List D} {vs : List V} (r : Reps K F H ds vs) (lo hi : Option Int) : Reps K F H (cutD ds lo hi) (cutV vs lo hi) := by
 unfold cutD cutV
 rw [r.length]
 exact (r.drop _).take _
noncomputable def tyD : D -> String
 | .none => "NoneType"
 | .bool _ => "bool"
 | .int _ => "int"
 | .str _ => "str"
 | .list _ => "list"
 | .tuple _ => "tuple"
 | .dict _ => "dict"
noncomputable def isD (T : String) (d : D) : Bool := tyD d == T || (T == "int" && tyD d == "bool")
noncomputable def zFy : D -> Bool
 | .dict _ => true
 | _ => false
noncomputable def eIs (T : String) (ga : Rho -> Option D) : Rho -> Option D := fun ρ => (ga ρ).bind fun d => if zFy d = true then none else some (.bool (isD T d))
theorem zLA (K : PySem.W.Frag) (T : String) (hT : T = "list" ∨ T = "tuple" ∨ T = "int" ∨ T = "bool" ∨ T = "str" ∨ T = "dict") (d : D) : PySem.W.kitOne K (.type (tyD d)) (.type T) = some (isD T d) := by
 rcases hT with rfl | rfl | rfl | rfl | rfl | rfl <;> cases d <;> (first | rfl | (unfold PySem.W.kitOne; with_unfolding_all rfl) | decide +kernel)
theorem zJV {T : String} (hT : T = "list" ∨ T = "tuple" ∨ T = "int" ∨ T = "bool" ∨ T = "str" ∨ T = "dict") : zAR X (.builtin "isinstance") (fun xs H Q => ∃ (F : Addr -> Prop) (d : D) (x : V), Rep X.K F H d x /\ zFy d = false /\ xs = [x, .ty T] /\ Q (.bl (isD T d)) H) := by
 intro pins s σ H xs us Q I rv h
 obtain ⟨F, d, x, R, nd, rfl, q⟩ := h
 obtain ⟨u, u2, rfl, ru, r2⟩ := vals2 rv
 cases (show u2 = Value.type T from r2)
 have ok := zLA X.K T hT d
 have fin : ∀ tk, EP X pins σ Q (.bool (isD T d)) { s with toks := tk } := fun tk => ⟨.bl _, H, I.tok tk, rfl, q⟩
 cases R with
 | non => cases (show u = Value.none from ru); exact PySem.W.kia_one PySem.W.kitx_none I.kIn True.intro ok (fun z => nomatch z) fin
 | dct _ _ _ _ _ => cases nd
 | exn _ _ _ => cases nd
 | bl b => cases (show u = Value.bool b from ru); exact PySem.W.kia_one PySem.W.kitx_bool I.kIn True.intro ok (fun z => nomatch z) fin
 | int i => obtain ⟨t, e⟩ := (show ∃ t, u = Value.int i t from ru); cases e; exact PySem.W.kia_one PySem.W.kitx_int I.kIn True.intro ok (fun z => nomatch z) fin
 | str y => obtain ⟨t, e⟩ := (show ∃ t, u = Value.str y t from ru); cases e; exact PySem.W.kia_one PySem.W.kitx_str I.kIn True.intro ok (fun z => nomatch z) fin
 | @tup a vs ds h1 r1 =>
  cases (show u = Value.ref a from ru)
  obtain ⟨its, _, ⟨o, g1, g2, _⟩, _⟩ := I.tuple h1
  exact PySem.W.kia_one PySem.W.kitx_tuple I.kIn ⟨o, g1, g2⟩ ok (fun z => nomatch z) fin
 | @lst a vs ds h1 r1 =>
  cases (show u = Value.ref a from ru)
  obtain ⟨its, _, ⟨o, n, g1, g2, _⟩, _⟩ := I.list h1.sq
  exact PySem.W.kia_one PySem.W.kitx_list I.kIn ⟨o, g1, g2⟩ ok (fun z => nomatch z) fin
theorem zJQ : bootBuiltins "isinstance" = some (.builtin "isinstance") := by decide +kernel
theorem zEI {T : String} {Tn : Str} {p' : Pos} (hT : T = "list" ∨ T = "tuple" ∨ T = "int" ∨ T = "bool" ∨ T = "str" ∨ T = "dict") (hg : Gl X "isinstance") (hm : X.mg "isinstance" = none) (hgT : Gl X Tn) (hmT : X.mg Tn = none) (hvT : bootBuiltins Tn = some (.type T)) (hn : Tn ≠ "__name__") (ha : DE X e ga)
  (hs : starEach [e, .Name Tn p'] X.env = (false, eval e X.env) :: starEach [.Name Tn p'] X.env := by rfl) (hs2 : starEach [.Name Tn p'] X.env = (false, eval (.Name Tn p') X.env) :: starEach [] X.env := by rfl) (hdb : (Tn == ("__debug__" : Str)) = false := by decide)
  (hpl : (backTo pos (starEach [.Name Tn p'] X.env)).any (·.1) = false := by rfl) : DE X (.Call (.Name "isinstance" p) [e, .Name Tn p'] [] pos) (eIs T ga) :=
 zAQ (zIx (zJV hT) hg hm zJQ (zBx ha (zBx (zMJ (v := .ty T) hgT hmT hvT rfl hn hdb) zBX hs2) hs) (he := hs) (hpl := hpl)) fun σ H Q zz => by
  obtain ⟨F, H₀, ρ, d, S, q, k⟩ := zz
  obtain ⟨x, e1, q⟩ := bnd q
  by_cases c : zFy x = true
  ·rw [if_pos c] at q; cases q
  ·rw [if_neg c] at q
   cases q
   exact ⟨F, H₀, ρ, x, S, e1, fun F1 H1 v E1 R1 => ⟨F1, x, v, R1, by simpa using c, rfl, k F1 H1 _ E1 (.bl _)⟩⟩
end
noncomputable def zEA (osc : Scope) (oN N' : List Str) (scope : Scope) (inner : List (Option Nat)) : Bool :=
 scope.kind == .function && scope.names.all (fun x => x.2 != .cell) && scope.names.all (fun x => x.2 != .local || scope.names.lookup x.1 == some .local) &&
 scope.names.all (fun x => x.2 != .free || (scope.names.lookup x.1 == some .free && (osc.names.lookup x.1 == some .cell || osc.names.lookup x.1 == some .free))) && inner.length == N'.length &&
 (List.range inner.length).all fun i => match inner[i]? with
  | some (some j) => match N'[i]? with
   | some x => oN[j]? == some x && scope.names.lookup x == some .free
   | none => false
  | _ => true
theorem zAS {X : Cx} {N' : List Str} {scope : Scope} {inner : List (Option Nat)} (osc : Scope) (oN : List Str) (h1 : X.env.scope = osc) (h2 : X.N = oN) (h : zEA osc oN N' scope inner = true) : zBB X N' scope inner := by
 unfold zEA at h
 simp only [Qw] at h
 obtain ⟨⟨⟨⟨⟨a1, a2⟩, a3⟩, a4⟩, a5⟩, a6⟩ := h
 refine ⟨QZ a1, fun x hx e => ?_, fun x hx e => ?_, fun x hx e => ?_, QZ a5, fun i j e => ?_⟩
 ·have := QF.mp a2 x hx
  rw [e] at this; cases this
 ·have := QF.mp a3 x hx
  rw [e] at this
  rcases YE.mp this with z | z
  ·cases z
  ·exact QZ z
 ·have := QF.mp a4 x hx
  rw [e] at this
  rcases YE.mp this with z | z
  ·cases z
  ·obtain ⟨z1, z2⟩ := QH.mp z
   refine ⟨QZ z1, ?_⟩
   rw [h1]
   rcases YE.mp z2 with z | z
   ·exact .inl (QZ z)
   ·exact .inr (QZ z)
 ·have hi : i < inner.length := (Qe.mp e).1
  have := QF.mp a6 i (QL.mpr hi)
  rw [e] at this
  dsimp only at this
  split at this
  ·rename_i x e2
   obtain ⟨z1, z2⟩ := QH.mp this
   exact ⟨x, e2, by rw [h2]; exact QZ z1, QZ z2⟩
  ·cases this
theorem u64 {k : Nat} {A : Around} (r : Room k A) : A.units + 64 < cLine := by have := r.un; lia
theorem u65 {k : Nat} {A : Around} (r : Room k A) : A.units + 65 < cLine := by have := r.un; lia
theorem u66 {k : Nat} {A : Around} (r : Room k A) : A.units + 66 < cLine := by have := r.un; lia
noncomputable def zEl (K : PySem.W.Frag) (G : List D -> Option D) : Sp := fun vs H Q E => ∃ (a : Addr) (ns : List Int), vs = [.ref a] /\ SqL K H a (ns.map V.int) /\ ns.length <= 63 /\ ∀ H', Q (.bl true) H'
theorem zDP {K : PySem.W.Frag} {F : Addr -> Prop} {H : Hp} : ∀ ns : List Int, Reps K F H (ns.map PyData.int) (ns.map V.int)
 | [] => .nil
 | n :: ns => .cons (.int n) (zDP ns)
theorem law_D {P : Program} {w : World} {K : PySem.W.Frag} {mg : Str -> Option Value} {base : Heap} {CX : CXT} {k : Nat} {f : Addr} {fd : FuncData} {ps : List Str} {G : List D -> Option D} (F : FnOk P w K mg base CX k f fd ps (spD K 1 G))
  (h : ∀ ns : List Int, ns.length <= 63 -> G [.list (ns.map PyData.int)] = some (.bool true)) : FnOk P w K mg base CX k f fd ps (zEl K G) :=
 F.imp fun vs H Q E zz => by
  obtain ⟨a, ns, e, hq, hl, q⟩ := zz
  subst e
  refine ⟨fun b => H b ≠ none, [.list (ns.map PyData.int)], .bool true, rfl, fun _ z => z, .cons ?_ .nil, h ns hl, fun F' H' v E' R' => ?_⟩
  ·rcases hq with hq | hq
   ·refine .lst (.inl ⟨?_, hq⟩) (zDP ns)
    rcases hq with hq | ⟨o, hq⟩ <;> (rw [hq]; simp)
   ·exact .lst (.inr (.inr hq)) (zDP ns)
  ·cases R'
   exact q H'
theorem zAz {P : Program} {w : World} {K : PySem.W.Frag} {mg : Str -> Option Value} {base : Heap} {x qual : Str} {st : Stmt} {f : Addr} {fd : FuncData} {N ps : List Str} {k n m : Nat} {g : Rho -> Option Out} {G : List D -> Option D} (hG : G = fnD m g) (hn : ps.length = n) (hm : N.length = m) (F : Fun K x qual st f fd) (S : zAq N ps (zAh st))
  (hb : ∀ (cdv : Value) (A : Around) (outer : List Env) (s : Shared) (H : Hp) (E : XK), Room k (A.deeper (envOfC qual (zAh st) s.heap.objs.size f cdv)) ->
   DSs (cxOf CX0 P w K mg base N qual (zAh st) f cdv A outer s H E).nox (zA0 st) g) : FnOk P w K mg base CX0 (k + 1) f fd ps (spD K n G) := by
 subst hn hm hG
 exact fn_D F S hb
end DL
namespace ST
open PySem PySem.SetTable
noncomputable def fI (M i : Nat) : Nat := (i * 5 + 1) % (M + 1)
noncomputable def itN (M : Nat) : Nat -> Nat -> Nat
 | 0, i => i
 | n + 1, i => itN M n (fI M i)
theorem zDc (M : Nat) : ∀ a b i, itN M (a + b) i = itN M b (itN M a i)
 | 0, b, i => by rw [Jt]; rfl
 | a + 1, b, i => by rw [Nat.succ_add]; exact zDc M a b (fI M i)
noncomputable def logs : Nat -> List Nat
 | 7 => [0, 1, 6, 7, 4, 5, 2, 3]
 | 15 => [0, 1, 6, 15, 12, 13, 2, 11, 8, 9, 14, 7, 4, 5, 10, 3]
 | 31 => [0, 1, 6, 15, 28, 13, 2, 27, 24, 25, 30, 7, 20, 5, 26, 19, 16, 17, 22, 31, 12, 29, 18, 11, 8, 9, 14, 23, 4, 21, 10, 3]
 | 63 => [0, 1, 6, 47, 28, 45, 2, 59, 56, 25, 62, 7, 20, 5, 58, 19, 48, 49, 54, 31, 12, 29, 50, 43, 40, 9, 46, 55, 4, 53, 42, 3, 32, 33, 38, 15, 60, 13, 34, 27, 24, 57, 30, 39, 52, 37, 26, 51, 16, 17, 22, 63, 44, 61, 18, 11, 8, 41, 14, 23, 36, 21, 10, 35]
 | 255 => [0, 1, 70, 239, 156, 109, 2, 123, 120, 25, 254, 71, 148, 5, 58, 83, 240, 49, 182, 159, 140, 157, 114, 43, 104, 73, 110, 247, 132, 53, 170, 3, 224, 97, 38, 79, 124, 205, 226, 219, 88, 121, 222, 167, 116, 101, 26, 179, 208, 145, 150, 255, 108, 253, 82, 139, 72, 169, 78, 87, 100, 149, 138, 99, 192, 193, 6, 175, 92, 45, 194, 59, 56, 217, 190, 7, 84, 197, 250, 19, 176, 241, 118, 95, 76, 93, 50, 235, 40, 9, 46, 183, 68, 245, 106, 195, 160, 33, 230, 15, 60, 141, 162, 155, 24, 57, 158, 103, 52, 37, 218, 115, 144, 81, 86, 191, 44, 189, 18, 75, 8, 105, 14, 23, 36, 85, 74, 35, 128, 129, 198, 111, 28, 237, 130, 251, 248, 153, 126, 199, 20, 133, 186, 211, 112, 177, 54, 31, 12, 29, 242, 171, 232, 201, 238, 119, 4, 181, 42, 131, 96, 225, 166, 207, 252, 77, 98, 91, 216, 249, 94, 39, 244, 229, 154, 51, 80, 17, 22, 127, 236, 125, 210, 11, 200, 41, 206, 215, 228, 21, 10, 227, 64, 65, 134, 47, 220, 173, 66, 187, 184, 89, 62, 135, 212, 69, 122, 147, 48, 113, 246, 223, 204, 221, 178, 107, 168, 137, 174, 55, 196, 117, 234, 67, 32, 161, 102, 143, 188, 13, 34, 27, 152, 185, 30, 231, 180, 165, 90, 243, 16, 209, 214, 63, 172, 61, 146, 203, 136, 233, 142, 151, 164, 213, 202, 163]
 | _ => [0, 1, 70, 111, 28, 109, 2, 123, 120, 25, 126, 71, 20, 5, 58, 83, 112, 49, 54, 31, 12, 29, 114, 43, 104, 73, 110, 119, 4, 53, 42, 3, 96, 97, 38, 79, 124, 77, 98, 91, 88, 121, 94, 39, 116, 101, 26, 51, 80, 17, 22, 127, 108, 125, 82, 11, 72, 41, 78, 87, 100, 21, 10, 99, 64, 65, 6, 47, 92, 45, 66, 59, 56, 89, 62, 7, 84, 69, 122, 19, 48, 113, 118, 95, 76, 93, 50, 107, 40, 9, 46, 55, 68, 117, 106, 67, 32, 33, 102, 15, 60, 13, 34, 27, 24, 57, 30, 103, 52, 37, 90, 115, 16, 81, 86, 63, 44, 61, 18, 75, 8, 105, 14, 23, 36, 85, 74, 35]
noncomputable def zBP (M : Nat) : Bool := (itN M (M + 1) 0 == 0) && (List.range (M + 1)).all fun j => decide ((logs M).getD j 0 <= M) && itN M ((logs M).getD j 0) 0 == j
theorem cyc7 : zBP 7 = true := by decide +kernel
theorem cyc31 : zBP 31 = true := by decide +kernel
theorem zKn : zBP 127 = true := by decide +kernel
theorem cyc15 : zBP 15 = true := by decide +kernel
theorem cyc63 : zBP 63 = true := by decide +kernel
theorem zKo : zBP 255 = true := by decide +kernel
noncomputable def Good (M : Nat) : Prop := M = 7 ∨ M = 31 ∨ M = 127 ∨ M = 15 ∨ M = 63 ∨ M = 255
theorem Good.cyc {M : Nat} (g : Good M) : zBP M = true := by
 rcases g with rfl | rfl | rfl | rfl | rfl | rfl
 ·exact cyc7
 ·exact cyc31
 ·exact zKn
 ·exact cyc15
 ·exact cyc63
 ·exact zKo
theorem cyc0 {M : Nat} (g : Good M) : itN M (M + 1) 0 = 0 /\ ∀ j, j <= M -> ∃ k, k <= M /\ itN M k 0 = j := by
 have h := g.cyc
 unfold zBP at h
 rw [Qw, beq_iff_eq, QF] at h
 refine ⟨h.1, fun j hj => ?_⟩
 have := h.2 j (QL.mpr (by lia))
 rw [Qw, beq_iff_eq, decide_eq_true_eq] at this
 exact ⟨_, this.1, this.2⟩
theorem cyc {M i j : Nat} (g : Good M) (hi : i <= M) (hj : j <= M) : ∃ k, k <= M /\ itN M k i = j := by
 obtain ⟨z, c⟩ := cyc0 g
 obtain ⟨m, hm, rfl⟩ := c i hi
 obtain ⟨n, hn, rfl⟩ := c j hj
 by_cases q : m <= n
 ·refine ⟨n - m, by lia, ?_⟩
  rw [<- zDc]
  congr 1
  lia
 ·refine ⟨n + (M + 1) - m, by lia, ?_⟩
  rw [<- zDc, show m + (n + (M + 1) - m) = (M + 1) + n by lia, zDc, z]
noncomputable def adv (M : Nat) (p : Probe) : Probe :=
 if p.more > 0 then { p with j := p.j + 1, more := p.more - 1 } else
 { p with j := (leap M p.i p.perturb).1, more := runEnd M (leap M p.i p.perturb).1 - (leap M p.i p.perturb).1, i := (leap M p.i p.perturb).1, perturb := (leap M p.i p.perturb).2 }
noncomputable def run (M : Nat) (l : Nat × Nat) : Probe := { j := l.1, more := runEnd M l.1 - l.1, i := l.1, perturb := l.2, dummy := none }
noncomputable def L (M : Nat) (h : Int) : Nat -> Nat × Nat
 | 0 => (bits h % (M + 1), bits h)
 | k + 1 => leap M (L M h k).1 (L M h k).2
noncomputable def P (M : Nat) (h : Int) : Nat -> Probe
 | 0 => run M (L M h 0)
 | n + 1 => adv M (P M h n)
theorem L_le (M : Nat) (h : Int) : ∀ k, (L M h k).1 <= M
 | 0 => YM (Nat.mod_lt _ (Nat.succ_pos _))
 | k + 1 => YM (Nat.mod_lt _ (Nat.succ_pos _))
theorem zD9 {M i : Nat} (h : i <= M) : i <= runEnd M i /\ runEnd M i <= M /\ runEnd M i - i <= 9 := by
 unfold runEnd
 split <;> lia
theorem P_ok (M : Nat) (h : Int) : ∀ n, (P M h n).j + (P M h n).more <= M /\ (P M h n).dummy = none
 | 0 => by
  have := zD9 (L_le M h 0)
  show (L M h 0).1 + (runEnd M (L M h 0).1 - (L M h 0).1) <= M /\ none = none
  exact ⟨by lia, rfl⟩
 | n + 1 => by
  obtain ⟨h1, h2⟩ := P_ok M h n
  show (adv M (P M h n)).j + (adv M (P M h n)).more <= M /\ (adv M (P M h n)).dummy = none
  unfold adv
  split
  ·exact ⟨by show (P M h n).j + 1 + ((P M h n).more - 1) <= M; lia, h2⟩
  ·refine ⟨?_, h2⟩
   have : (leap M (P M h n).i (P M h n).perturb).1 <= M := YM (Nat.mod_lt _ (Nat.succ_pos _))
   have := zD9 this
   show (leap M (P M h n).i (P M h n).perturb).1 + (runEnd M (leap M (P M h n).i (P M h n).perturb).1 - (leap M (P M h n).i (P M h n).perturb).1) <= M
   lia
theorem P_le (M : Nat) (h : Int) (n : Nat) : (P M h n).j <= M := by have := (P_ok M h n).1; lia
theorem zEu {M : Nat} {h : Int} {n k : Nat} (e : P M h n = run M (L M h k)) : ∀ d, d <= runEnd M (L M h k).1 - (L M h k).1 ->
  P M h (n + d) = { j := (L M h k).1 + d, more := runEnd M (L M h k).1 - (L M h k).1 - d, i := (L M h k).1, perturb := (L M h k).2, dummy := none }
 | 0, _ => e
 | d + 1, hd => by
  show adv M (P M h (n + d)) = _
  rw [zEu e d (by lia)]
  unfold adv
  rw [if_pos (show runEnd M (L M h k).1 - (L M h k).1 - d > 0 by lia)]
  rfl
theorem zGC {M : Nat} {h : Int} {n k : Nat} (e : P M h n = run M (L M h k)) : P M h (n + (runEnd M (L M h k).1 - (L M h k).1) + 1) = run M (L M h (k + 1)) := by
 show adv M (P M h (n + (runEnd M (L M h k).1 - (L M h k).1))) = _
 rw [zEu e _ (Qj _)]
 unfold adv
 rw [if_neg (show ¬ runEnd M (L M h k).1 - (L M h k).1 - (runEnd M (L M h k).1 - (L M h k).1) > 0 by lia)]
 rfl
theorem P_at (M : Nat) (h : Int) : ∀ k, ∃ n, n <= 10 * k /\ P M h n = run M (L M h k)
 | 0 => ⟨0, Qj _, rfl⟩
 | k + 1 => by
  obtain ⟨n, hn, e⟩ := P_at M h k
  have := zD9 (L_le M h k)
  exact ⟨_, by lia, zGC e⟩
theorem zGh (M : Nat) (h : Int) : ∀ k, (L M h k).2 = bits h / 32 ^ k
 | 0 => by show bits h = _; rw [Nat.pow_zero, Nat.div_one]
 | k + 1 => by
  show (L M h k).2 / 32 = _
  rw [zGh M h k, Nat.div_div_eq_div_mul, <- Nat.pow_succ]
theorem zJN (h : Int) : bits h < 36893488147419103232 := by
 unfold bits
 have : h % (2 ^ 64 : Int) < 2 ^ 64 := Jj _ (by decide)
 have h2 : (2 ^ 64 : Int) = 18446744073709551616 := by decide
 rw [h2] at this ⊢
 lia
theorem L_13 (M : Nat) (h : Int) : ∀ k, (L M h (13 + k)).2 = 0 /\ (L M h (13 + k)).1 = itN M k (L M h 13).1
 | 0 => by
  refine ⟨?_, rfl⟩
  rw [zGh]
  exact Nat.div_eq_of_lt (zJN h)
 | k + 1 => by
  obtain ⟨h1, h2⟩ := L_13 M h k
  show (L M h (13 + k)).2 / 32 = 0 /\ ((L M h (13 + k)).1 * 5 + 1 + (L M h (13 + k)).2 / 32) % (M + 1) = itN M (k + 1) (L M h 13).1
  rw [h1, h2, zDc]
  exact ⟨rfl, rfl⟩
theorem zGT {M : Nat} (g : Good M) (h : Int) {j : Nat} (hj : j <= M) : ∃ k, k < turns M /\ (L M h k).1 = j := by
 obtain ⟨k, hk, e⟩ := cyc g (L_le M h 13) hj
 exact ⟨13 + k, by unfold turns; lia, by rw [(L_13 M h k).2, e]⟩
theorem cover {M : Nat} (g : Good M) (h : Int) {j : Nat} (hj : j <= M) : ∃ n, n < 10 * turns M /\ (P M h n).j = j := by
 obtain ⟨k, hk, e⟩ := zGT g h hj
 obtain ⟨n, hn, q⟩ := P_at M h k
 exact ⟨n, by lia, by rw [q, <- e]; rfl⟩
end ST
namespace ST
open PySem PySem.SetTable
abbrev Up (l : List Nat) : Prop := l.Pairwise (· < ·)
theorem Up.at {l : List Nat} (s : Up l) {i k x y : Nat} (hx : l[i]? = some x) (hy : l[k]? = some y) (h : i < k) : x < y := by
 obtain ⟨h1, rfl⟩ := Qe.mp hx
 obtain ⟨h2, rfl⟩ := Qe.mp hy
 exact List.pairwise_iff_getElem.mp s i k h1 h2 h
theorem Up.le {l : List Nat} (s : Up l) {i k x y : Nat} (hx : l[i]? = some x) (hy : l[k]? = some y) (h : i <= k) : x <= y := by
 by_cases e : i = k
 ·subst e; rw [hx] at hy; cases hy; exact Qj _
 ·exact Yv (s.at hx hy (by lia))
theorem Up.nodup {l : List Nat} (s : Up l) : l.Nodup := s.imp fun h => Qq h
theorem zFl (xs : Array Nat) (s : Up xs.toList) (j : Nat) : ∀ fuel lo hi, lo <= hi -> hi <= xs.size -> hi - lo <= fuel ->
  (∀ i x, xs.toList[i]? = some x -> i < lo -> x < j) -> (∀ i x, xs.toList[i]? = some x -> hi <= i -> j <= x) ->
  below.go xs j fuel lo hi <= xs.size /\ (∀ i x, xs.toList[i]? = some x -> i < below.go xs j fuel lo hi -> x < j) /\ (∀ i x, xs.toList[i]? = some x -> below.go xs j fuel lo hi <= i -> j <= x)
 | 0, lo, hi, h1, h2, h3, a, b => by
  have e : lo = hi := by lia
  subst e
  exact ⟨h2, a, b⟩
 | fuel + 1, lo, hi, h1, h2, h3, a, b => by
  unfold below.go
  by_cases c : lo < hi
  ·rw [if_pos c]
   dsimp only
   have hm : (lo + hi) / 2 < xs.size := by lia
   have hv : xs.toList[(lo + hi) / 2]? = some (xs.getD ((lo + hi) / 2) j) := by
    rw [QI, QG hm]
    simp [Array.getD, hm]
   by_cases d : xs.getD ((lo + hi) / 2) j < j
   ·rw [if_pos d]
    exact zFl xs s j fuel _ _ (by lia) h2 (by lia) (fun i x hx hi' => Q7 (s.le hx hv (by lia)) d) b
   ·rw [if_neg d]
    exact zFl xs s j fuel _ _ (by lia) (by lia) (by lia) a (fun i x hx hi' => Qt (by lia) (s.le hv hx hi'))
  ·rw [if_neg c]
   have e : lo = hi := by lia
   subst e
   exact ⟨h2, a, b⟩
theorem zCs (xs : Array Nat) (s : Up xs.toList) (j : Nat) : below xs j <= xs.size /\ (∀ i x, xs.toList[i]? = some x -> i < below xs j -> x < j) /\ (∀ i x, xs.toList[i]? = some x -> below xs j <= i -> j <= x) :=
 zFl xs s j _ _ _ (QY _) (Qj _) (by lia) (fun i x _ h => absurd h (Yx _)) fun i x hx h => by
  obtain ⟨q, _⟩ := Qe.mp hx
  rw [Qo] at q
  lia
structure TOk (t : SetTable) (hs : List Int) : Prop where
 good : Good t.mask
 dum : t.dummies = #[]
 len : t.place.toList.length = hs.length
 up : Up t.place.toList
 le : ∀ x ∈ t.place.toList, x <= t.mask
 room : t.place.toList.length * 5 < t.mask * 3
 reach : ∀ q ∈ t.place.toList.zip hs, ∃ n, (P t.mask q.2 n).j = q.1 /\ ∀ m, m < n -> (P t.mask q.2 m).j ∈ t.place.toList
theorem zEg {t : SetTable} (hd : t.dummies = #[]) (s : Up t.place.toList) (j : Nat) : (∃ i, t.slot j = .live i /\ t.place.toList[i]? = some j) ∨ (t.slot j = .empty /\ j ∉ t.place.toList) := by
 obtain ⟨h1, h2, h3⟩ := zCs t.place s j
 unfold slot
 dsimp only
 by_cases c : (t.place[below t.place j]? == some j) = true
 ·rw [if_pos c]
  exact .inl ⟨_, rfl, by rw [QI]; exact QZ c⟩
 ·rw [if_neg c, hd]
  refine .inr ⟨rfl, fun hj => c ?_⟩
  obtain ⟨i, hi⟩ := QU hj
  have e : i = below t.place j := by
   by_cases a : i < below t.place j
   ·have := h2 i j hi a; lia
   ·by_cases b : i = below t.place j
    ·exact b
    ·have hb : below t.place j < t.place.toList.length := by
      obtain ⟨q, _⟩ := Qe.mp hi
      lia
     have hv := Qi hb
     have := s.at hv hi (by lia)
     have := h3 _ _ hv (Qj _)
     lia
  rw [<- e, <- QI, hi]
  simp
theorem zI8 {t : SetTable} (hd : t.dummies = #[]) (s : Up t.place.toList) {j i : Nat} (h : t.slot j = .live i) : t.place.toList[i]? = some j := by
 rcases zEg hd s j with ⟨i', h1, h2⟩ | ⟨h1, _⟩
 ·rw [h] at h1; cases h1; exact h2
 ·rw [h] at h1; cases h1
theorem least {p : Nat -> Prop} [DecidablePred p] : ∀ n, p n -> ∃ m, m <= n /\ p m /\ ∀ k, k < m -> ¬ p k := by
 intro n
 induction n using Nat.strongRecOn with
 | ind n ih =>
  intro h
  by_cases c : ∃ k, k < n /\ p k
  ·obtain ⟨k, hk, pk⟩ := c
   obtain ⟨m, h1, h2, h3⟩ := ih k hk pk
   exact ⟨m, by lia, h2, h3⟩
  ·exact ⟨n, Qj _, h, fun k hk pk => c ⟨k, hk, pk⟩⟩
theorem spare {M : Nat} {l : List Nat} (h : l.length <= M) : ∃ j, j <= M /\ j ∉ l := by
 refine Yr fun c => ?_
 have : List.range (M + 1) ⊆ l := fun j hj => Yr fun hn => c ⟨j, by have := QL.mp hj; lia, hn⟩
 have := Yo List.nodup_range this
 rw [QW] at this
 lia
theorem zHq {M : Nat} {l : List Nat} (g : Good M) (h : l.length <= M) (x : Int) : ∃ n, n < 10 * turns M /\ (P M x n).j ∉ l /\ ∀ m, m < n -> (P M x m).j ∈ l := by
 obtain ⟨j, hj, hn⟩ := spare h
 obtain ⟨n, h1, h2⟩ := cover g x hj
 obtain ⟨m, q1, q2, q3⟩ := least (p := fun n => (P M x n).j ∉ l) n (by rw [h2]; exact hn)
 exact ⟨m, by lia, q2, fun k hk => Yr (q3 k hk)⟩
section
variable {t : SetTable} {hs : List Int} {hashAt : Nat -> Int} {h : Int} {n : Nat}
theorem zHB (T : TOk t hs) (h1 : (P t.mask h n).j ∉ t.place.toList) (h2 : ∀ m, m < n -> (P t.mask h m).j ∈ t.place.toList) : ∀ fuel c, c <= n -> n - c < fuel ->
  (probe.go t hashAt h fuel (P t.mask h c) = some (.empty (P t.mask h n).j none) /\ ∀ m, c <= m -> m < n -> ∀ i, t.slot (P t.mask h m).j = .live i -> hashAt i ≠ h)
  ∨ ∃ m i, c <= m /\ m < n /\ t.slot (P t.mask h m).j = .live i /\ hashAt i = h /\ (∀ m', c <= m' -> m' < m -> ∀ i, t.slot (P t.mask h m').j = .live i -> hashAt i ≠ h) /\ probe.go t hashAt h fuel (P t.mask h c) = some (.candidate (P t.mask h m).j i (P t.mask h (m + 1)))
 | 0, c, _, hf => absurd hf (Yx _)
 | fuel + 1, c, hc, hf => by
  unfold probe.go
  by_cases e : c = n
  ·subst e
   rcases zEg T.dum T.up (P t.mask h c).j with ⟨i, q1, q2⟩ | ⟨q1, _⟩
   ·exact absurd (QO q2) h1
   ·rw [q1]
    refine .inl ⟨?_, fun m a b => by lia⟩
    show some (Met.empty (P t.mask h c).j (P t.mask h c).dummy) = _
    rw [(P_ok t.mask h c).2]
  ·rcases zEg T.dum T.up (P t.mask h c).j with ⟨i, q1, q2⟩ | ⟨_, q2⟩
   ·rw [q1]
    dsimp only
    by_cases k : (hashAt i == h) = true
    ·rw [if_pos k]
     exact .inr ⟨c, i, Qj _, by lia, q1, QZ k, fun m' a b => by lia, rfl⟩
    ·rw [if_neg k]
     have hk : hashAt i ≠ h := fun e => k (by rw [e]; simp)
     rcases zHB T h1 h2 fuel (c + 1) (by lia) (by lia) with ⟨a, b⟩ | ⟨m, i', a1, a2, a3, a4, a5, a6⟩
     ·refine .inl ⟨a, fun m hm1 hm2 i2 hi2 => ?_⟩
      by_cases e2 : m = c
      ·subst e2; rw [q1] at hi2; cases hi2; exact hk
      ·exact b m (by lia) hm2 i2 hi2
     ·refine .inr ⟨m, i', by lia, a2, a3, a4, fun m' hm1 hm2 i2 hi2 => ?_, a6⟩
      by_cases e2 : m' = c
      ·subst e2; rw [q1] at hi2; cases hi2; exact hk
      ·exact a5 m' (by lia) hm2 i2 hi2
   ·exact absurd (h2 c (by lia)) q2
theorem met (T : TOk t hs) (h1 : (P t.mask h n).j ∉ t.place.toList) {i j : Nat} (hj : t.place.toList[i]? = some j) (hh : hs[i]? = some h) : ∃ m, m < n /\ (P t.mask h m).j = j := by
 have hq : (j, h) ∈ t.place.toList.zip hs := QO (i := i) (by rw [Ys]; exact ⟨hj, hh⟩)
 obtain ⟨m, e, a⟩ := T.reach _ hq
 refine ⟨m, Yr fun c => h1 ?_, e⟩
 by_cases d : n = m
 ·subst d; rw [e]; exact QO hj
 ·exact a n (by lia)
end
theorem zBH {α : Type} (xs : Array α) (p : Nat) (x : α) : (insertAt xs p x).toList = xs.toList.take p ++ x :: xs.toList.drop p := by
 rw [SetTable.toList_insertAt]
theorem zNp {t : SetTable} {hs : List Int} {h : Int} {n : Nat} (T : TOk t hs) (h1 : (P t.mask h n).j ∉ t.place.toList) (h2 : ∀ m, m < n -> (P t.mask h m).j ∈ t.place.toList)
  (hr : (t.place.toList.length + 1) * 5 < t.mask * 3) (pl : Bool) :
  TOk { (t.put (P t.mask h n).j).1 with plain := pl } (hs.take (t.put (P t.mask h n).j).2 ++ h :: hs.drop (t.put (P t.mask h n).j).2) := by
 obtain ⟨b1, b2, b3⟩ := zCs t.place T.up (P t.mask h n).j
 have hmem : ∀ x, x ∈ (insertAt t.place (below t.place (P t.mask h n).j) (P t.mask h n).j).toList ↔ x = (P t.mask h n).j ∨ x ∈ t.place.toList := by
  intro x
  rw [zBH, QC, Qh]
  conv => rhs; rw [<- Yc (below t.place (P t.mask h n).j) t.place.toList, QC]
  constructor
  ·rintro (a | a | a)
   ·exact .inr (.inl a)
   ·exact .inl a
   ·exact .inr (.inr a)
  ·rintro (a | a | a)
   ·exact .inr (.inl a)
   ·exact .inl a
   ·exact .inr (.inr a)
 refine ⟨T.good, ?_, ?_, ?_, ?_, ?_, ?_⟩
 ·show (if has t.dummies _ = true then _ else t.dummies) = #[]
  rw [T.dum]
  rfl
 ·show (insertAt t.place (below t.place (P t.mask h n).j) (P t.mask h n).j).toList.length = (hs.take (below t.place (P t.mask h n).j) ++ h :: hs.drop (below t.place (P t.mask h n).j)).length
  rw [zBH]
  simp only [Qm, Q2, QM, Yi]
  rw [T.len]
 ·show Up (insertAt t.place (below t.place (P t.mask h n).j) (P t.mask h n).j).toList
  rw [zBH]
  unfold Up
  rw [List.pairwise_append]
  have hlt : ∀ x ∈ t.place.toList.take (below t.place (P t.mask h n).j), x < (P t.mask h n).j := fun x hx => by
   obtain ⟨i, hi⟩ := QU hx
   rw [List.getElem?_take] at hi
   split at hi
   ·rename_i q; exact b2 i x hi q
   ·cases hi
  have hgt : ∀ x ∈ t.place.toList.drop (below t.place (P t.mask h n).j), (P t.mask h n).j < x := fun x hx => by
   obtain ⟨i, hi⟩ := QU hx
   rw [List.getElem?_drop] at hi
   have := b3 _ x hi (by lia)
   have hne : x ≠ (P t.mask h n).j := fun e => h1 (e ▸ QO hi)
   lia
  refine ⟨T.up.sublist (List.take_sublist _ _), Q3.mpr ⟨hgt, T.up.sublist (List.drop_sublist _ _)⟩, fun a ha b hb => ?_⟩
  rcases Qh.mp hb with rfl | hb
  ·exact hlt a ha
  ·exact Nat.lt_trans (hlt a ha) (hgt b hb)
 ·intro x hx
  rcases (hmem x).mp hx with rfl | hx
  ·exact P_le _ _ _
  ·exact T.le x hx
 ·show (insertAt t.place (below t.place (P t.mask h n).j) (P t.mask h n).j).toList.length * 5 < t.mask * 3
  rw [zBH]
  simp only [Qm, Q2, QM, Yi]
  lia
 ·intro q hq
  have hz : (insertAt t.place (below t.place (P t.mask h n).j) (P t.mask h n).j).toList.zip (hs.take (below t.place (P t.mask h n).j) ++ h :: hs.drop (below t.place (P t.mask h n).j)) = (t.place.toList.take (below t.place (P t.mask h n).j)).zip (hs.take (below t.place (P t.mask h n).j)) ++ ((P t.mask h n).j, h) :: (t.place.toList.drop (below t.place (P t.mask h n).j)).zip (hs.drop (below t.place (P t.mask h n).j)) := by
   rw [zBH, List.zip_append (by rw [Q2, Q2, T.len]), List.zip_cons_cons]
  have hq' : q = ((P t.mask h n).j, h) ∨ q ∈ t.place.toList.zip hs := by
   have hq2 : q ∈ (insertAt t.place (below t.place (P t.mask h n).j) (P t.mask h n).j).toList.zip (hs.take (below t.place (P t.mask h n).j) ++ h :: hs.drop (below t.place (P t.mask h n).j)) := hq
   rw [hz, QC, Qh] at hq2
   conv => rhs; rw [<- Yc (below t.place (P t.mask h n).j) t.place.toList, <- Yc (below t.place (P t.mask h n).j) hs, List.zip_append (by rw [Q2, Q2, T.len]), QC]
   rcases hq2 with a | a | a
   ·exact .inr (.inl a)
   ·exact .inl a
   ·exact .inr (.inr a)
  rcases hq' with rfl | hq'
  ·exact ⟨n, rfl, fun m hm => (hmem _).mpr (.inr (h2 m hm))⟩
  ·obtain ⟨m, e, a⟩ := T.reach q hq'
   exact ⟨m, e, fun k hk => (hmem _).mpr (.inr (a k hk))⟩
end ST
namespace ST
open PySem PySem.SetTable
structure Own (M : Nat) (hs : List Int) (ow : Array (Option Nat)) : Prop where
 size : ow.size = M + 1
 lt : ∀ j i : Nat, ow[j]? = some (some i) -> i < hs.length
 all : ∀ i, i < hs.length -> ∃ j : Nat, ow[j]? = some (some i)
 inj : ∀ j j' i : Nat, ow[j]? = some (some i) -> ow[j']? = some (some i) -> j = j'
 reach : ∀ (j i : Nat) (h : Int), ow[j]? = some (some i) -> hs[i]? = some h -> ∃ n, (P M h n).j = j /\ ∀ m, m < n -> ∃ i', ow[(P M h m).j]? = some (some i')
theorem Own.free {M : Nat} {hs : List Int} {ow : Array (Option Nat)} (W : Own M hs ow) (h : hs.length <= M) : ∃ j : Nat, j <= M /\ ow[j]? = some none := by
 refine Yr fun c => ?_
 have hv : ∀ j, j <= M -> ∃ i, ow[j]? = some (some i) := fun j hj => by
  have hl : j < ow.size := by rw [W.size]; lia
  cases e : ow[j] with
  | none => exact absurd ⟨j, hj, by rw [QG hl, e]⟩ c
  | some i => exact ⟨i, by rw [QG hl, e]⟩
 have e : ∀ j, j <= M -> ow[j]? = some (some ((ow.getD j none).getD 0)) := fun j hj => by
  obtain ⟨i, hi⟩ := hv j hj
  have hl : j < ow.size := by rw [W.size]; lia
  rw [hi]
  rw [QG hl] at hi
  have : ow.getD j none = some i := by simp [Array.getD, hl]; exact QJ hi
  rw [this]
  rfl
 have hs1 : (List.range (M + 1)).map (fun j => (ow.getD j none).getD 0) ⊆ List.range hs.length := fun i hi => by
  obtain ⟨j, hj, rfl⟩ := Qr.mp hi
  exact QL.mpr (W.lt j _ (e j (by have := QL.mp hj; lia)))
 have hn : ((List.range (M + 1)).map (fun j => (ow.getD j none).getD 0)).Nodup := by
  unfold List.Nodup
  rw [Q6]
  refine List.Pairwise.imp_of_mem ?_ List.nodup_range
  intro a b ha hb hne he
  refine hne (W.inj a b _ (e a (by have := QL.mp ha; lia)) ?_)
  rw [he]
  exact e b (by have := QL.mp hb; lia)
 have := Yo hn hs1
 rw [Qg, QW, QW] at this
 lia
theorem zHr {M : Nat} {ow : Array (Option Nat)} {h : Int} (hsz : ow.size = M + 1) : ∀ fuel k n, P M h n = run M (L M h k) -> (∀ m, m < n -> ∃ i, ow[(P M h m).j]? = some (some i)) ->
  (∃ kk, k <= kk /\ kk < k + fuel /\ ow[(L M h kk).1]? = some none) ->
  ∃ n', layClean.free M ow fuel (L M h k).1 (L M h k).2 = some (P M h n').j /\ ow[(P M h n').j]? = some none /\ ∀ m, m < n' -> ∃ i, ow[(P M h m).j]? = some (some i)
 | 0, k, n, e, a, ⟨kk, h1, h2, _⟩ => by lia
 | fuel + 1, k, n, e, a, ⟨kk, h1, h2, h3⟩ => by
  have hr := zD9 (L_le M h k)
  have hget : ∀ d, d <= runEnd M (L M h k).1 - (L M h k).1 -> ow[(L M h k).1 + d]? = some (ow.getD ((L M h k).1 + d) (some 0)) := fun d hd => by
   have hl : (L M h k).1 + d < ow.size := by lia
   rw [QG hl]
   simp [Array.getD, hl]
  have hP : ∀ d, d <= runEnd M (L M h k).1 - (L M h k).1 -> (P M h (n + d)).j = (L M h k).1 + d := fun d hd => by rw [zEu e d hd]
  unfold layClean.free
  cases q : (List.range (runEnd M (L M h k).1 + 1 - (L M h k).1)).find? fun d => (ow.getD ((L M h k).1 + d) (some 0)).isNone with
  | some d =>
   rw [List.find?_range_eq_some] at q
   obtain ⟨q1, q2, q3⟩ := q
   have hd : d <= runEnd M (L M h k).1 - (L M h k).1 := by have := QL.mp q2; lia
   refine ⟨n + d, ?_, ?_, fun m hm => ?_⟩
   ·rw [hP d hd]
   ·rw [hP d hd, hget d hd, Option.isNone_iff_eq_none.mp q1]
   ·by_cases c : m < n
    ·exact a m c
    ·have := q3 (m - n) (by lia)
     have hd' : m - n <= runEnd M (L M h k).1 - (L M h k).1 := by lia
     have h5 := hP (m - n) hd'
     rw [show n + (m - n) = m by lia] at h5
     rw [h5, hget (m - n) hd']
     cases hv : ow.getD ((L M h k).1 + (m - n)) (some 0) with
     | none => rw [hv] at this; simp at this
     | some i => exact ⟨i, rfl⟩
  | none =>
   rw [Jk] at q
   have hocc : ∀ d, d <= runEnd M (L M h k).1 - (L M h k).1 -> ∃ i, ow[(L M h k).1 + d]? = some (some i) := fun d hd => by
    have := q d (QL.mpr (by lia))
    rw [hget d hd]
    cases hv : ow.getD ((L M h k).1 + d) (some 0) with
    | none => rw [hv] at this; simp at this
    | some i => exact ⟨i, rfl⟩
   have hk : kk ≠ k := fun e2 => by
    subst e2
    obtain ⟨i, hi⟩ := hocc 0 (QY _)
    rw [Nat.add_zero, h3] at hi
    cases hi
   refine zHr hsz fuel (k + 1) _ (zGC e) (fun m hm => ?_) ⟨kk, by lia, by lia, h3⟩
   by_cases c : m < n
   ·exact a m c
   ·have hd' : m - n <= runEnd M (L M h k).1 - (L M h k).1 := by lia
    have h5 := hP (m - n) hd'
    rw [show n + (m - n) = m by lia] at h5
    rw [h5]
    exact hocc (m - n) hd'
theorem Own.put {M : Nat} {hs : List Int} {ow : Array (Option Nat)} {h : Int} {n : Nat} (W : Own M hs ow) (h1 : ow[(P M h n).j]? = some none) (h2 : ∀ m, m < n -> ∃ i, ow[(P M h m).j]? = some (some i)) :
  Own M (hs ++ [h]) (ow.setIfInBounds (P M h n).j (some hs.length)) := by
 have hl : (P M h n).j < ow.size := by rw [W.size]; have := P_le M h n; lia
 have hg : ∀ j, (ow.setIfInBounds (P M h n).j (some hs.length))[j]? = if (P M h n).j = j then some (some hs.length) else ow[j]? := fun j => by
  rw [Array.getElem?_setIfInBounds]
  split
  ·first | rfl | rw [if_pos hl]
  ·rfl
 have hup : ∀ j : Nat, (∃ i, ow[j]? = some (some i)) -> ∃ i, (ow.setIfInBounds (P M h n).j (some hs.length))[j]? = some (some i) := fun j zz => by
  obtain ⟨i, hi⟩ := zz
  rw [hg]
  split
  ·exact ⟨_, rfl⟩
  ·exact ⟨i, hi⟩
 refine ⟨by simpa using W.size, fun j i hj => ?_, fun i hi => ?_, fun j j' i hj hj' => ?_, fun j i x hj hx => ?_⟩
 ·rw [Qm, Q0]
  rw [hg] at hj
  split at hj
  ·cases hj; lia
  ·have := W.lt j i hj; lia
 ·rw [Qm, Q0] at hi
  by_cases c : i < hs.length
  ·obtain ⟨j, hj⟩ := W.all i c
   refine ⟨j, ?_⟩
   rw [hg, if_neg (fun e => by rw [e, hj] at h1; cases h1)]
   exact hj
  ·refine ⟨(P M h n).j, ?_⟩
   rw [hg, if_pos rfl, show i = hs.length by lia]
 ·rw [hg] at hj hj'
  split at hj
  ·rename_i e
   cases hj
   split at hj'
   ·rename_i e'; rw [<- e, <- e']
   ·have := W.lt j' _ hj'; lia
  ·split at hj'
   ·cases hj'
    have := W.lt j _ hj; lia
   ·exact W.inj j j' i hj hj'
 ·rw [hg] at hj
  split at hj
  ·rename_i e
   cases hj
   rw [YB (Qj _), Nat.sub_self] at hx
   cases hx
   exact ⟨n, e, fun m hm => hup _ (h2 m hm)⟩
  ·rw [YG (W.lt j i hj)] at hx
   obtain ⟨m, e, a⟩ := W.reach j i x hj hx
   exact ⟨m, e, fun k hk => hup _ (a k hk)⟩
noncomputable def lay (M : Nat) (acc : Option (Array (Option Nat) × Nat)) (h : Int) : Option (Array (Option Nat) × Nat) := do
 let (owner, k) <- acc
 let j <- layClean.free M owner (turns M) (bits h % (M + 1)) (bits h)
 pure (owner.setIfInBounds j (some k), k + 1)
theorem zHo {M : Nat} (g : Good M) : ∀ (rest done : List Int) (ow : Array (Option Nat)), Own M done ow -> (done ++ rest).length <= M -> ∃ ow', rest.foldl (lay M) (some (ow, done.length)) = some (ow', (done ++ rest).length) /\ Own M (done ++ rest) ow'
 | [], done, ow, W, _ => ⟨ow, by rw [Yn]; rfl, by rw [Yn]; exact W⟩
 | h :: rest, done, ow, W, hl => by
  rw [Qm, QM] at hl
  obtain ⟨j, hj, hf⟩ := W.free (by lia)
  obtain ⟨kk, hk, e⟩ := zGT g h hj
  obtain ⟨n, q1, q2, q3⟩ := zHr (h := h) W.size (turns M) 0 0 rfl (fun m hm => absurd hm (Yx _)) ⟨kk, QY _, by lia, by rw [e]; exact hf⟩
  have W2 := W.put q2 q3
  obtain ⟨ow', r1, r2⟩ := zHo g rest (done ++ [h]) _ W2 (by simp; lia)
  refine ⟨ow', ?_, by rw [<- List.append_cons] at r2; exact r2⟩
  rw [Yf]
  have : lay M (some (ow, done.length)) h = some (ow.setIfInBounds (P M h n).j (some done.length), (done ++ [h]).length) := by
   show (layClean.free M ow (turns M) (L M h 0).1 (L M h 0).2).bind _ = _
   rw [q1, Qm]
   rfl
  rw [this, r1, <- List.append_cons]
theorem own0 (M : Nat) : Own M [] (Array.replicate (M + 1) none) := by
 have : ∀ (j : Nat) (i : Nat), (Array.replicate (M + 1) (none : Option Nat))[j]? = some (some i) -> False := fun j i h => by
  rw [Array.getElem?_replicate] at h
  split at h <;> simp at h
 exact ⟨by simp, fun j i h => (this j i h).elim, fun i hi => absurd hi (Yx _), fun j j' i h => (this j i h).elim, fun j i _ h => (this j i h).elim⟩
theorem zLC {M : Nat} (g : Good M) (hs : Array Int) (hl : hs.size <= M) : ∃ ow, layClean M hs = some ow /\ Own M hs.toList ow := by
 obtain ⟨ow, h1, h2⟩ := zHo g hs.toList [] _ (own0 M) (by simpa using hl)
 refine ⟨ow, ?_, h2⟩
 unfold layClean
 rw [<- Array.foldl_toList]
 show (hs.toList.foldl (lay M) (some (Array.replicate (M + 1) none, 0))).map (·.1) = _
 rw [show (0 : Nat) = ([] : List Int).length from rfl, h1]
 rfl
noncomputable def zAW (M : Nat) (ow : Array (Option Nat)) : List (Nat × Nat) := (List.range (M + 1)).filterMap fun j => (ow.getD j none).map (j, ·)
theorem zCb {M : Nat} {hs : List Int} {ow : Array (Option Nat)} (W : Own M hs ow) (q : Nat × Nat) : q ∈ zAW M ow ↔ q.1 <= M /\ ow[q.1]? = some (some q.2) := by
 unfold zAW
 rw [List.mem_filterMap]
 constructor
 ·rintro ⟨j, hj, e⟩
  have hl : j < ow.size := by rw [W.size]; exact QL.mp hj
  cases hv : ow.getD j none with
  | none => rw [hv] at e; cases e
  | some i =>
   rw [hv] at e
   cases e
   refine ⟨by have := QL.mp hj; show j <= M; lia, ?_⟩
   show ow[j]? = some (some i)
   rw [QG hl]
   simp [Array.getD, hl] at hv
   rw [hv]
 ·rintro ⟨h1, h2⟩
  have hl : q.1 < ow.size := by rw [W.size]; lia
  refine ⟨q.1, QL.mpr (by lia), ?_⟩
  rw [QG hl] at h2
  have : ow.getD q.1 none = some q.2 := by simp [Array.getD, hl]; exact QJ h2
  rw [this]
  rfl
theorem zH7 (M : Nat) (ow : Array (Option Nat)) : (zAW M ow).Pairwise fun p q => p.1 < q.1 := by
 unfold zAW
 rw [List.pairwise_filterMap]
 refine List.Pairwise.imp ?_ List.pairwise_lt_range
 intro a b hab x hx y hy
 cases ha : ow.getD a none with
 | none => rw [ha] at hx; cases hx
 | some i =>
  cases hb : ow.getD b none with
  | none => rw [hb] at hy; cases hy
  | some k =>
   rw [ha] at hx; rw [hb] at hy
   cases hx; cases hy
   exact hab
theorem zHZ {hs : Array Int} {M : Nat} (fi mo : Nat) (le pl : Bool) (g : Good M) (hl : hs.size * 5 < M * 3) :
  ∃ t' order, laid M fi mo le pl hs = some (t', order) /\ List.Perm order.toList (List.range hs.size) /\ TOk t' (order.toList.map fun i => hs.toList.getD i 0) /\ t'.led = le /\ t'.plain = pl := by
 obtain ⟨ow, h1, W⟩ := zLC g hs (by lia)
 have hperm : List.Perm ((zAW M ow).map (·.2)) (List.range hs.size) := by
  rw [List.perm_ext_iff_of_nodup ?_ List.nodup_range]
  ·intro i
   rw [Qr, QL]
   constructor
   ·rintro ⟨q, hq, rfl⟩
    have := W.lt _ _ ((zCb W q).mp hq).2
    simpa using this
   ·intro hi
    obtain ⟨j, hj⟩ := W.all i (by simpa using hi)
    have hjl : j < ow.size := (Array.getElem?_eq_some_iff.mp hj).1
    exact ⟨(j, i), (zCb W (j, i)).mpr ⟨by rw [W.size] at hjl; show j <= M; lia, hj⟩, rfl⟩
  ·unfold List.Nodup
   rw [Q6]
   refine List.Pairwise.imp_of_mem ?_ (zH7 M ow)
   intro p q hp hq hlt he
   have a := ((zCb W p).mp hp).2
   have b := ((zCb W q).mp hq).2
   rw [he] at a
   have := W.inj _ _ _ a b
   lia
 have hlen : (zAW M ow).length = hs.size := by
  have := hperm.length_eq
  rwa [Qg, QW] at this
 refine ⟨{ mask := M, place := ((zAW M ow).map (·.1)).toArray, dummies := #[], finger := fi, led := le, moves := mo, plain := pl }, ((zAW M ow).map (·.2)).toArray, ?_, hperm, ?_, rfl, rfl⟩
 ·unfold laid
  rw [h1]
  rfl
 ·refine ⟨g, rfl, ?_, ?_, ?_, ?_, ?_⟩
  ·show ((zAW M ow).map (·.1)).length = (((zAW M ow).map (·.2)).map fun i => hs.toList.getD i 0).length
   simp
  ·show Up ((zAW M ow).map (·.1))
   unfold Up
   rw [Q6]
   exact zH7 M ow
  ·intro x hx
   have hx' : x ∈ (zAW M ow).map (·.1) := hx
   obtain ⟨q, hq, rfl⟩ := Qr.mp hx'
   exact ((zCb W q).mp hq).1
  ·show ((zAW M ow).map (·.1)).length * 5 < M * 3
   rw [Qg, hlen]
   exact hl
  ·intro q hq
   have hq' : q ∈ ((zAW M ow).map (·.1)).zip (((zAW M ow).map (·.2)).map fun i => hs.toList.getD i 0) := hq
   rw [QV, List.zip_map'] at hq'
   obtain ⟨p, hp, rfl⟩ := Qr.mp hq'
   obtain ⟨a, b⟩ := (zCb W p).mp hp
   have hlt := W.lt _ _ b
   have hx : hs.toList[p.2]? = some (hs.toList.getD p.2 0) := by
    rw [Yd, Qi hlt]
    rfl
   obtain ⟨n, e, c⟩ := W.reach _ _ _ b hx
   refine ⟨n, e, fun m hm => ?_⟩
   obtain ⟨i, hi⟩ := c m hm
   show (P M (hs.toList.getD p.2 0) m).j ∈ (zAW M ow).map (·.1)
   exact Qr.mpr ⟨((P M (hs.toList.getD p.2 0) m).j, i), (zCb W _).mpr ⟨P_le _ _ _, hi⟩, rfl⟩
theorem zNy {t : SetTable} {hs : Array Int} {wanted M : Nat} (hM : sizeAbove wanted - 1 = M) (g : Good M) (hl : hs.size * 5 < M * 3) :
  ∃ t' order, t.relaid hs wanted = some (t', order) /\ List.Perm order.toList (List.range hs.size) /\ TOk t' (order.toList.map fun i => hs.toList.getD i 0) /\ t'.led = t.led /\ t'.plain = t.plain := by
 unfold relaid
 rw [hM]
 exact zHZ _ _ _ _ g hl
end ST
namespace ST
open PySem PySem.SetTable
section
variable {prog : Program} {w : World} {A : Around} {E : Value -> Shared -> Prop} {s : Shared}
abbrev TK (prog : Program) (w : World) (h : Heap) (k : List Int) (a : Addr) : Prop := IsTupleKey (intKind prog w) h k a
abbrev TH (prog : Program) (w : World) (k : List Int) : Int := tupleKeyHash (intKind prog w) k
theorem items_int {ks : List Int} {vs : List Value} (h : ItemsAre (intKind prog w) ks vs) : ∀ v ∈ vs, ∃ i t, v = .int i t := by
 induction h with
 | nil => intro v hv; simp at hv
 | @cons k v' ks vs h1 _ ih =>
  intro v hv
  rcases Qh.mp hv with rfl | hv
  ·obtain ⟨t, e⟩ := Value.isInt_shape h1
   exact ⟨k, t, e⟩
  ·exact ih v hv
theorem zIi {k : List Int} {a : Addr} {Q : Bool -> Shared -> Prop} (hk : TK prog w s.heap k a) (h : Q false s) : wpAny (model prog w) A (ofAClassStatement 8 (.ref a)) Q E s := by
 have hT := hk.typeIs
 obtain ⟨o, items, n, ho, _, hd, hi⟩ := hk
 have hv := items_int hi
 unfold ofAClassStatement
 refine Qa (YS hT ?_)
 show wpAny _ _ (do let underTuple <- (if ("tuple" == "tuple") = true then pure true else isSubtype (.type "tuple") (.type "tuple")); _) Q E s
 refine Qa ?_
 rw [if_pos (by decide)]
 refine Qb ?_
 simp only [YL, Qp, if_false]
 refine Qa (wpAny_seqItems ho hd ?_)
 dsimp only
 refine Qa ?_
 rw [<- Array.forIn_toList]
 refine Ja _ (fun rest r s' => r.1 = none /\ s' = s /\ ∀ v ∈ rest, ∃ i t, v = Value.int i t) _ ?_ ?_ _ _ ⟨rfl, rfl, hv⟩
 ·rintro v rest r s' ⟨hr, rfl, hall⟩
  obtain ⟨i, t, rfl⟩ := hall v Qf
  refine Qa ?_
  unfold ofAClassStatement
  refine Qb ?_
  simp only [Qp, if_false]
  exact Qb ⟨rfl, rfl, fun u hu' => hall u (Qd _ hu')⟩
 ·rintro ⟨r1, r2⟩ s' ⟨hr, rfl, _⟩
  simp only at hr
  subst hr
  exact Qb h
theorem zJR {k : List Int} {a : Addr} {Q : Bool -> Shared -> Prop} (hk : TK prog w s.heap k a) (h : Q true s) : wpAny (model prog w) A (hashByValue 8 (.ref a)) Q E s := by
 have hT := hk.typeIs
 obtain ⟨o, items, n, ho, _, hd, hi⟩ := hk
 have hv := items_int hi
 unfold hashByValue
 refine Qa (wpAny_specialOf hT F.slot_tuple_hash.lookup ?_)
 dsimp only
 refine Qa (wpAny_seqItems ho hd ?_)
 refine Qa ?_
 show wpAny _ _ (forIn items _ _) _ _ s
 rw [<- Array.forIn_toList]
 refine Ja _ (fun rest r s' => r.1 = none /\ s' = s /\ ∀ v ∈ rest, ∃ i t, v = Value.int i t) _ ?_ ?_ _ _ ⟨rfl, rfl, hv⟩
 ·rintro v rest r s' ⟨hr, rfl, hall⟩
  obtain ⟨i, t, rfl⟩ := hall v Qf
  refine Qa ?_
  unfold hashByValue
  refine Qb ?_
  simp only [YL, Qp, if_false]
  exact Qb ⟨rfl, rfl, fun u hu' => hall u (Qd _ hu')⟩
 ·rintro ⟨r1, r2⟩ s' ⟨hr, rfl, _⟩
  simp only at hr
  subst hr
  exact Qb h
theorem zIl {k : List Int} {a : Addr} {stored : List Value} {Q : Bool -> Shared -> Prop} (hk : TK prog w s.heap k a) (hs : ∀ y ∈ stored, ∃ k' b, y = .ref b /\ TK prog w s.heap k' b) (h : Q false s) :
  wpAny (model prog w) A (searchCouldBeSeen (.ref a) stored) Q E s := by
 unfold searchCouldBeSeen
 refine Qa ?_
 refine Ja _ (fun rest r s' => r.1 = none /\ s' = s /\ ∀ y ∈ rest, ∃ k' b, y = .ref b /\ TK prog w s.heap k' b) _ ?_ ?_ _ _ ⟨rfl, rfl, hs⟩
 ·rintro v rest r s' ⟨hr, rfl, hall⟩
  have hrest : ∀ y ∈ rest, ∃ k' b, y = .ref b /\ TK prog w s'.heap k' b := fun u hu' => hall u (Qd _ hu')
  obtain ⟨k', b, rfl, hb⟩ := hall v Qf
  dsimp only
  by_cases c : (a == b) = true
  ·rw [c]
   simp only [Bool.true_or, if_true]
   exact Qb ⟨rfl, rfl, hrest⟩
  ·rw [if_neg (by simp [carriedByValue, c])]
   refine Qa (wpAny_eqIsQuiet_tuple hk ?_)
   simp only [YL, Qp, if_false]
   refine Qa (wpAny_eqIsQuiet_tuple hb ?_)
   simp only [YL, Qp, if_false]
   refine Qa (zIi hk ?_)
   simp only [Qp, if_false]
   refine Qa (zIi hb ?_)
   simp only [Qp, if_false]
   exact Qb ⟨rfl, rfl, hrest⟩
 ·rintro ⟨r1, r2⟩ s' ⟨hr, rfl, _⟩
  simp only at hr
  subst hr
  exact Qb h
end
end ST
namespace ST
open PySem PySem.SetTable
section
variable {prog : Program} {w : World} {A : Around} {E : Value -> Shared -> Prop} {s : Shared}
inductive Ents (prog : Program) (w : World) (h : Heap) : List (Int × Value) -> List (List Int) -> Prop
 | nil : Ents prog w h [] []
 | cons {k : List Int} {b : Addr} {es : List (Int × Value)} {ks : List (List Int)} : TK prog w h k b -> Ents prog w h es ks -> Ents prog w h ((TH prog w k, .ref b) :: es) (k :: ks)
theorem Ents.at {h : Heap} {es : List (Int × Value)} {ks : List (List Int)} (X : Ents prog w h es ks) : ∀ {i : Nat} {e : Int × Value}, es[i]? = some e -> ∃ k b, ks[i]? = some k /\ e = (TH prog w k, .ref b) /\ TK prog w h k b := by
 induction X with
 | nil => intro i e h; simp at h
 | @cons k b es ks h1 _ ih =>
  intro i e h
  cases i with
  | zero => cases h; exact ⟨k, b, rfl, rfl, h1⟩
  | succ i => exact ih (i := i) (by simpa using h)
theorem Ents.length {h : Heap} {es : List (Int × Value)} {ks : List (List Int)} (X : Ents prog w h es ks) : es.length = ks.length := by
 induction X with
 | nil => rfl
 | cons _ _ ih => simp [ih]
theorem Ents.append {h : Heap} {es es' : List (Int × Value)} {ks ks' : List (List Int)} (X : Ents prog w h es ks) (Y : Ents prog w h es' ks') : Ents prog w h (es ++ es') (ks ++ ks') := by
 induction X with
 | nil => exact Y
 | cons h1 _ ih => exact .cons h1 ih
theorem Ents.take {h : Heap} {es : List (Int × Value)} {ks : List (List Int)} (X : Ents prog w h es ks) : ∀ n, Ents prog w h (es.take n) (ks.take n) := by
 induction X with
 | nil => intro n; simpa using Ents.nil
 | cons h1 _ ih =>
  intro n
  cases n with
  | zero => exact .nil
  | succ n => exact .cons h1 (ih n)
theorem Ents.drop {h : Heap} {es : List (Int × Value)} {ks : List (List Int)} (X : Ents prog w h es ks) : ∀ n, Ents prog w h (es.drop n) (ks.drop n) := by
 induction X with
 | nil => intro n; simpa using Ents.nil
 | @cons k b es ks h1 hr ih =>
  intro n
  cases n with
  | zero => exact .cons h1 hr
  | succ n => exact ih n
theorem Ents.mono {h h' : Heap} {es : List (Int × Value)} {ks : List (List Int)} (X : Ents prog w h es ks) (m : ∀ k b, TK prog w h k b -> TK prog w h' k b) : Ents prog w h' es ks := by
 induction X with
 | nil => exact .nil
 | cons h1 _ ih => exact .cons (m _ _ h1) ih
theorem Ents.pick {h : Heap} {es : List (Int × Value)} {ks : List (List Int)} (X : Ents prog w h es ks) : ∀ (l : List Nat), (∀ i ∈ l, i < es.length) -> Ents prog w h (l.filterMap (es[·]?)) (l.filterMap (ks[·]?)) := by
 intro l
 induction l with
 | nil => intro _; exact .nil
 | cons i l ih =>
  intro hl
  have hi := hl i Qf
  obtain ⟨k, b, h1, h2, h3⟩ := X.at (Qi hi)
  rw [List.filterMap_cons_some (b := (TH prog w k, Value.ref b)) (by rw [Qi hi, h2]), List.filterMap_cons_some (b := k) h1]
  exact .cons h3 (ih fun j hj => hl j (Qd _ hj))
theorem TOk.fits {t : SetTable} {hs : List Int} (T : TOk t hs) {n : Nat} (e : hs.length = n) : t.fits n = true := by
 have h1 := T.len
 have h2 := T.room
 rw [Qo] at h1 h2
 unfold SetTable.fits SetTable.fill
 rw [T.dum, h1, e]
 rw [h1] at h2
 simp only [Qw, beq_iff_eq, decide_eq_true_eq]
 refine ⟨?_, ?_⟩
 ·trivial
 ·show n + 0 <= t.mask
  lia
theorem TOk.odd {t : SetTable} {hs : List Int} (T : TOk t hs) : t.gaveWay = false := by
 unfold SetTable.gaveWay
 rcases T.good with h | h | h | h | h | h <;> rw [h] <;> rfl
theorem zIY {a x : Addr} {o : Obj} {es : Array (Int × Value)} {ep : Nat} {t : SetTable} {ks : List (List Int)} {k : List Int} {n : Nat} {Q : SetFound -> Shared -> Prop}
  (hu : A.units < cLine) (ho : s.heap.get? a = some o) (hd : o.data = .set es ep t) (T : TOk t (es.toList.map (·.1))) (X : Ents prog w s.heap es.toList ks) (hk : TK prog w s.heap k x)
  (h1 : (P t.mask (TH prog w k) n).j ∉ t.place.toList) (h2 : ∀ m, m < n -> (P t.mask (TH prog w k) m).j ∈ t.place.toList)
  (q1 : k ∈ ks -> Q (.there none) s) (q2 : k ∉ ks -> Q (.free (P t.mask (TH prog w k) n).j false) s) :
  ∀ fuel c, c <= n -> n < 10 * turns t.mask -> n - c < fuel -> (∀ m, m < c -> ∀ i, t.slot (P t.mask (TH prog w k) m).j = .live i -> ks[i]? ≠ some k) -> ∀ stand : Option Probe, stand.getD (t.probeStart (TH prog w k)) = P t.mask (TH prog w k) c ->
  wpAny (model prog w) A (setSearchFrom a (.ref x) (TH prog w k) true fuel stand) Q E s
 | 0, c, _, _, hf, _, _, _ => absurd hf (Yx _)
 | fuel + 1, c, hc, hN, hf, inv, stand, hst => by
  have hfit : t.fits es.size = true := T.fits (by simp)
  unfold setSearchFrom
  refine Qa (QR ho hd hfit ?_)
  dsimp only
  rw [hst, if_neg (by rw [T.odd]; exact Qs)]
  refine Qa (Qb ?_)
  generalize hg : t.probe _ (TH prog w k) (P t.mask (TH prog w k) c) = met
  obtain ⟨f, hfe, hg⟩ : ∃ f : Nat -> Int, (∀ i, f i = (es[i]?.map (·.1)).getD 0) /\ t.probe f (TH prog w k) (P t.mask (TH prog w k) c) = met := ⟨_, fun _ => rfl, hg⟩
  have key : ∀ m i, t.slot (P t.mask (TH prog w k) m).j = .live i -> f i ≠ TH prog w k -> ks[i]? ≠ some k := fun m i hi hne hki => by
   have hp := zI8 T.dum T.up hi
   have hl : i < es.toList.length := by
    have := (Qe.mp hp).1
    rw [T.len] at this
    simpa using this
   obtain ⟨k', b, e1, e2, e3⟩ := X.at (Qi hl)
   rw [hki] at e1
   cases e1
   apply hne
   rw [hfe, <- QI, Qi hl, e2]
   rfl
  have hgo := zHB (hashAt := f) T h1 h2 (10 * turns t.mask) c hc (by lia)
  rcases hgo with ⟨g1, g2⟩ | ⟨m, i, g1, g2, g3, g4, g5, g6⟩
  ·have : met = some (.empty (P t.mask (TH prog w k) n).j none) := hg.symm.trans g1
   subst this
   dsimp only
   refine Qb (q2 fun hmem => ?_)
   obtain ⟨i, hi⟩ := QU hmem
   have hl : i < es.toList.length := by rw [X.length]; exact (Qe.mp hi).1
   obtain ⟨k', b, e1, e2, e3⟩ := X.at (Qi hl)
   rw [hi] at e1
   cases e1
   have hpl : i < t.place.toList.length := by rw [T.len]; simpa using hl
   obtain ⟨m, hm, hj⟩ := met T h1 (Qi hpl) (h := TH prog w k) (by rw [QQ, Qi hl, e2]; rfl)
   obtain ⟨i', hs1, hs2⟩ | ⟨_, hs2⟩ := zEg T.dum T.up (P t.mask (TH prog w k) m).j
   ·have hii : i' = i := by
     rw [hj] at hs2
     have a1 := Qi hpl
     by_cases l1 : i' < i
     ·have := T.up.at hs2 a1 l1; lia
     ·by_cases l2 : i < i'
      ·have := T.up.at a1 hs2 l2; lia
      ·lia
    subst hii
    by_cases cm : m < c
    ·exact inv m cm i' hs1 hi
    ·exact key m i' hs1 (g2 m (by lia) hm i' hs1) hi
   ·rw [hj] at hs2
    exact hs2 (Yz _)
  ·have : met = some (.candidate (P t.mask (TH prog w k) m).j i (P t.mask (TH prog w k) (m + 1))) := hg.symm.trans g6
   subst this
   have hp := zI8 T.dum T.up g3
   have hl : i < es.toList.length := by
    have := (Qe.mp hp).1
    rw [T.len] at this
    simpa using this
   obtain ⟨k', b, e1, e2, e3⟩ := X.at (Qi hl)
   have hei : es[i]? = some (TH prog w k', .ref b) := by rw [<- QI, Qi hl, e2]
   dsimp only
   have hseen : ∀ y ∈ (es.filter (fun x => x.1 == TH prog w k)).toList.map (fun x => x.2), ∃ k' b, y = .ref b /\ TK prog w s.heap k' b := fun y hy => by
    obtain ⟨e, he, rfl⟩ := Qr.mp hy
    have he' : e ∈ es.toList := by
     rw [Array.toList_filter] at he
     exact (QK.mp he).1
    obtain ⟨i2, hi2⟩ := QU he'
    obtain ⟨k2, b2, _, z2, z3⟩ := X.at hi2
    exact ⟨k2, b2, by rw [z2], z3⟩
   split
   all_goals try (refine Qa (zIl hk hseen ?_); rw [if_neg Qs])
   all_goals
    rw [hei]
    dsimp only
    refine Qa (Ya (wpAny_eqBool_tuple hu e3 hk ?_))
    refine Qa (QR ho hd hfit ?_)
    dsimp only
    by_cases hkk : k' = k
    ·rw [if_pos (by simp [hkk])]
     exact Qb (q1 (hkk ▸ QO e1))
    ·rw [if_neg (by simp [hkk]), show t.sameMemory t.moves t.mask = some true by unfold sameMemory; simp]
     dsimp only
     rw [if_pos rfl, g3]
     dsimp only
     rw [hei]
     dsimp only
     refine Qa (wpAny_isSame_ref_self ?_)
     simp only [if_true]
     refine Qa (Qb ?_)
     dsimp only
     rw [if_neg (by simp [hkk])]
     refine zIY hu ho hd T X hk h1 h2 q1 q2 fuel (m + 1) (by lia) hN (by lia) (fun m' hm' i' hi' => ?_) _ rfl
     by_cases l1 : m' < c
     ·exact inv m' l1 i' hi'
     ·by_cases l2 : m' = m
      ·subst l2
       rw [g3] at hi'
       cases hi'
       rw [e1]
       exact fun e => hkk (QJ e)
      ·exact key m' i' hi' (g5 m' (by lia) (by lia) i' hi')
end
end ST
namespace ST
open PySem PySem.SetTable
section
variable {prog : Program} {w : World} {A : Around} {E : Value -> Shared -> Prop} {s : Shared}
theorem TK.keep {h h' : Heap} {a b : Addr} {o : Obj} {es : Array (Int × Value)} {ep : Nat} {t : SetTable} {k : List Int} (ho : h.get? a = some o) (hd : o.data = .set es ep t) (hs : Heap.SameBut a h h') (x : TK prog w h k b) : TK prog w h' k b := by
 obtain ⟨o', items, n, ho', hc, hd', hi⟩ := x
 have hne : b ≠ a := by
  rintro rfl
  obtain rfl : o' = o := QJ (ho'.symm.trans ho)
  rw [hd] at hd'; exact nomatch hd'
 exact ⟨o', items, n, (hs.2 b hne).trans ho', hc, hd', hi⟩
noncomputable def ledW (w : World) : Bool := !w.params.followText "set-order"
noncomputable def SetT (prog : Program) (w : World) (V : Value -> Prop) (h : Heap) (a : Addr) (ks : List (List Int)) : Prop :=
 ∃ o es ep t, h.get? a = some o /\ o.ExactSet /\ o.data = .set es ep t /\ TOk t (es.toList.map (·.1)) /\ (t.plain = true /\ t.led = ledW w) /\ Ents prog w h es.toList ks /\ ks.Nodup /\ ∀ e ∈ es.toList, V e.2
theorem zFv (es : List (Int × Value)) : ∀ l : List Nat, (∀ i ∈ l, i < es.length) -> (l.filterMap (es[·]?)).map (·.1) = l.map fun i => (es.map (·.1)).getD i 0
 | [], _ => rfl
 | i :: l, h => by
  have hi := h i Qf
  rw [List.filterMap_cons_some (b := es[i]) (Qi hi), Ql, Ql, zFv es l fun j hj => h j (Qd _ hj)]
  congr 1
  rw [Yd, QQ, Qi hi]
  rfl
theorem zK3 {t : SetTable} {hs : List Int} (T : TOk t hs) (hf : (t.place.toList.length + 1) * 5 >= t.mask * 3) (h76 : t.place.toList.length + 1 <= 76) :
  ∃ M, sizeAbove (grown (t.place.toList.length + 1)) - 1 = M /\ Good M /\ (t.place.toList.length + 1) * 5 < M * 3 /\ ¬ sizeAbove (grown (t.place.toList.length + 1)) > sizeLine := by
 have hr := T.room
 rcases T.good with g | g | g | g | g | g
 ·rw [g] at hr hf
  have e : t.place.toList.length + 1 = 5 := by lia
  rw [e]
  exact ⟨31, by decide, .inr (.inl rfl), by decide, by rw [Ye]; decide⟩
 ·rw [g] at hr hf
  have e : t.place.toList.length + 1 = 19 := by lia
  rw [e]
  exact ⟨127, by decide, .inr (.inr (.inl rfl)), by decide, by rw [Ye]; decide⟩
 ·rw [g] at hr hf
  lia
 ·rw [g] at hr hf
  have e : t.place.toList.length + 1 = 9 := by lia
  rw [e]
  exact ⟨63, by decide, .inr (.inr (.inr (.inr (.inl rfl)))), by decide, by rw [Ye]; decide⟩
 ·rw [g] at hr hf
  have e : t.place.toList.length + 1 = 38 := by lia
  rw [e]
  exact ⟨255, by decide, .inr (.inr (.inr (.inr (.inr rfl)))), by decide, by rw [Ye]; decide⟩
 ·rw [g] at hr hf
  lia
theorem zIL {V : Value -> Prop} {a : Addr} {o : Obj} {es : Array (Int × Value)} {ep : Nat} {t : SetTable} {ks : List (List Int)} {wanted M : Nat} {Q : Unit -> Shared -> Prop}
  (ho : s.heap.get? a = some o) (hex : o.ExactSet) (hd : o.data = .set es ep t) (hfit : t.fits es.size = true) (hp : t.plain = true /\ t.led = ledW w) (X : Ents prog w s.heap es.toList ks) (hnd : ks.Nodup) (hV : ∀ e ∈ es.toList, V e.2)
  (hM : sizeAbove wanted - 1 = M) (g : Good M) (hl : es.size * 5 < M * 3) (hz : ¬ sizeAbove wanted > sizeLine) (hsz : es.size <= sizeLine)
  (h : ∀ h' ks', Heap.SameBut a s.heap h' -> SetT prog w V h' a ks' -> List.Perm ks' ks -> Q () { s with heap := h' }) :
  wpAny (model prog w) A (setRelay a wanted) Q E s := by
 obtain ⟨t', order, r1, r2, r3, r4, r5⟩ := zNy (t := t) (hs := es.map (·.1)) hM g (by simpa using hl)
 have hlt : ∀ i ∈ order.toList, i < es.toList.length := fun i hi => by
  have := QL.mp (r2.mem_iff.mp hi)
  simpa using this
 have hes : (order.filterMap (es[·]?)).toList = order.toList.filterMap (es.toList[·]?) := by
  rw [Jl]
  congr 1
  funext i
  rw [QI]
 have hperm : List.Perm (order.filterMap (es[·]?)).toList es.toList := by
  rw [Jl]
  refine (r2.filterMap _).trans ?_
  rw [YZ, filterMap_getElem?_range]
 have hsize : (order.filterMap (es[·]?)).size = es.size := by rw [<- Qo, hperm.length_eq, Qo]
 unfold setRelay
 refine Qa (QR ho hd hfit ?_)
 dsimp only
 rw [if_neg hz]
 rw [r1]
 refine Qa ?_
 show wpAny _ _ (if ((order.filterMap (es[·]?)).size != es.size) = true then _ else pure (order.filterMap (es[·]?), t')) _ _ s
 rw [if_neg (by simp [hsize])]
 refine Qb ?_
 dsimp only
 refine Y6 ho hd ?_ (by rw [hsize]; exact hsz)
 have hg : (s.heap.update a (Obj.putSet (order.filterMap (es[·]?)) t')).get? a = some { o with data := .set (order.filterMap (es[·]?)) (ep + 1) t' } := by
  have := Q9 (Obj.putSet (order.filterMap (es[·]?)) t') ho (by rw [Jc _ t' hd]; rfl)
  rw [Jc _ t' hd] at this; exact this
 have hsb := QX s.heap a (Obj.putSet (order.filterMap (es[·]?)) t')
 refine h _ (order.toList.filterMap (ks[·]?)) hsb ⟨_, _, _, t', hg, hex, rfl, ?_, ⟨by rw [r5]; exact hp.1, by rw [r4]; exact hp.2⟩, ?_, ?_, fun e he => hV e (hperm.mem_iff.mp he)⟩ ?_
 ·rw [hes, zFv _ _ hlt]
  simpa using r3
 ·rw [hes]
  exact (X.pick _ hlt).mono fun k b => TK.keep ho hd hsb
 ·have : List.Perm (order.toList.filterMap (ks[·]?)) ks := by
   refine (r2.filterMap _).trans ?_
   rw [YZ, <- Qo, X.length, YR]
  exact this.nodup_iff.mpr hnd
 ·refine (r2.filterMap _).trans ?_
  rw [YZ, <- Qo, X.length, YR]
theorem zGF {V : Value -> Prop} {a x : Addr} {ks : List (List Int)} {k : List Int} {Q : Bool -> Shared -> Prop} (hu : A.units < cLine) (S : SetT prog w V s.heap a ks) (hk : TK prog w s.heap k x) (hx : V (.ref x)) (h76 : ks.length + 1 <= 76)
  (q1 : k ∈ ks -> Q false s) (q2 : k ∉ ks -> ∀ h' ks', Heap.SameBut a s.heap h' -> SetT prog w V h' a ks' -> List.Perm ks' (k :: ks) -> Q true { s with heap := h' }) :
  wpAny (model prog w) A (setAddHashed a (.ref x) (TH prog w k)) Q E s := by
 obtain ⟨o, es, ep, t, ho, hex, hd, T, hp, X, hnd, hV⟩ := S
 have hfit : t.fits es.size = true := T.fits (by simp)
 have hlen : t.place.toList.length = ks.length := by rw [T.len, Qg, X.length]
 have hes : es.size = ks.length := by rw [<- X.length, Qo]
 have hroom := T.room
 obtain ⟨n, n1, n2, n3⟩ := zHq (l := t.place.toList) T.good (by lia) (TH prog w k)
 have hM : t.mask <= 255 := by rcases T.good with g | g | g | g | g | g <;> lia
 unfold setAddHashed setAddHashedIn
 refine Ya (Qa (QR ho hd hfit ?_))
 dsimp only
 rw [if_neg (by simp [byScan, Value.scannable])]
 refine Qa ?_
 unfold setSearch
 refine zIY hu ho hd T X hk n2 n3 ?_ ?_ 100000 0 (QY _) n1 (by unfold turns at n1; lia) (fun m hm => absurd hm (Yx _)) none rfl
 ·intro hmem
  exact Qb (q1 hmem)
 ·intro hmem
  dsimp only
  refine Qa (QR ho hd hfit ?_)
  dsimp only
  rw [if_pos (show (t.put (P t.mask (TH prog w k) n).j).1.plain = true from hp.1)]
  refine Qa (zJR hk ?_)
  rw [if_pos rfl]
  have hesz : (insertAt es (t.put (P t.mask (TH prog w k) n).j).2 (TH prog w k, Value.ref x)).size = es.size + 1 := by
   rw [<- Qo, (YT _ _ _).length_eq]
   simp
  refine Qa (Y6 ho hd ?_ (by rw [hesz, Ye]; lia))
  have hg : (s.heap.update a (Obj.putSet (insertAt es (t.put (P t.mask (TH prog w k) n).j).2 (TH prog w k, Value.ref x)) (t.put (P t.mask (TH prog w k) n).j).1)).get? a = some { o with data := .set (insertAt es (t.put (P t.mask (TH prog w k) n).j).2 (TH prog w k, Value.ref x)) (ep + 1) (t.put (P t.mask (TH prog w k) n).j).1 } := by
   have := Q9 (Obj.putSet (insertAt es (t.put (P t.mask (TH prog w k) n).j).2 (TH prog w k, Value.ref x)) (t.put (P t.mask (TH prog w k) n).j).1) ho (by rw [Jc _ _ hd]; rfl)
   rw [Jc _ _ hd] at this; exact this
  have hsb := QX s.heap a (Obj.putSet (insertAt es (t.put (P t.mask (TH prog w k) n).j).2 (TH prog w k, Value.ref x)) (t.put (P t.mask (TH prog w k) n).j).1)
  have X2 : Ents prog w (s.heap.update a (Obj.putSet (insertAt es (t.put (P t.mask (TH prog w k) n).j).2 (TH prog w k, Value.ref x)) (t.put (P t.mask (TH prog w k) n).j).1)) (insertAt es (t.put (P t.mask (TH prog w k) n).j).2 (TH prog w k, Value.ref x)).toList (ks.take (t.put (P t.mask (TH prog w k) n).j).2 ++ k :: ks.drop (t.put (P t.mask (TH prog w k) n).j).2) := by
   rw [zBH]
   exact ((X.take _).append (.cons hk (X.drop _))).mono fun k b => TK.keep ho hd hsb
  have hkp : List.Perm (ks.take (t.put (P t.mask (TH prog w k) n).j).2 ++ k :: ks.drop (t.put (P t.mask (TH prog w k) n).j).2) (k :: ks) := by
   refine List.perm_middle.trans ?_
   rw [Yc]
  have hnd2 : (ks.take (t.put (P t.mask (TH prog w k) n).j).2 ++ k :: ks.drop (t.put (P t.mask (TH prog w k) n).j).2).Nodup := hkp.nodup_iff.mpr (Q5.mpr ⟨hmem, hnd⟩)
  have hV2 : ∀ e ∈ (insertAt es (t.put (P t.mask (TH prog w k) n).j).2 (TH prog w k, Value.ref x)).toList, V e.2 := fun e he => by
   have := (YT es (t.put (P t.mask (TH prog w k) n).j).2 (TH prog w k, Value.ref x)).mem_iff.mp he
   rw [Array.toList_push, QC, QB] at this
   rcases this with h | rfl
   ·exact hV e h
   ·exact hx
  have hfill : (t.put (P t.mask (TH prog w k) n).j).1.fill = t.place.toList.length + 1 := by
   show (insertAt t.place (below t.place (P t.mask (TH prog w k) n).j) (P t.mask (TH prog w k) n).j).size + (if has t.dummies _ = true then _ else t.dummies).size = _
   rw [T.dum, <- Qo, (YT _ _ _).length_eq]
   simp [has]
  have hfit2 : (t.put (P t.mask (TH prog w k) n).j).1.fits (insertAt es (t.put (P t.mask (TH prog w k) n).j).2 (TH prog w k, Value.ref x)).size = true := by
   unfold SetTable.fits
   rw [hfill, hesz]
   have : (t.put (P t.mask (TH prog w k) n).j).1.place.size = es.size + 1 := by
    show (insertAt t.place (below t.place (P t.mask (TH prog w k) n).j) (P t.mask (TH prog w k) n).j).size = _
    rw [<- Qo, (YT _ _ _).length_eq]
    simp
    rw [<- Qo, hlen, hes]
   rw [this]
   simp only [beq_self_eq_true, YW, decide_eq_true_eq]
   show t.place.toList.length + 1 <= t.mask
   lia
  by_cases hfull : (t.put (P t.mask (TH prog w k) n).j).1.tooFull = true
  ·rw [hfull]
   simp only [Bool.not_false, Jo, if_true]
   have hf5 : (t.place.toList.length + 1) * 5 >= t.mask * 3 := by
    unfold SetTable.tooFull at hfull
    rw [hfill] at hfull
    exact of_decide_eq_true hfull
   obtain ⟨M, m1, m2, m3, m4⟩ := zK3 T hf5 (by lia)
   refine Qa (zIL (V := V) hg hex rfl hfit2 hp X2 hnd2 hV2 (M := M) ?_ m2 ?_ ?_ ?_ ?_)
   ·rw [hes, <- hlen]; exact m1
   ·rw [hesz, hes, <- hlen]; exact m3
   ·rw [hes, <- hlen]; exact m4
   ·rw [hesz, Ye]; lia
   ·intro h' ks' hsb' S' pk
    exact Qb (q2 hmem h' ks' (hsb.trans hsb') S' (pk.trans hkp))
  ·rw [Jd] at hfull
   rw [hfull]
   simp only [Bool.and_false, Qp, if_false]
   have hf5 : (t.place.toList.length + 1) * 5 < t.mask * 3 := by
    unfold SetTable.tooFull at hfull
    rw [hfill] at hfull
    have := of_decide_eq_false hfull
    have e : (t.put (P t.mask (TH prog w k) n).j).1.mask = t.mask := rfl
    rw [e] at this
    lia
   have T2 := zNp T n2 n3 hf5 t.plain
   refine Qa (Qb (Qb (q2 hmem _ _ hsb ⟨_, _, _, _, hg, hex, rfl, ?_, hp, X2, hnd2, hV2⟩ hkp)))
   rw [zBH, QS, Ql, List.map_take, List.map_drop]
   exact T2
end
end ST
namespace ST
open PySem PySem.SetTable PyProof.Rows
section
variable {prog : Program} {w : World} {A : Around} {R : Result -> Shared -> Prop} {I : Addr} {fp wr : List Addr} {G : Array GenState -> Array GenState -> Prop} {n : Nat} {Pv : Nat -> Value -> Prop} {St : Nat -> Shared -> Prop} {V : Value -> Prop}
theorem TK.at {h h' : Heap} {k : List Int} {b : Addr} (x : TK prog w h k b) (e : ∀ o, h.get? b = some o -> h'.get? b = some o) : TK prog w h' k b := by
 obtain ⟨o, items, n, ho, r⟩ := x
 exact ⟨o, items, n, e o ho, r⟩
theorem SetT.moved {h h' : Heap} {a : Addr} {ks : List (List Int)} (S : SetT prog w V h a ks) (e : ∀ b o, h.get? b = some o -> (b = a ∨ ∃ k, TK prog w h k b) -> h'.get? b = some o) : SetT prog w V h' a ks := by
 obtain ⟨o, es, ep, t, ho, hex, hd, T, hp, X, hnd, hV⟩ := S
 exact ⟨o, es, ep, t, e a o ho (.inl rfl), hex, hd, T, hp, X.mono fun k b x => x.at fun o' ho' => e b o' ho' (.inr ⟨k, x⟩), hnd, hV⟩
noncomputable def Keys (ks : List (List Int)) (val : Nat -> List Int) (i : Nat) : Prop := ∀ k, k ∈ ks ↔ ∃ j, j < i /\ val j = k
theorem zLx {ks : List (List Int)} {val : Nat -> List Int} {i : Nat} (h : Keys ks val i) (hn : ks.Nodup) : ks.length <= i := by
 have : ks ⊆ (List.range i).map val := fun k hk => by
  obtain ⟨j, hj, e⟩ := (h k).mp hk
  exact Qr.mpr ⟨j, QL.mpr hj, e⟩
 have := Yo hn this
 simpa using this
theorem SetT.nodup {h : Heap} {a : Addr} {ks : List (List Int)} (S : SetT prog w V h a ks) : ks.Nodup := by
 obtain ⟨o, es, ep, t, ho, hex, hd, T, hp, X, hnd, hV⟩ := S
 exact hnd
theorem zJw (W : WalksS prog w A.in1 I fp wr G n Pv St) (S : Addr) (hSf : S ∉ fp) (hu : A.in1.units < cLine) (val : Nat -> List Int) (s0 : Heap)
  (hold : ∀ b o, s0.get? b = some o -> b ≠ S /\ b ∉ wr) (hval : ∀ i v, i < n -> Pv i v -> V v /\ ∃ b, v = .ref b /\ TK prog w s0 (val i) b) (hb : n <= 75) :
  ∀ (k i : Nat) (s : Shared) (ks : List (List Int)), n - i = k -> i <= n -> St i s -> (∀ b o, s0.get? b = some o -> s.heap.get? b = some o) ->
   SetT prog w (fun v => V v /\ ∃ k b, v = .ref b /\ TK prog w s0 k b) s.heap S ks -> Keys ks val i ->
   (∀ s' ks', Moved (S :: wr) G s s' -> (∀ b o, s0.get? b = some o -> s'.heap.get? b = some o) -> SetT prog w (fun v => V v /\ ∃ k b, v = .ref b /\ TK prog w s0 k b) s'.heap S ks' -> Keys ks' val n -> R (.ok (.ret .none)) s') ->
   codeAny (model prog w) A (.builtin "set.update.loop" ⟨[.ref S, .ref I], []⟩) R s := by
 have hSw : S ∉ wr := fun h => hSf (W.sub _ h)
 have hsub : ∀ b ∈ wr, b ∈ S :: wr := fun b hb => Qd _ hb
 have hmv : ∀ (s s' : Shared) ks, Moved wr G s s' -> (∀ b o, s0.get? b = some o -> s.heap.get? b = some o) -> SetT prog w (fun v => V v /\ ∃ k b, v = .ref b /\ TK prog w s0 k b) s.heap S ks -> SetT prog w (fun v => V v /\ ∃ k b, v = .ref b /\ TK prog w s0 k b) s'.heap S ks := fun s s' ks hm h0 hS => by
  obtain ⟨o, es, ep, t, ho, hex, hd, T, hp, X, hnd, hV⟩ := hS
  refine ⟨o, es, ep, t, hm.heap S _ hSw ho, hex, hd, T, hp, ?_, hnd, hV⟩
  clear hd hex ho T hp
  have : ∀ e ∈ es.toList, ∃ k b, e.2 = .ref b /\ TK prog w s0 k b := fun e he => (hV e he).2
  revert this
  clear hV hnd
  generalize es.toList = l at X
  intro this
  induction X with
  | nil => exact .nil
  | @cons k b es ks h1 hr ih =>
   refine .cons ?_ (ih fun e he => this e (Qd _ he))
   obtain ⟨k', b', e1, e2⟩ := this _ Qf
   have e1' : b = b' := by injection e1
   subst e1'
   obtain ⟨o', items, n', ho', r⟩ := e2
   refine h1.at fun o2 ho2 => ?_
   have := h0 b o' ho'
   rw [ho2] at this
   cases this
   exact hm.heap b _ (hold b _ ho').2 (h0 b _ ho')
 intro k
 induction k with
 | zero =>
  intro i s ks hk hi hst h0 hS hK hR
  have hin : i = n := by lia
  subst hin
  refine Y4 F.entry_set_update_loop ?_
  rw [Y7 Je _]
  show wpAny _ A.in1 (pyNext (.ref I) >>= _) _ _ s
  refine Qa (W.done s _ _ hst fun s' hm => ?_)
  show wpAny _ A.in1 (ret Value.none) _ _ s'
  exact Qb (hR s' ks (hm.mono hsub) (fun b o e => hm.heap b o (hold b o e).2 (h0 b o e)) (hmv s s' ks hm h0 hS) hK)
 | succ k ih =>
  intro i s ks hk hi hst h0 hS hK hR
  have hlt : i < n := by lia
  refine Y4 F.entry_set_update_loop ?_
  rw [Y7 Je _]
  show wpAny _ A.in1 (pyNext (.ref I) >>= _) _ _ s
  refine Qa (W.item i s _ _ hlt hst fun v s' hP hst' hm => ?_)
  obtain ⟨hVv, b, rfl, hb0⟩ := hval i v hlt hP
  have h0' : ∀ b o, s0.get? b = some o -> s'.heap.get? b = some o := fun b o e => hm.heap b o (hold b o e).2 (h0 b o e)
  have hb1 : TK prog w s'.heap (val i) b := hb0.at fun o e => h0' b o e
  have hS' := hmv s s' ks hm h0 hS
  show wpAny _ A.in1 (holding [Value.ref b] (setAdd S (.ref b)) >>= _) _ _ s'
  refine Qa (Ya ?_)
  unfold setAdd
  refine Ya ?_
  refine Qa (wpAny_pyHash_tuple hu hb1 ?_)
  have hlen := zLx hK hS.nodup
  have hmoved : ∀ (h' : Heap) (tk : Nat), s'.toks <= tk -> Heap.SameBut S s'.heap h' -> Moved (S :: wr) G s { s' with heap := h', toks := tk } := fun h' tk htk hsb =>
   (hm.mono hsub).then_heap htk fun b o hb e => by rw [hsb.2 b (fun h : b = S => hb (by rw [h]; exact Qf))]; exact e
  refine zGF (V := fun v => V v /\ ∃ k b, v = .ref b /\ TK prog w s0 k b) (s := { s' with toks := s'.toks + ((val i).length + 1) }) hu hS' hb1 ⟨hVv, val i, b, rfl, hb0⟩ (by lia) ?_ ?_
  ·intro hmem
   refine Qb ⟨plainId_quiet Je _, ih (i + 1) _ ks (by lia) hlt (W.frame _ s' s'.heap _ hst' (Yk _ _) fun b hb o e => e) h0' hS' ?_ fun s'' ks'' hm'' h0'' hS'' hK'' => ?_⟩
   ·intro k'
    rw [hK k']
    constructor
    ·rintro ⟨j, hj, e⟩; exact ⟨j, by lia, e⟩
    ·rintro ⟨j, hj, e⟩
     by_cases c : j = i
     ·subst c; subst e; exact (hK _).mp hmem
     ·exact ⟨j, by lia, e⟩
   ·exact hR s'' ks'' (Moved.trans W.gtrans (hmoved s'.heap _ (Yk _ _) (Heap.SameBut.refl S _)) hm'') h0'' hS'' hK''
  ·intro hmem h' ks' hsb hS2 hp
   have h02 : ∀ b o, s0.get? b = some o -> h'.get? b = some o := fun b o e => by
    rw [hsb.2 b (hold b o e).1]; exact h0' b o e
   refine Qb ⟨plainId_quiet Je _, ih (i + 1) _ ks' (by lia) hlt (W.frame _ s' _ _ hst' (Yk _ _) fun b hb o e => ?_) h02 hS2 ?_ fun s'' ks'' hm'' h0'' hS'' hK'' => ?_⟩
   ·rw [hsb.2 b (fun h : b = S => hSf (by rw [<- h]; exact hb))]; exact e
   ·intro k'
    rw [hp.mem_iff, Qh, hK k']
    constructor
    ·rintro (rfl | ⟨j, hj, e⟩)
     ·exact ⟨i, by lia, rfl⟩
     ·exact ⟨j, by lia, e⟩
    ·rintro ⟨j, hj, e⟩
     by_cases c : j = i
     ·subst c; exact .inl e.symm
     ·exact .inr ⟨j, by lia, e⟩
   ·exact hR s'' ks'' (Moved.trans W.gtrans (hmoved h' _ (Yk _ _) hsb) hm'') h0'' hS'' hK''
end
section
variable {prog : Program} {w : World} {A : Around} {E : Value -> Shared -> Prop} {s : Shared}
theorem zIe (a : Value) {Q₁ : Value -> Shared -> Prop}
  (h : Q₁ (.ref s.heap.objs.size) { s with heap := s.heap.push { cls := .type "set", dict := none, data := .set #[] 0 (.fresh 0 0 (ledW w)) } }) :
  codeAny (model prog w) A (.call (.builtin "set.__new__") ⟨[.type "set", a], []⟩) (wants Q₁ E) s := by
 refine codeAny_of_tree ?_
 show wpAny _ A.in1 (checkBuiltinCall "set.__new__" ⟨[.type "set", a], []⟩ >>= fun _ => again (.builtin "set.__new__" ⟨[.type "set", a], []⟩)) _ _ s
 refine Qa (wpAny_of_eq (F.newCall_set_1 a) (Qb ⟨plainId_quiet F.plain_set_new _, Y4 F.entry_set_new ?_⟩))
 rw [Y7 F.plain_set_new _]
 unfold Builtin.«set.__new__» Builtin.Frozenset.newClass
 have hsub := sub_set_self
 obtain ⟨hp, g, d, tk, os⟩ := s
 dsimp only
 wp_walk
 refine wpAny_askSetting (Qb ?_)
 dsimp only
 simp only [newObj]
 refine Qa (wpAny_alloc (Qb ?_))
 exact Qb h
theorem zN4 : isSubtype (.type "tuple") (.type "set") = pure false := by rw [isSubtype_type]; kernel_rfl
theorem zN3 : isSubtype (.type "tuple") (.type "frozenset") = pure false := by rw [isSubtype_type]; kernel_rfl
end
section
variable {prog : Program} {w : World} {A : Around} {E : Value -> Shared -> Prop} {s : Shared} {V : Value -> Prop}
theorem zJY {l : Addr} {items : Array Value} {kl : List (List Int)} {Q : Value -> Shared -> Prop}
  (hh : A.handled = none) (hu : A.units + 8 < cLine) (hl : s.heap.IsList l items) (hi : ∀ i v, items[i]? = some v -> V v /\ ∃ b, v = .ref b /\ TK prog w s.heap (kl.getD i []) b) (hb : items.size <= 75)
  (h : ∀ (h' : Heap) (tk : Nat) ks, SetT prog w V h' s.heap.objs.size ks -> Keys ks (fun i => kl.getD i []) items.size ->
   (∀ b o, s.heap.get? b = some o -> h'.get? b = some o) -> Q (.ref s.heap.objs.size) { s with heap := h', toks := tk }) :
  wpAny (model prog w) A (call (.type "set") [.ref l]) Q E s := by
 obtain ⟨c, tl, hmro⟩ := F.called_set.mro
 have hmade := F.called_set.made
 have hsub := F.called_set.sub
 refine wpAny_call (codeAny_of_tree ?_)
 show wpAny _ _ (callAny (.type "set") _) _ _ _
 refine Qb ⟨Code.quiet_builtin _ (by decide +kernel), Y4 F.entry_type_call ?_⟩
 rw [Around.under_plain (weight_type_call_type "set" [.ref l] []) rfl]
 have h1 := F.called_set.notType
 have h2 := F.called_set.canCreate
 have hct := F.typeCall_set_1 (.ref l)
 repeat (any_goals (first | assumption | wp_step))
 refine Js (zIe (.ref l) (E := E) (Q₁ := fun obj s₁ => obj = .ref s.heap.objs.size /\ s₁ = { s with heap := s.heap.push { cls := .type "set", dict := none, data := .set #[] 0 (.fresh 0 0 (ledW w)) } }) ⟨rfl, rfl⟩) fun r s₁ hr => ?_
 cases r with
 | error e => exact hr
 | ok fl =>
  cases fl with
  | ret obj =>
   obtain ⟨rfl, rfl⟩ := hr
   have hS : (s.heap.push { cls := .type "set", dict := none, data := .set #[] 0 (.fresh 0 0 (ledW w)) }).get? s.heap.objs.size = some { cls := .type "set", dict := none, data := .set #[] 0 (.fresh 0 0 (ledW w)) } := Qx _ rfl
   have hT : Shared.TypeIs { s with heap := s.heap.push { cls := .type "set", dict := none, data := .set #[] 0 (.fresh 0 0 (ledW w)) } } (.ref s.heap.objs.size) "set" := ⟨_, hS, rfl⟩
   have hli := F.called_set.init.lookup
   have hbi := F.called_set.init.bind (.ref s.heap.objs.size)
   repeat (any_goals (first | assumption | wp_step))
   refine Js (codeAny_call_builtin (R := wants (fun r s₂ => r = .none /\ ∃ h' tk ks, s₂ = { s with heap := h', toks := tk } /\
     SetT prog w V h' s.heap.objs.size ks /\ Keys ks (fun i => kl.getD i []) items.size /\
     (∀ b o, s.heap.get? b = some o -> h'.get? b = some o)) E) F.called_set.init.plain F.entry_set_init (check_set_init_1 hT ?_)) fun r₂ s₂ hr₂ => ?_
   ·obtain ⟨ol, hol, hcl, nl, hdl⟩ := hl
    obtain ⟨ocls, odict, odata, oslots⟩ := ol
    simp only at hcl hdl
    subst hcl; subst hdl
    have hol' : (s.heap.push { cls := .type "set", dict := none, data := .set #[] 0 (.fresh 0 0 (ledW w)) }).get? l = some { cls := .type "list", dict := odict, data := .seq items nl, slots := oslots } := Qc _ hol
    have hsls := F.sub_list_set
    have hslf := F.sub_list_frozenset
    have hne : (Value.type "list" == Value.type "dict") = false := by decide
    have hl1 : (s.heap.push { cls := .type "set", dict := none, data := .set #[] 0 (.fresh 0 0 (ledW w)) }).IsList l items := ⟨_, hol', rfl, nl, rfl⟩
    unfold Builtin.«set.__init__» noKeywords Builtin.Frozenset.updateFrom
    generalize hPI : pyIter = PI
    wp_walk
    subst hPI
    refine wpAny_pyIter_list hl1 ?_
    refine Qa (wpAny_runValue ?_)
    have hlS : l < s.heap.objs.size := Qk hol
    have hh3 : A.in1.in1.in1.handled = none := by simp [hh]
    have hneI : l ≠ (s.heap.push { cls := .type "set", dict := none, data := .set #[] 0 (.fresh 0 0 (ledW w)) }).objs.size := by
     rw [Ym]; exact Qq (YC hlS)
    have hSf : s.heap.objs.size ∉ [(s.heap.push { cls := .type "set", dict := none, data := .set #[] 0 (.fresh 0 0 (ledW w)) }).objs.size, l] := by
     rw [Ym]; simp only [Qh, QB, List.not_mem_nil, or_false, not_or]
     exact ⟨Qq (Nat.lt_succ_self _), YK hlS⟩
    have hunits : A.in1.in1.in1.units < cLine := by
     show A.units + 1 + 1 + 1 < cLine
     lia
    refine zJw (V := V) ((Walks.list hh3 _ l hneI items).toS) s.heap.objs.size
     hSf hunits (fun i => kl.getD i []) s.heap (fun b o e => ?_) (fun i v _ hv => hi i v hv) hb (items.size - 0) 0 _ [] (by lia) (QY _)
     ⟨⟨_, Qx _ rfl, rfl, rfl⟩, (hl1.push _)⟩ (fun b o e => ?_) ?hS0 ?hK0 ?hR
    ·have hlt : b < s.heap.objs.size := Qk e
     refine ⟨Qq hlt, fun hm => ?_⟩
     rw [Ym] at hm
     have : b = s.heap.objs.size + 1 := QB.mp hm
     rw [this] at hlt
     exact absurd hlt (Nat.not_lt.mpr (Nat.le_succ _))
    ·exact Qc _ (Qc _ e)
    case hS0 =>
     have hget : ((s.heap.push { cls := .type "set", dict := none, data := .set #[] 0 (.fresh 0 0 (ledW w)) }).push { cls := .type "list_iterator", data := .fields #[.ref l, .int 0 0] }).get? s.heap.objs.size
       = some { cls := .type "set", dict := none, data := .set #[] 0 (.fresh 0 0 (ledW w)) } := Qc _ hS
     exact ⟨_, #[], 0, _, hget, ⟨rfl, rfl, rfl⟩, rfl, ⟨.inl rfl, rfl, rfl, List.Pairwise.nil, fun x hx => by simp [SetTable.fresh] at hx, (by show 0 * 5 < 7 * 3; decide), fun q hq => by simp at hq⟩, ⟨rfl, rfl⟩, .nil, Y0, fun e he => by simp at he⟩
    case hK0 =>
     intro k
     simp
    case hR =>
     intro s' ks hm h0 hS' hK
     obtain ⟨h', g', d', tk', os'⟩ := s'
     have eg : g' = s.gens := hm.gens
     have ed : d' = s.drawn := hm.drawn
     have eo : os' = s.os := hm.os
     subst eg; subst ed; subst eo
     show wpAny _ _ _ _ _ _
     refine Qb ?_
     show wpAny _ _ (ret Value.none) _ _ _
     obtain ⟨o', es', ep', t', z1, z2, z3, z4, z5, z6, z7, z8⟩ := hS'
     exact Qb ⟨rfl, h', tk', ks, rfl, ⟨o', es', ep', t', z1, z2, z3, z4, z5, z6, z7, fun e he => (z8 e he).1⟩, hK, fun b o e => h0 b o e⟩
   ·cases r₂ with
    | error e => exact hr₂
    | ok fl₂ =>
     cases fl₂ with
     | ret r =>
      obtain ⟨rfl, h', tk, ks, rfl, hS', hK', hk'⟩ := hr₂
      repeat (any_goals (first | assumption | wp_step))
      exact h _ _ _ hS' hK' hk'
     | _ => exact hr₂.elim
  | _ => exact hr.elim
theorem zJX {l : Addr} {items : Array Value} {kl : List (List Int)} {Q : Value -> Shared -> Prop}
  (hh : A.handled = none) (hu : A.units + 8 < cLine) (hl : s.heap.IsTuple l items) (hi : ∀ i v, items[i]? = some v -> V v /\ ∃ b, v = .ref b /\ TK prog w s.heap (kl.getD i []) b) (hb : items.size <= 75)
  (h : ∀ (h' : Heap) (tk : Nat) ks, SetT prog w V h' s.heap.objs.size ks -> Keys ks (fun i => kl.getD i []) items.size ->
   (∀ b o, s.heap.get? b = some o -> h'.get? b = some o) -> Q (.ref s.heap.objs.size) { s with heap := h', toks := tk }) :
  wpAny (model prog w) A (call (.type "set") [.ref l]) Q E s := by
 obtain ⟨c, tl, hmro⟩ := F.called_set.mro
 have hmade := F.called_set.made
 have hsub := F.called_set.sub
 refine wpAny_call (codeAny_of_tree ?_)
 show wpAny _ _ (callAny (.type "set") _) _ _ _
 refine Qb ⟨Code.quiet_builtin _ (by decide +kernel), Y4 F.entry_type_call ?_⟩
 rw [Around.under_plain (weight_type_call_type "set" [.ref l] []) rfl]
 have h1 := F.called_set.notType
 have h2 := F.called_set.canCreate
 have hct := F.typeCall_set_1 (.ref l)
 repeat (any_goals (first | assumption | wp_step))
 refine Js (zIe (.ref l) (E := E) (Q₁ := fun obj s₁ => obj = .ref s.heap.objs.size /\ s₁ = { s with heap := s.heap.push { cls := .type "set", dict := none, data := .set #[] 0 (.fresh 0 0 (ledW w)) } }) ⟨rfl, rfl⟩) fun r s₁ hr => ?_
 cases r with
 | error e => exact hr
 | ok fl =>
  cases fl with
  | ret obj =>
   obtain ⟨rfl, rfl⟩ := hr
   have hS : (s.heap.push { cls := .type "set", dict := none, data := .set #[] 0 (.fresh 0 0 (ledW w)) }).get? s.heap.objs.size = some { cls := .type "set", dict := none, data := .set #[] 0 (.fresh 0 0 (ledW w)) } := Qx _ rfl
   have hT : Shared.TypeIs { s with heap := s.heap.push { cls := .type "set", dict := none, data := .set #[] 0 (.fresh 0 0 (ledW w)) } } (.ref s.heap.objs.size) "set" := ⟨_, hS, rfl⟩
   have hli := F.called_set.init.lookup
   have hbi := F.called_set.init.bind (.ref s.heap.objs.size)
   repeat (any_goals (first | assumption | wp_step))
   refine Js (codeAny_call_builtin (R := wants (fun r s₂ => r = .none /\ ∃ h' tk ks, s₂ = { s with heap := h', toks := tk } /\
     SetT prog w V h' s.heap.objs.size ks /\ Keys ks (fun i => kl.getD i []) items.size /\
     (∀ b o, s.heap.get? b = some o -> h'.get? b = some o)) E) F.called_set.init.plain F.entry_set_init (check_set_init_1 hT ?_)) fun r₂ s₂ hr₂ => ?_
   ·obtain ⟨ol, hol, hcl, nl, hdl⟩ := hl
    obtain ⟨ocls, odict, odata, oslots⟩ := ol
    simp only at hcl hdl
    subst hcl; subst hdl
    have hol' : (s.heap.push { cls := .type "set", dict := none, data := .set #[] 0 (.fresh 0 0 (ledW w)) }).get? l = some { cls := .type "tuple", dict := odict, data := .seq items nl, slots := oslots } := Qc _ hol
    have hsls := zN4
    have hslf := zN3
    have hne : (Value.type "tuple" == Value.type "dict") = false := by decide
    have hl1 : (s.heap.push { cls := .type "set", dict := none, data := .set #[] 0 (.fresh 0 0 (ledW w)) }).IsTuple l items := ⟨_, hol', rfl, nl, rfl⟩
    unfold Builtin.«set.__init__» noKeywords Builtin.Frozenset.updateFrom
    generalize hPI : pyIter = PI
    wp_walk
    subst hPI
    refine wpAny_pyIter_tuple hl1 ?_
    refine Qa (wpAny_runValue ?_)
    have hlS : l < s.heap.objs.size := Qk hol
    have hh3 : A.in1.in1.in1.handled = none := by simp [hh]
    have hneI : l ≠ (s.heap.push { cls := .type "set", dict := none, data := .set #[] 0 (.fresh 0 0 (ledW w)) }).objs.size := by
     rw [Ym]; exact Qq (YC hlS)
    have hSf : s.heap.objs.size ∉ [(s.heap.push { cls := .type "set", dict := none, data := .set #[] 0 (.fresh 0 0 (ledW w)) }).objs.size, l] := by
     rw [Ym]; simp only [Qh, QB, List.not_mem_nil, or_false, not_or]
     exact ⟨Qq (Nat.lt_succ_self _), YK hlS⟩
    have hunits : A.in1.in1.in1.units < cLine := by
     show A.units + 1 + 1 + 1 < cLine
     lia
    refine zJw (V := V) ((Walks.tuple hh3 _ l hneI items).toS) s.heap.objs.size
     hSf hunits (fun i => kl.getD i []) s.heap (fun b o e => ?_) (fun i v _ hv => hi i v hv) hb (items.size - 0) 0 _ [] (by lia) (QY _)
     ⟨⟨_, Qx _ rfl, rfl, rfl⟩, (hl1.push _)⟩ (fun b o e => ?_) ?hS0 ?hK0 ?hR
    ·have hlt : b < s.heap.objs.size := Qk e
     refine ⟨Qq hlt, fun hm => ?_⟩
     rw [Ym] at hm
     have : b = s.heap.objs.size + 1 := QB.mp hm
     rw [this] at hlt
     exact absurd hlt (Nat.not_lt.mpr (Nat.le_succ _))
    ·exact Qc _ (Qc _ e)
    case hS0 =>
     have hget : ((s.heap.push { cls := .type "set", dict := none, data := .set #[] 0 (.fresh 0 0 (ledW w)) }).push { cls := .type "tuple_iterator", data := .fields #[.ref l, .int 0 0] }).get? s.heap.objs.size
       = some { cls := .type "set", dict := none, data := .set #[] 0 (.fresh 0 0 (ledW w)) } := Qc _ hS
     exact ⟨_, #[], 0, _, hget, ⟨rfl, rfl, rfl⟩, rfl, ⟨.inl rfl, rfl, rfl, List.Pairwise.nil, fun x hx => by simp [SetTable.fresh] at hx, (by show 0 * 5 < 7 * 3; decide), fun q hq => by simp at hq⟩, ⟨rfl, rfl⟩, .nil, Y0, fun e he => by simp at he⟩
    case hK0 =>
     intro k
     simp
    case hR =>
     intro s' ks hm h0 hS' hK
     obtain ⟨h', g', d', tk', os'⟩ := s'
     have eg : g' = s.gens := hm.gens
     have ed : d' = s.drawn := hm.drawn
     have eo : os' = s.os := hm.os
     subst eg; subst ed; subst eo
     show wpAny _ _ _ _ _ _
     refine Qb ?_
     show wpAny _ _ (ret Value.none) _ _ _
     obtain ⟨o', es', ep', t', z1, z2, z3, z4, z5, z6, z7, z8⟩ := hS'
     exact Qb ⟨rfl, h', tk', ks, rfl, ⟨o', es', ep', t', z1, z2, z3, z4, z5, z6, z7, fun e he => (z8 e he).1⟩, hK, fun b o e => h0 b o e⟩
   ·cases r₂ with
    | error e => exact hr₂
    | ok fl₂ =>
     cases fl₂ with
     | ret r =>
      obtain ⟨rfl, h', tk, ks, rfl, hS', hK', hk'⟩ := hr₂
      repeat (any_goals (first | assumption | wp_step))
      exact h _ _ _ hS' hK' hk'
     | _ => exact hr₂.elim
  | _ => exact hr.elim
end
end ST
namespace SL
open PySem PySem.Spec PyProof.Rows L2 CL DL SD ST
section
variable {X : Cx} {pins : List (Addr × Obj)} {σ : L2.St} {H : Hp} {s : Shared}
theorem zBz (I : Inv X pins σ H s) {b : Addr} {k : List Int} (h : SqT X.K H b (k.map V.int)) : TK X.prog X.w s.heap k b := by
 obtain ⟨its, rv, it, hz⟩ := I.tuple h
 obtain ⟨o, h1, h2, n, h3⟩ := it
 refine ⟨o, its.toArray, n, h1, h2, h3, ?_⟩
 show ItemsAre (intKind X.prog X.w) k its
 clear h h3 h1 h2 hz
 generalize hxs : k.map V.int = xs at rv
 induction rv generalizing k with
 | nil =>
  cases k with
  | nil => exact .nil
  | cons _ _ => simp at hxs
 | @cons x u xs us r t ih =>
  cases k with
  | nil => simp at hxs
  | cons i k =>
   rw [Ql, List.cons.injEq] at hxs
   obtain ⟨e1, e2⟩ := hxs
   subst e1
   obtain ⟨tk, rfl⟩ := r
   exact .cons (intKind_is _ _ _ _) (ih e2)
abbrev KsK := List (List Int) -> Hp -> Prop
abbrev TSt := L2.St -> Hp -> KsK -> Prop
noncomputable def StP (X : Cx) (pins : List (Addr × Obj)) (σ : L2.St) (Q : KsK) (u : Value) (s' : Shared) : Prop :=
 ∃ a o ks H', u = .ref a /\ Inv X ((a, o) :: pins) σ H' s' /\ SetT X.prog X.w (fun v => ∃ b, ∃ xs : List Int, v = .ref b /\ SqT X.K H' b (xs.map V.int)) s'.heap a ks /\ (∀ p ∈ pins, p.1 ≠ a) /\ Q ks H'
noncomputable def PSt (X : Cx) (e : Expr) (t : TSt) : Prop :=
 ∀ (pins : List (Addr × Obj)) (s : Shared) (σ : L2.St) (H : Hp) (Q : KsK), Inv X pins σ H s -> t σ H Q -> wpAny (model X.prog X.w) X.A (eval e X.env) (StP X pins σ Q) X.xe s
noncomputable def tSet (K : PySem.W.Frag) (t : TA) : TSt := fun σ H Q => t σ H fun vs H1 => ∃ (a : Addr) (xs : List V) (kl : List (List Int)), vs = [.ref a] /\ (SqL K H1 a xs ∨ SqT K H1 a xs) /\ xs.length <= 75 /\ xs.length = kl.length /\ (∀ (i : Nat) (x : V), xs[i]? = some x -> ∃ b, x = .ref b /\ SqT K H1 b ((kl.getD i []).map V.int)) /\ ∀ ks : List (List Int), ks.Nodup -> (∀ k, k ∈ ks ↔ k ∈ kl) -> Q ks H1
theorem zDn {x : Str} {e : Expr} {p pos : Pos} {t : TA} (hc : X.calm = true) (hu : X.A.units + 64 < cLine) (hg : Gl X x) (hm : X.mg x = none) (hv : bootBuiltins x = some (.type "set")) (ha : PA X [e] t) (hn : x ≠ "__name__" := by decide) (hdb : (x == ("__debug__" : Str)) = false := by decide)
  (he : starEach [e] X.env = (false, eval e X.env) :: starEach [] X.env := by rfl) (hpl : (backTo pos (starEach [] X.env)).any (·.1) = false := by rfl) :
  PSt X (.Call (.Name x p) [e] [] pos) (tSet X.K t) := by
 intro pins s σ H Q I h
 refine Ji (zBU I hg hm hv ?_ hn hdb)
 refine YA (thn (ha pos pins s σ H _ I h) fun us s1 ⟨vs, H1, I1, r1, q1⟩ => ?_) he hpl
 obtain ⟨a, xs, kl, rfl, hq, h75, hlen, hks, q⟩ := q1
 obtain ⟨u, rfl, ru⟩ := zBN r1
 cases ru
 have go : ∀ its : List Value, Vals xs its -> (∀ (kl' : List (List Int)) (Q' : Value -> Shared -> Prop), (∀ i v, its.toArray[i]? = some v -> (∃ b, ∃ xs : List Int, v = .ref b /\ SqT X.K H1 b (xs.map V.int)) /\ ∃ b, v = .ref b /\ TK X.prog X.w s1.heap (kl'.getD i []) b) ->
   its.toArray.size <= 75 -> (∀ (h' : Heap) (tk : Nat) ks, SetT X.prog X.w (fun v => ∃ b, ∃ xs : List Int, v = .ref b /\ SqT X.K H1 b (xs.map V.int)) h' s1.heap.objs.size ks -> Keys ks (fun i => kl'.getD i []) its.toArray.size ->
   (∀ b o, s1.heap.get? b = some o -> h'.get? b = some o) -> Q' (.ref s1.heap.objs.size) { s1 with heap := h', toks := tk }) -> wpAny (model X.prog X.w) X.A (call (.type "set") [.ref a]) Q' X.xe s1) ->
   wpAny (model X.prog X.w) X.A (call (.type "set") [.ref a]) (StP X pins σ Q) X.xe s1 := by
  intro its rv cs
  have hsz : its.toArray.size = kl.length := by rw [QE, <- rv.length, hlen]
  refine cs kl _ (fun i v hv => ?_) (by rw [hsz]; lia) fun h' tk ks S' K' keep => ?_
  ·have hv' : its[i]? = some v := by simpa using hv
   have hi : i < xs.length := by
    have := (Qe.mp hv').1
    rw [rv.length]; exact this
   obtain ⟨u, e1, e2⟩ := Vals.get rv (Qi hi)
   rw [hv'] at e1
   cases e1
   obtain ⟨b, e3, e4⟩ := hks i _ (Qi hi)
   rw [e3] at e2
   cases e2
   exact ⟨⟨b, _, rfl, e4⟩, b, rfl, zBz I1 e4⟩
  ·obtain ⟨o, es, ep, t, z1, z2, z3, z4, z5, z6, z7, z8⟩ := S'
   have I2 : Inv X pins σ H1 { s1 with heap := h', toks := tk } := I1.kept keep
   have I3 : Inv X ((s1.heap.objs.size, o) :: pins) σ H1 { s1 with heap := h', toks := tk } := by
    refine I2.pins_of fun p hp => ?_
    rcases Qh.mp hp with rfl | hp
    ·refine ⟨z1, I1.hok.fresh (Qj _), YK I1.lt, I1.nofs (Qj _), fun v hv => ?_⟩
     rw [z3] at hv
     exact nomatch hv
    ·exact I2.pin p (Qy _ hp)
   refine ⟨_, o, ks, H1, rfl, I3, ⟨o, es, ep, t, z1, z2, z3, z4, z5, z6, z7, z8⟩, fun p hp => Qq (Qk (I1.pin p (Qy _ hp)).1), q ks z7 fun k => (K' k).trans ?_⟩
   rw [hsz]
   constructor
   ·rintro ⟨j, hj, rfl⟩
    show kl.getD j [] ∈ kl
    rw [Yd, Qi hj]
    exact Yz hj
   ·intro hk
    obtain ⟨j, hj⟩ := QU hk
    refine ⟨j, (Qe.mp hj).1, ?_⟩
    show kl.getD j [] = k
    rw [Yd, hj]
    rfl
 rcases hq with hq | hq
 ·obtain ⟨its, rv, pl, _⟩ := I1.list hq
  exact go its rv fun kl' Q' h1 h2 h3 => zJY (kl := kl') (I1.ok.hd hc) (by lia) pl.isList h1 h2 h3
 ·obtain ⟨its, rv, it, hz⟩ := I1.tuple hq
  exact go its rv fun kl' Q' h1 h2 h3 => zJX (kl := kl') (I1.ok.hd hc) (by lia) it h1 h2 h3
end
noncomputable def zCK : List D -> Option (List (List Int))
 | [] => some []
 | .tuple ds :: r => (zAE ds).bind fun is => (zCK r).bind fun rs => some (is :: rs)
 | _ => none
theorem zIO {K : PySem.W.Frag} {F : Addr -> Prop} {H : Hp} : ∀ {ds : List D} {vs : List V} {kl : List (List Int)}, Reps K F H ds vs -> zCK ds = some kl -> ds.length = kl.length /\ ∀ (i : Nat) (x : V), vs[i]? = some x -> ∃ b, x = .ref b /\ SqT K H b ((kl.getD i []).map V.int) := by
 intro ds
 induction ds with
 | nil => intro vs kl r h; cases r; cases h; exact ⟨rfl, fun i x e => by simp at e⟩
 | cons d ds ih =>
  intro vs kl r h
  cases r with
  | cons r0 r =>
   cases d with
   | tuple xs =>
    cases r0 with
    | tup h1 r1 =>
     obtain ⟨is, e1, h⟩ := bnd h
     obtain ⟨rs, e2, h⟩ := bnd h
     cases h
     obtain ⟨q1, q2⟩ := ih r e2
     refine ⟨by simp [q1], fun i x e => ?_⟩
     cases i with
     | zero =>
      cases e
      refine ⟨_, rfl, ?_⟩
      rw [zDO r1 e1] at h1
      exact h1
     | succ i => exact q2 i x (by simpa using e)
   | _ => cases h
noncomputable def tDSt (K : PySem.W.Frag) (g : Rho -> Option (List (List Int))) : TSt := fun σ H Q => TDx K σ H g fun F kl => ∀ F' H' (ks : List (List Int)), Ext F F' H H' -> ks.Nodup -> (∀ k, k ∈ ks ↔ k ∈ kl) -> Q ks H'
noncomputable def DSt (X : Cx) (e : Expr) (g : Rho -> Option (List (List Int))) : Prop := PSt X e (tDSt X.K g)
noncomputable def setD : List D -> Option (List (List Int))
 | [.list xs] => if xs.length <= 75 then zCK xs else none
 | [.tuple xs] => if xs.length <= 75 then zCK xs else none
 | _ => none
noncomputable def eSet (gr : Rho -> Option (List D)) : Rho -> Option (List (List Int)) := fun ρ => (gr ρ).bind setD
noncomputable def dd : List (List Int) -> List (List Int)
 | [] => []
 | k :: r => if k ∈ r then dd r else k :: dd r
theorem zDX : ∀ {l : List (List Int)} {k : List Int}, k ∈ dd l ↔ k ∈ l
 | [], k => by simp [dd]
 | x :: r, k => by
  unfold dd
  split
  ·rename_i h
   rw [zDX, Qh]
   constructor
   ·exact .inr
   ·rintro (rfl | h')
    ·exact h
    ·exact h'
  ·rw [Qh, Qh, zDX]
theorem zFI : ∀ l : List (List Int), (dd l).Nodup
 | [] => Y0
 | x :: r => by
  unfold dd
  split
  ·exact zFI r
  ·rename_i h
   exact Q5.mpr ⟨fun q => h (zDX.mp q), zFI r⟩
section
variable {X : Cx} {e : Expr} {p pos : Pos} {gr : Rho -> Option (List D)} {g : Rho -> Option (List (List Int))}
theorem ps_mono {e : Expr} {t t' : TSt} (h : PSt X e t) (m : ∀ σ H Q, t' σ H Q -> t σ H Q) : PSt X e t' := fun pins s σ H Q I q => h pins s σ H Q I (m σ H Q q)
theorem zEU {x : Str} (hc : X.calm = true) (hu : X.A.units + 64 < cLine) (hg : Gl X x) (hm : X.mg x = none) (hv : bootBuiltins x = some (.type "set")) (ha : DA X [e] gr) (hn : x ≠ "__name__" := by decide) (hdb : (x == ("__debug__" : Str)) = false := by decide)
  (he : starEach [e] X.env = (false, eval e X.env) :: starEach [] X.env := by rfl) (hpl : (backTo pos (starEach [] X.env)).any (·.1) = false := by rfl) :
  DSt X (.Call (.Name x p) [e] [] pos) (eSet gr) :=
 ps_mono (zDn hc hu hg hm hv ha hn hdb he hpl) fun σ H Q zz => by
  obtain ⟨F, H₀, ρ, kl, S, q, k⟩ := zz
  obtain ⟨ds, e1, q⟩ := bnd q
  refine ⟨F, H₀, ρ, ds, S, e1, fun F1 H1 vs E1 R1 => ?_⟩
  unfold setD at q
  split at q
  ·rename_i xs
   by_cases c : xs.length <= 75
   ·rw [if_pos c] at q
    cases R1 with
    | cons R2 R3 =>
     cases R3
     cases R2 with
     | @lst a us _ h1 r1 =>
      obtain ⟨z1, z2⟩ := zIO r1 q
      exact ⟨a, us, kl, rfl, .inl h1.sq, by rw [<- r1.length]; exact c, by rw [<- r1.length, z1], z2, fun ks hn hk => k F1 H1 ks E1 hn hk⟩
   ·rw [if_neg c] at q; cases q
  ·rename_i xs
   by_cases c : xs.length <= 75
   ·rw [if_pos c] at q
    cases R1 with
    | cons R2 R3 =>
     cases R3
     cases R2 with
     | @tup a us _ h1 r1 =>
      obtain ⟨z1, z2⟩ := zIO r1 q
      exact ⟨a, us, kl, rfl, .inr h1, by rw [<- r1.length]; exact c, by rw [<- r1.length, z1], z2, fun ks hn hk => k F1 H1 ks E1 hn hk⟩
   ·rw [if_neg c] at q; cases q
  ·cases q
end
end SL
namespace PySem.F
theorem set_iter_entry : entryFor table "set.__iter__" = some Builtin.«frozenset.__iter__» :=
 entryFor_alias (id' := "frozenset.__iter__") (by kernel_rfl) rfl (by decide +kernel) (by kernel_rfl)
theorem set_sub_entry : entryFor table "set.__sub__" = some Builtin.«frozenset.__sub__» :=
 entryFor_alias (id' := "frozenset.__sub__") (by kernel_rfl) rfl (by decide +kernel) (by kernel_rfl)
theorem zI5 : Manifest.owners.lookup (String.ofList ['r', 'o', 't', 'a', 'r', 'e', 't', 'i', '_', 't', 'e', 's'].reverse) = some Manifest.sig_set_iterator := by kernel_rfl
theorem si_next : Slot "set_iterator" "__next__" "set_iterator.__next__" :=
 .of (owner := "set_iterator") (n := "__next__") (by rw [typeLookup_type, builtinLookup_eq_fast]; kernel_rfl) (by decide +kernel) (by decide +kernel) (by decide +kernel)
  (.inl (by decide +kernel)) (by rw [isSubtype_type]; kernel_rfl)
theorem si_iter : Slot "set_iterator" "__iter__" "set_iterator.__iter__" :=
 .of (owner := "set_iterator") (n := "__iter__") (by rw [typeLookup_type, builtinLookup_eq_fast]; kernel_rfl) (by decide +kernel) (by decide +kernel) (by decide +kernel)
  (.inl (by decide +kernel)) (by rw [isSubtype_type]; kernel_rfl)
theorem si_iter_entry : entryFor table "set_iterator.__iter__" = some Builtin.«dict_keyiterator.__iter__» :=
 entryFor_alias (id' := "dict_keyiterator.__iter__") (by kernel_rfl) rfl (by decide +kernel) (by kernel_rfl)
theorem si_iter_args (a : Value) : argsOk "set_iterator.__iter__" ⟨[a], []⟩ := by
 unfold argsOk; rw [signature?_of (id := "set_iterator.__iter__") (n := ['_', '_', 'r', 'e', 't', 'i', '_', '_']) (o := ['r', 'o', 't', 'a', 'r', 'e', 't', 'i', '_', 't', 'e', 's']) (by kernel_rfl) zI5]; kernel_rfl
theorem si_next_entry : entryFor table "set_iterator.__next__" = some Builtin.«set_iterator.__next__» := entryFor_of_tree (by kernel_rfl)
theorem si_next_args (a : Value) : argsOk "set_iterator.__next__" ⟨[a], []⟩ := by
 unfold argsOk; rw [signature?_of (id := "set_iterator.__next__") (n := ['_', '_', 't', 'x', 'e', 'n', '_', '_']) (o := ['r', 'o', 't', 'a', 'r', 'e', 't', 'i', '_', 't', 'e', 's']) (by kernel_rfl) zI5]; kernel_rfl
end PySem.F
namespace ST
open PySem PySem.SetTable PyProof.Rows
theorem zIA {α : Type} (next : Nat -> Nat) : ∀ (fuel k : Nat) (left : List α) (out : Array α), left.length = fuel -> List.Perm (pickOrder.go next fuel k left out).toList (out.toList ++ left)
 | 0, k, left, out, h => by
  have : left = [] := List.length_eq_zero_iff.mp h
  subst this
  rw [Yn]
  exact .refl _
 | fuel + 1, k, left, out, h => by
  have hl : next k % left.length < left.length := Nat.mod_lt _ (by lia)
  unfold pickOrder.go
  rw [Qi hl]
  dsimp only
  refine (zIA next fuel (k + 1) _ _ (by rw [List.length_eraseIdx_of_lt hl]; lia)).trans ?_
  rw [Array.toList_push, Q1]
  refine List.Perm.append_left _ ?_
  rw [List.eraseIdx_eq_take_drop_succ]
  have e : left = left.take (next k % left.length) ++ left[next k % left.length] :: left.drop (next k % left.length + 1) := by
   rw [<- Yq hl, Yc]
  refine List.Perm.trans ?_ (.of_eq e.symm)
  show List.Perm (left[next k % left.length] :: (left.take (next k % left.length) ++ left.drop (next k % left.length + 1))) _
  exact List.perm_middle.symm
noncomputable def ordW (w : World) (a ep : Nat) (es : Array (Int × Value)) : Array (Int × Value) := if w.params.followText "set-order" = true then pickOrder (w.params.setOrder a ep) es else es
theorem zCI (w : World) (a ep : Nat) (es : Array (Int × Value)) : List.Perm (ordW w a ep es).toList es.toList := by
 unfold ordW
 split
 ·exact (zIA _ es.size 0 es.toList #[] (by simp)).trans (by simp)
 ·exact .refl _
theorem zD3 (w : World) (a ep : Nat) (es : Array (Int × Value)) : (ordW w a ep es).size = es.size := by
 have := (zCI w a ep es).length_eq
 simpa using this
theorem zJM (xs : Array Nat) (s : Up xs.toList) : below xs 0 = 0 := by
 obtain ⟨h1, h2, h3⟩ := zCs xs s 0
 by_cases c : below xs 0 = 0
 ·exact c
 ·have hl : 0 < xs.toList.length := by rw [Qo]; lia
  have := h2 0 _ (Qi hl) (by lia)
  lia
theorem zJL (xs : Array Nat) (s : Up xs.toList) {i j : Nat} (h : xs.toList[i]? = some j) : below xs (j + 1) = i + 1 := by
 obtain ⟨h1, h2, h3⟩ := zCs xs s (j + 1)
 have hi := (Qe.mp h).1
 rw [Qo] at hi
 by_cases a : below xs (j + 1) <= i
 ·have := h3 i j h a
  lia
 ·by_cases b : below xs (j + 1) = i + 1
  ·exact b
  ·have hl : i + 1 < xs.toList.length := by rw [Qo]; lia
   have e := Qi hl
   have := h2 _ _ e (by lia)
   have := s.at h e (by lia)
   lia
structure zA9 (w : World) (h : Heap) (a : Addr) (o : Obj) (es : Array (Int × Value)) (ep : Nat) (t : SetTable) : Prop where
 get : h.get? a = some o
 ex : o.ExactSet
 data : o.data = .set es ep t
 fits : t.fits es.size = true
 up : Up t.place.toList
 plain : t.plain = true
 led : t.led = ledW w
theorem zA9.at {w : World} {h h' : Heap} {a : Addr} {o : Obj} {es : Array (Int × Value)} {ep : Nat} {t : SetTable} (S : zA9 w h a o es ep t) (e : h'.get? a = some o) : zA9 w h' a o es ep t := ⟨e, S.ex, S.data, S.fits, S.up, S.plain, S.led⟩
noncomputable def zCq (h : Heap) (I a : Addr) (slot i n ep : Nat) : Prop := ∃ o, h.get? I = some o /\ o.cls = .type "set_iterator" /\ o.data = .fields #[.int slot 0, .int i 0, .ref a, .int n 0, .int ep 0]
section
variable {prog : Program} {w : World} {A : Around} {E : Value -> Shared -> Prop} {s : Shared} {I a : Addr} {o : Obj} {es : Array (Int × Value)} {ep slot i : Nat} {t : SetTable}
theorem zCq.typeIs {n : Nat} (h : zCq s.heap I a slot i n ep) : s.TypeIs (.ref I) "set_iterator" := by
 obtain ⟨o, h1, h2, _⟩ := h
 exact ⟨o, h1, h2⟩
theorem zDA {Q : Bool -> Shared -> Prop} (h : Q (w.params.followText "set-order") s) : wpAny (model prog w) A setsByText Q E s := by
 unfold setsByText
 exact Qa (wpAny_askSetting (Qb h))
theorem zJz {Q : Array (Int × Value) -> Shared -> Prop} (S : zA9 w s.heap a o es ep t) (h : Q (ordW w a ep es) s) : wpAny (model prog w) A (setWalk a) Q E s := by
 unfold setWalk
 refine Qa (QR S.get S.data S.fits ?_)
 dsimp only
 refine Qa (zDA ?_)
 unfold ordW at h
 cases c : w.params.followText "set-order" with
 | true =>
  rw [c, if_pos rfl] at h
  rw [if_pos rfl]
  exact Qa (wpAny_askSetting (Qb h))
 | false =>
  rw [c, if_neg Qs] at h
  rw [if_neg Qs]
  have hd : (!t.plain && decide (es.size > 1)) = false := by rw [S.plain]; rfl
  have hl : (!t.led && decide (es.size > 1)) = false := by rw [S.led, ledW, c]; rfl
  show wpAny _ _ (if (!t.plain && decide (es.size > 1)) = true then _ else _) _ _ s
  rw [hd, if_neg Qs]
  refine Qa ?_
  show wpAny _ _ (if (!t.led && decide (es.size > 1)) = true then _ else _) _ _ s
  rw [hl, if_neg Qs]
  exact Qb (Qb h)
theorem zIh {Q : Option (Value × Nat) -> Shared -> Prop} (S : zA9 w s.heap a o es ep t) (hb : w.params.followText "set-order" = false -> below t.place slot = i)
  (h1 : ∀ x next, (ordW w a ep es)[i]? = some x -> (w.params.followText "set-order" = false -> below t.place next = i + 1) -> Q (some (x.2, next)) s) (h2 : es.size <= i -> Q none s) :
  wpAny (model prog w) A (setNext a slot i ep) Q E s := by
 unfold setNext
 refine Qa (QR S.get S.data S.fits ?_)
 dsimp only
 refine Qa (zDA ?_)
 cases c : w.params.followText "set-order" with
 | true =>
  rw [if_pos rfl, if_neg (by simp)]
  refine Qa (zJz S (Qb ?_))
  by_cases l : i < es.size
  ·have l' : i < (ordW w a ep es).size := by rw [zD3]; exact l
   rw [QG l']
   exact h1 _ _ (QG l') fun e => by rw [c] at e; cases e
  ·rw [Yp (by rw [zD3]; lia)]
   exact h2 (by lia)
 | false =>
  rw [if_neg Qs]
  have hd : (!t.plain && decide (es.size > 1)) = false := by rw [S.plain]; rfl
  have hl : (!t.led && !es.isEmpty) = false := by rw [S.led, ledW, c]; rfl
  show wpAny _ _ (if (!t.plain && decide (es.size > 1)) = true then _ else _) _ _ s
  rw [hd, if_neg Qs]
  refine Qa ?_
  show wpAny _ _ (if (!t.led && !es.isEmpty) = true then _ else _) _ _ s
  rw [hl, if_neg Qs]
  refine Qb (Qb ?_)
  have hps : t.place.size = es.size := by
   have := S.fits
   unfold SetTable.fits at this
   rw [Qw, beq_iff_eq] at this
   exact this.1
  rw [hb c]
  have ho : ordW w a ep es = es := by unfold ordW; rw [c, if_neg Qs]
  rw [ho] at h1
  by_cases l : i < es.size
  ·have l' : i < t.place.size := by lia
   rw [QG l, QG l']
   refine h1 _ _ (QG l) fun _ => zJL _ S.up ?_
   rw [QI, QG l']
  ·rw [Yp (by lia)]
   exact h2 (by lia)
theorem zLo {Q : Value -> Shared -> Prop} (S : zA9 w s.heap a o es ep t)
  (h : Q (.ref s.heap.objs.size) { s with heap := s.heap.push { cls := .type "set_iterator", data := .fields #[.int 0 0, .int 0 0, .ref a, .int (es.size : Nat) 0, .int (ep : Nat) 0] } }) : wpAny (model prog w) A (pyIter (.ref a)) Q E s := by
 have hT : s.TypeIs (.ref a) "set" := ⟨o, S.get, S.ex.1⟩
 refine wpAny_pyIter_slot hT F.slot_set_iter (Yj F.slot_set_iter hT F.set_iter_entry ?_ (F.args_set_iter_1 _))
 unfold Builtin.«frozenset.__iter__» Builtin.Frozenset.slot0 slotArgs
 simp only [List.isEmpty_nil, YL, Qp, ↓reduceIte, bind_assoc, JA, bne_self_eq_false]
 unfold Builtin.Frozenset.addrOf Builtin.Frozenset.sizeOf
 refine Qa (Qb ?_)
 refine Qa (Qb ?_)
 refine Qa (Qa (Jw S.get S.data S.fits (Qb ?_)))
 unfold setDrawn
 refine Qa (Qa (QR S.get S.data S.fits ?_))
 dsimp only
 refine Qa (zDA ?_)
 refine Qb ?_
 have hd : (!(w.params.followText "set-order") && (!t.plain && decide (es.size > 1))) = false := by rw [S.plain]; simp
 show wpAny _ _ (if (!(w.params.followText "set-order") && (!t.plain && decide (es.size > 1))) = true then _ else _) _ _ s
 rw [hd, if_neg Qs]
 refine Qa (Qb ?_)
 unfold setEpoch
 refine Qa (Qa (QR S.get S.data S.fits (Qb ?_)))
 exact Qa (Yl (Qb ⟨_, rfl, "set_iterator", _, ⟨_, Qx _ rfl, rfl⟩, F.si_next.lookup, h⟩))
theorem zMm {Q : Option Value -> Shared -> Prop} (hit : zCq s.heap I a slot i es.size ep) (S : zA9 w s.heap a o es ep t) (hb : w.params.followText "set-order" = false -> below t.place slot = i) (hi : i < es.size)
  (hQ : ∀ x h' next, (ordW w a ep es)[i]? = some x -> (w.params.followText "set-order" = false -> below t.place next = i + 1) -> zCq h' I a next (i + 1) es.size ep -> Heap.SameBut I s.heap h' -> Q (some x.2) { s with heap := h' }) :
  wpAny (model prog w) A (pyNext (.ref I)) Q E s := by
 obtain ⟨oi, hoi, hc, hd⟩ := id hit
 unfold pyNext
 refine Qa (wpAny_attempt (Yy (name := Str.ofString "__next__") hit.typeIs F.si_next
  (Yj F.si_next hit.typeIs F.si_next_entry ?_ (F.si_next_args _))))
 show wpAny _ _ (fieldsOf (.ref I) >>= _) _ _ s
 refine Qa (wpAny_fieldsOf hoi hd ?_)
 dsimp only
 refine Qa (Jw S.get S.data S.fits ?_)
 rw [if_neg (by simp)]
 refine Qa (zIh (i := i) (slot := slot) S hb (fun x next h1 h2 => ?_) fun h => absurd hi (by lia))
 dsimp only
 refine Qa (wpAny_setField hoi hd (by simp) ?_)
 have h1g := Q9 (Obj.mapFields (·.setIfInBounds 0 (rawInt next))) hoi (Obj.isFreed_of_fields (Y1 hd _))
 have h1d := Y1 hd (fun x => x.setIfInBounds 0 (rawInt next))
 refine Qa (wpAny_setField h1g h1d (by simp) (Qb ⟨_, rfl, Qb (hQ x _ next h1 h2 ?_ ((QX ..).trans (QX ..)))⟩))
 refine ⟨_, Q9 _ h1g (Obj.isFreed_of_fields (Y1 h1d _)), ((Obj.cls_mapFields ..).trans (Obj.cls_mapFields ..)).trans hc, ?_⟩
 rw [Y1 h1d]
 simp [rawInt]
theorem zMl {Q : Option Value -> Shared -> Prop} (hh : A.handled = none) (hit : zCq s.heap I a slot es.size es.size ep) (S : zA9 w s.heap a o es ep t) (hb : w.params.followText "set-order" = false -> below t.place slot = es.size)
  (hQ : ∀ h', Heap.ExtBut I s.heap h' -> Q none { s with heap := h' }) :
  wpAny (model prog w) A (pyNext (.ref I)) Q E s := by
 obtain ⟨oi, hoi, hc, hd⟩ := id hit
 unfold pyNext
 refine Qa (wpAny_attempt (Yy (name := Str.ofString "__next__") hit.typeIs F.si_next
  (Yj F.si_next hit.typeIs F.si_next_entry ?_ (F.si_next_args _))))
 show wpAny _ _ (fieldsOf (.ref I) >>= _) _ _ s
 refine Qa (wpAny_fieldsOf hoi hd ?_)
 dsimp only
 refine Qa (Jw S.get S.data S.fits ?_)
 rw [if_neg (by simp)]
 refine Qa (zIh (i := es.size) (slot := slot) S hb (fun x next h1 h2 => ?_) fun _ => ?_)
 ·rw [Yp (by rw [zD3]; exact Qj _)] at h1
  cases h1
 dsimp only
 refine Qa (wpAny_setField hoi hd (by simp) ?_)
 show wpAny _ _ (newExc (.type "StopIteration") [] >>= _) _ _ _
 refine Qa ?_
 simp only [newExc, newTuple]
 refine Qa (Yl ?_ (by size_fits))
 refine Qa (m := firstArgMember _ _) (wpAny_of_eq (a := Value.none) (by first | rfl | (simp only [firstArgMember]; rfl)) ?_)
 refine Yl ?_ (by size_fits)
 simp only [raiseNew]
 refine Qa (wpAny_handled ?_)
 first | rw [show A.in1.handled = none from hh] | rw [hh]
 refine Qa (Qb (wpAny_throw ?_))
 refine Qa (wpAny_isInstance (T := "StopIteration") (b := true) ⟨_, Qx _ rfl, rfl⟩ isSubtype_stop ?_)
 exact Qb (hQ _ (((QX ..).extBut.push _).push _))
theorem Walks.set {prog : Program} {w : World} {A : Around} (hh : A.handled = none) (I a : Addr) (hne : a ≠ I) (o : Obj) (es : Array (Int × Value)) (ep : Nat) (t : SetTable) :
  Walks prog w A I [I, a] [I] es.size (fun i v => ∃ x, (ordW w a ep es)[i]? = some x /\ v = x.2) (fun i h => ∃ slot, (w.params.followText "set-order" = false -> below t.place slot = i) /\ zCq h I a slot i es.size ep /\ zA9 w h a o es ep t) where
 sub := fun b hb => by simp at hb; simp [hb]
 frame := fun _ _ _ ⟨slot, h1, ⟨oi, h2, h3, h4⟩, S⟩ hk => ⟨slot, h1, ⟨oi, hk I (by simp) _ h2, h3, h4⟩, S.at (hk a (by simp) _ S.get)⟩
 item := fun i s Q E hi ⟨slot, h1, hit, S⟩ hQ =>
  zMm hit S h1 hi fun x h' next e1 e2 e3 e4 => hQ _ h' s.toks ⟨x, e1, rfl⟩ ⟨next, e2, e3, S.at ((e4.2 a hne).trans S.get)⟩ fun b o hb e => e4.extBut b o (fun h => hb (by simp [h])) e
 done := fun s Q E ⟨slot, h1, hit, S⟩ hQ => zMl hh hit S h1 fun h' he' => hQ h' s.toks fun b o hb e => he' b o (fun h => hb (by simp [h])) e
 self := fun i s Q E zz hQ => by
  obtain ⟨slot, h1, hit, S⟩ := zz
  refine wpAny_pyIter_slot hit.typeIs F.si_iter (Yj F.si_iter hit.typeIs F.si_iter_entry ?_ (F.si_iter_args _))
  show wpAny _ _ (ret (.ref I)) _ _ s
  exact Qb ⟨_, rfl, "set_iterator", _, hit.typeIs, F.si_next.lookup, hQ⟩
end
end ST
namespace ST
open PySem PySem.SetTable PyProof.Rows
section
variable {prog : Program} {w : World} {A : Around} {E : Value -> Shared -> Prop} {s : Shared}
theorem zLa {r : Addr} {Q : Bool -> Shared -> Prop} (hT : s.TypeIs (.ref r) "set") (h : Q false s) : wpAny (model prog w) A (Builtin.List.listLengthHint (.ref r)) Q E s := by
 unfold Builtin.List.listLengthHint
 refine Qa (wpAny_specialOf hT PySem.F.slot_set_len.lookup ?_)
 generalize hid : ("set.__len__" : String) = id0
 wp_delta
 rw [show splitId id0 = some ("set", "__len__") from by subst hid; decide +kernel]
 subst hid
 refine Qa (wpAny_isInstance (T := "set") (b := true) hT (by rw [isSubtype_type]; kernel_rfl) ?_)
 refine wpAny_ite_split (fun z => absurd z (by decide)) fun _ => wpAny_ite_split (fun _ => ?_) fun z => absurd (by decide +kernel) z
 exact Qa (YS hT (Qb h))
theorem zNZ (a : Addr) (o : Obj) (es : Array (Int × Value)) (ep : Nat) (t : SetTable) : PySem.W.KdlSrc prog w "set" a a es.size (fun i v => ∃ x, (ordW w a ep es)[i]? = some x /\ v = x.2) (fun h => zA9 w h a o es ep t) where
 type := fun s S => ⟨o, S.get, S.ex.1⟩
 there := fun h S => ⟨Qk S.get, Qk S.get⟩
 keep := fun h h' S hk => S.at (hk a (.inl rfl) o S.get)
 notList := by decide
 notTuple := by decide
 hint := fun A E s Q S h => zLa ⟨o, S.get, S.ex.1⟩ h
 iter := fun A s hh S => ⟨_, _, fun E Q hQ => zLo S hQ, Walks.set hh _ a (Qq (Qk S.get)) o es ep t, ⟨0, fun _ => zJM _ S.up, ⟨_, Qx _ rfl, rfl, rfl⟩, S.at (Qc _ S.get)⟩⟩
theorem zLn {w : World} {a : Addr} {ep : Nat} {es : Array (Int × Value)} {acc : Array Value} (h : ItemsOf (fun i v => ∃ x, (ordW w a ep es)[i]? = some x /\ v = x.2) acc es.size) : acc.toList = (ordW w a ep es).toList.map (·.2) := by
 refine List.ext_getElem? fun i => ?_
 rw [QQ, QI, QI]
 by_cases l : i < es.size
 ·have l' : i < acc.size := by rw [h.1]; exact l
  obtain ⟨x, e1, e2⟩ := h.2 i _ (QG l')
  rw [e1, QG l', e2]
  rfl
 ·rw [Yp (by rw [h.1]; lia), Yp (by rw [zD3]; lia)]
  rfl
theorem Ents.perm {h : Heap} {es es' : List (Int × Value)} (p : List.Perm es es') : ∀ {ks : List (List Int)}, Ents prog w h es ks -> ∃ ks', Ents prog w h es' ks' /\ List.Perm ks' ks := by
 induction p with
 | nil => intro ks X; exact ⟨ks, X, .refl _⟩
 | cons x _ ih =>
  intro ks X
  cases X with
  | cons h1 r =>
   obtain ⟨ks', X', q⟩ := ih r
   exact ⟨_, .cons h1 X', q.cons _⟩
 | swap x y l =>
  intro ks X
  cases X with
  | cons h1 r => cases r with
   | cons h2 r => exact ⟨_, .cons h2 (.cons h1 r), .swap _ _ _⟩
 | trans _ _ ih1 ih2 =>
  intro ks X
  obtain ⟨k1, X1, q1⟩ := ih1 X
  obtain ⟨k2, X2, q2⟩ := ih2 X1
  exact ⟨k2, X2, q2.trans q1⟩
theorem ItemsAre.unique : ∀ {k k' : List Int} {vs : List Value}, ItemsAre (intKind prog w) k vs -> ItemsAre (intKind prog w) k' vs -> k = k'
 | _, _, _, .nil, h => by cases h; rfl
 | _, _, _, .cons h1 r1, h => by
  cases h with
  | cons h2 r2 =>
   obtain ⟨t1, e1⟩ := Value.isInt_shape h1
   obtain ⟨t2, e2⟩ := Value.isInt_shape h2
   rw [e1] at e2
   cases e2
   rw [ItemsAre.unique r1 r2]
theorem TK.unique {h : Heap} {k k' : List Int} {a : Addr} (x : TK prog w h k a) (y : TK prog w h k' a) : k = k' := by
 obtain ⟨o, items, n, ho, _, hd, hi⟩ := x
 obtain ⟨o', items', n', ho', _, hd', hi'⟩ := y
 rw [ho] at ho'
 cases ho'
 rw [hd] at hd'
 cases hd'
 exact ItemsAre.unique hi hi'
noncomputable def SetV (prog : Program) (w : World) (V : Value -> Prop) (h : Heap) (a : Addr) (o : Obj) (ks : List (List Int)) : Prop :=
 ∃ es ep t, zA9 w h a o es ep t /\ Ents prog w h es.toList ks /\ ks.Nodup /\ ∀ e ∈ es.toList, V e.2
end
end ST
namespace SL
open PySem PySem.Spec PyProof.Rows L2 CL DL SD ST
noncomputable def tupI (k : List Int) : D := .tuple (k.map PyData.int)
section
variable {X : Cx} {pins : List (Addr × Obj)} {σ : L2.St} {H : Hp} {s : Shared}
abbrev VT (K : PySem.W.Frag) (H : Hp) (v : Value) : Prop := ∃ b, ∃ xs : List Int, v = .ref b /\ SqT K H b (xs.map V.int)
noncomputable def StV (X : Cx) (pins : List (Addr × Obj)) (σ : L2.St) (Q : KsK) (u : Value) (s' : Shared) : Prop :=
 ∃ a o ks H', u = .ref a /\ Inv X ((a, o) :: pins) σ H' s' /\ SetV X.prog X.w (VT X.K H') s'.heap a o ks /\ Q ks H'
noncomputable def PSv (X : Cx) (e : Expr) (t : TSt) : Prop :=
 ∀ (pins : List (Addr × Obj)) (s : Shared) (σ : L2.St) (H : Hp) (Q : KsK), Inv X pins σ H s -> t σ H Q -> wpAny (model X.prog X.w) X.A (eval e X.env) (StV X pins σ Q) X.xe s
noncomputable def DSv (X : Cx) (e : Expr) (g : Rho -> Option (List (List Int))) : Prop := PSv X e (tDSt X.K g)
theorem zNj {e : Expr} {t : TSt} (h : PSt X e t) : PSv X e t := fun pins s σ H Q I q => thn (h pins s σ H Q I q) fun u s1 zz => by
 obtain ⟨a, o, ks, H1, eu, I1, S, _, q⟩ := zz
 obtain ⟨o', es, ep, t, z1, z2, z3, z4, z5, z6, z7, z8⟩ := S
 have e : s1.heap.get? a = some o := (I1.pin (a, o) (Qy _ Qf)).1
 rw [z1] at e
 cases e
 exact ⟨a, o, ks, H1, eu, I1, ⟨es, ep, t, ⟨z1, z2, z3, z4.fits (by simp), z4.up, z5.1, z5.2⟩, z6, z7, z8⟩, q⟩
theorem zKQ {e : Expr} {g : Rho -> Option (List (List Int))} (h : DSt X e g) : DSv X e g := zNj h
theorem zG9 {F : Addr -> Prop} (I : Inv X pins σ H s) : ∀ {es : List (Int × Value)} {ks : List (List Int)}, Ents X.prog X.w s.heap es ks -> (∀ e ∈ es, VT X.K H e.2) -> ∃ vs : List V, Reps X.K F H (ks.map tupI) vs /\ Vals vs (es.map (·.2))
 | _, _, .nil, _ => ⟨[], .nil, .nil⟩
 | _, _, .cons (k := k) (b := b) h1 r, hv => by
  obtain ⟨vs, r1, r2⟩ := zG9 (F := F) I r fun e he => hv e (Qd _ he)
  obtain ⟨b', xs, e1, e2⟩ := hv _ Qf
  cases e1
  have : k = xs := h1.unique (zBz I e2)
  subst this
  exact ⟨.ref b :: vs, .cons (.tup e2 (zDP k)) r1, .cons rfl r2⟩
end
theorem zND {d0 : List D} {ds ds' : List D} (p : List.Perm ds ds') : ∀ {l : List KD}, zAY d0 ds = some l -> ∃ l', zAY d0 ds' = some l' /\ List.Perm l' l := by
 induction p with
 | nil => intro l h; exact ⟨l, h, .refl _⟩
 | cons x _ ih =>
  intro l h
  obtain ⟨k, e1, h⟩ := bnd h
  obtain ⟨r, e2, h⟩ := bnd h
  cases h
  obtain ⟨l', q1, q2⟩ := ih e2
  exact ⟨(k, x) :: l', by unfold zAY; rw [e1, q1]; rfl, q2.cons _⟩
 | swap x y l0 =>
  intro l h
  obtain ⟨k, e1, h⟩ := bnd h
  obtain ⟨r, e2, h⟩ := bnd h
  cases h
  obtain ⟨k2, e3, h⟩ := bnd e2
  obtain ⟨r2, e4, h⟩ := bnd h
  cases h
  exact ⟨(k2, x) :: (k, y) :: r2, by unfold zAY; rw [e3]; unfold zAY; rw [e1, e4]; rfl, .swap _ _ _⟩
 | trans _ _ ih1 ih2 =>
  intro l h
  obtain ⟨l1, q1, q2⟩ := ih1 h
  obtain ⟨l2, q3, q4⟩ := ih2 q1
  exact ⟨l2, q3, q4.trans q2⟩
theorem zNW {d0 : List D} {ds ds' : List D} {l l' : List KD} (h : zAY d0 ds = some l) (h' : zAY d0 ds' = some l') (p : List.Perm l' l) : zAU l' = zAU l := by
 refine zGc (((zCN l').trans p).trans (zCN l).symm) (zDw l') (zDw l) fun a ha b hb e => ?_
 have r := (zF2 h').2
 have h1 := r a ((zCN l').mem_iff.mp ha)
 have h2 := r b ((zCN l').mem_iff.mp hb)
 rw [e] at h1
 exact Jn e (zBK h1 h2)
noncomputable def zCa (g : Rho -> Option (List (List Int))) : Rho -> Option D := fun ρ => (g ρ).bind fun kl => zBE [.list ((dd kl).map tupI)]
section
variable {X : Cx} {e : Expr} {p pos : Pos} {g : Rho -> Option (List (List Int))}
theorem zG1 {x : Str} (hc : X.calm = true) (hu : X.A.units + 66 < cLine) (hg : Gl X x) (hm : X.mg x = none) (hv : bootBuiltins x = some (.builtin "sorted")) (ha : DSv X e g) (hn : x ≠ "__name__" := by decide) (hdb : (x == ("__debug__" : Str)) = false := by decide)
  (he : starEach [e] X.env = (false, eval e X.env) :: starEach [] X.env := by rfl) (hpl : (backTo pos (starEach [] X.env)).any (·.1) = false := by rfl) :
  DE X (.Call (.Name x p) [e] [] pos) (zCa g) := by
 intro pins s σ H Q I ⟨F, H₀, ρ, d, S, q, k⟩
 obtain ⟨kl, e1, q⟩ := bnd q
 refine Ji (zBU I hg hm hv ?_ hn hdb)
 refine PyProof.Rows.callWith_builtin1 (Q := ?_) ?_ he hpl
 rw [he]
 show wpAny _ _ (spliced ((false, eval e X.env) :: backTo pos (starEach [] X.env))) _ _ s
 refine Calls.spliced_cons (thn (ha pins s σ H (fun ks H1 => ks.Nodup /\ (∀ k, k ∈ ks ↔ k ∈ kl) /\ ∃ F1, Ext F F1 H H1) I ⟨F, H₀, ρ, kl, S, e1, fun F1 H1 ks E1 n1 m1 => ⟨n1, m1, F1, E1⟩⟩) fun u s1 zz => ?_)
 obtain ⟨a, o, ks, H1, eu, I1, ⟨es, ep, t, S1, X1, n1, v1⟩, _, m1, F1, E1⟩ := zz
 refine Calls.spliced_nil ?_
 subst eu
 refine Calls.call_function_entry kind_sorted plain_sorted entry_sorted (args_sorted1 _) ?_
 unfold Builtin.«sorted»
 have pk : List.Perm ks (dd kl) := (List.perm_ext_iff_of_nodup n1 (zFI kl)).mpr fun k => (m1 k).trans zDX.symm
 have hlen : es.size = (dd kl).length := by rw [<- Qo, X1.length, pk.length_eq]
 have l64 : (dd kl).length < 64 := by
  cases c : dd kl with
  | nil => decide
  | cons k0 kr =>
   rw [c] at q
   have q' : (if (kr.map tupI).length < 63 then _ else none) = some d := q
   by_cases z : (kr.map tupI).length < 63
   ·rw [Qg] at z; simp; lia
   ·rw [if_neg z] at q'; cases q'
 refine Qa (m := checkCount "sorted" 1 1 _) (Qb (Qa (PySem.W.kdu_collect (zNZ a o es ep t) (by simp [I1.ok.hd hc]) S1 (zBc (by lia)) fun h' tk acc hk hacc => ?_)))
 have I2 : Inv X pins σ H1 { s1 with heap := h', toks := tk } := (I1.pins_of fun p hp => I1.pin p (Qy _ (Qd _ hp))).kept hk
 obtain ⟨ks', X2, p2⟩ := (X1.mono fun k b x => x.at fun o e => hk b o e).perm (zCI X.w a ep es).symm
 obtain ⟨vs, r1, r2⟩ := zG9 (F := F1) I2 X2 fun e he => v1 e ((zCI X.w a ep es).mem_iff.mp he)
 rw [<- zLn hacc] at r2
 have form : ∃ d0 l, zAY d0 ((dd kl).map tupI) = some l /\ d = .list ((zAU l).map (·.2)) := by
  cases c : dd kl with
  | nil => rw [c] at q; cases q; exact ⟨[], [], rfl, rfl⟩
  | cons k0 kr =>
   rw [c] at q
   have q' : (if (kr.map tupI).length < 63 then (zAY (k0.map PyData.int) ((k0 :: kr).map tupI)).bind fun l => some (PyData.list ((zAU l).map (·.2))) else none) = some d := q
   by_cases z : (kr.map tupI).length < 63
   ·rw [if_pos z] at q'
    obtain ⟨l, e2, q'⟩ := bnd q'
    cases q'
    exact ⟨_, l, e2, rfl⟩
   ·rw [if_neg z] at q'; cases q'
 obtain ⟨d0, l, f1, rfl⟩ := form
 obtain ⟨l', f2, f3⟩ := zND ((p2.trans pk).map tupI).symm f1
 refine zJd hu I2 r2 r1 f2 (by rw [Qg, (p2.trans pk).length_eq]; exact l64) fun p vs' hp r' _ => ?_
 rw [zNW f1 f2 f3] at r'
 exact k _ _ _ (E1.trans (Ext.frozen hp)) (Rep.newLst hp r')
end
end SL
namespace SL
open PySem PySem.Spec PyProof.Rows L2 CL DL SD
section
variable {X : Cx} {e st : Expr} {p2 pos : Pos}
end
end SL
namespace TL
open PySem PySem.Spec PyProof.Rows L2 HT
theorem zMp : fillsNumberSlot (.type "tuple") "mul" = pure false :=
 PySem.fillsNumberSlot_seq (id := "tuple.__mul__") (r := some (.builtin "tuple.__rmul__")) PySem.F.slot_tuple_mul.lookup (by decide +kernel) PySem.F.slot_tuple_rmul.lookup (by decide +kernel)
theorem zNA : seqRepeat? (.type "tuple") = pure (some (.builtin "tuple.__mul__")) := by
 unfold seqRepeat?
 rw [PySem.seqSlot_of (T := "tuple") (name := "__mul__") (id := "tuple.__mul__") PySem.F.slot_tuple_mul.lookup (by decide +kernel), PySem.seqSlot_of (T := "tuple") (name := "__rmul__") (id := "tuple.__rmul__") PySem.F.slot_tuple_rmul.lookup (by decide +kernel)]
 rfl
theorem zNB (a : Int) (t : Tok) (l : Addr) (items : Array Value) (n : Nat) (dd : Option Addr) (sl : Array (Option Value)) :
  Meets (Builtin.«int.__rmul__» ⟨[.int a t, .ref l], []⟩) (fun _ R s => s.heap.get? l = some { cls := .type "tuple", dict := dd, data := .seq items n, slots := sl } /\ R (.ok (.ret Value.notImplemented)) s) :=
 .of_wp fun prog w A R s h => by
  obtain ⟨hp, g, d, tk, os⟩ := s
  obtain ⟨hl, h⟩ := h
  wp_walk
  exact ⟨_, rfl, h⟩
theorem zLX (t : Tok) (l : Addr) (items : Array Value) (n : Nat) (dd : Option Addr) (sl : Array (Option Value)) (hne : items.isEmpty = false) (hsz : items.size + items.size <= 16777216) :
  Meets (Builtin.«tuple.__mul__» ⟨[.ref l, .int 2 t], []⟩) (fun _ R s => s.heap.get? l = some { cls := .type "tuple", dict := dd, data := .seq items n, slots := sl } /\ R (.ok (.ret (Value.ref s.heap.objs.size))) { s with heap := s.heap.push { cls := Value.type "tuple", data := Data.seq (items ++ items) }, toks := s.toks }) :=
 .of_wp fun prog w A R s h => by
  obtain ⟨hp, g, d, tk, os⟩ := s
  obtain ⟨hl, h⟩ := h
  have f1 := AutoSeq1.idx_int
  have c1 : (items.isEmpty || (2 : Int) == 1) = false := by rw [hne]; rfl
  have c2 : (decide ((2 : Int) <= 0) || items.isEmpty) = false := by rw [hne]; rfl
  have c3 : ¬ ((items.size : Int) * 2 > (2 ^ 63 - 1) / 8) := by
   have : ((2 : Int) ^ 63 - 1) / 8 = 1152921504606846975 := by decide
   lia
  have c4 : Builtin.Tuple.tupleTooMany ((items.size : Int) * 2) = false := by
   unfold Builtin.Tuple.tupleTooMany
   rw [Ye]
   exact decide_eq_false (by lia)
  have c5 : (List.replicate ((2 : Int).toNat) items).foldl (fun x y => x ++ y) #[] = items ++ items := by
   show (#[] ++ items) ++ items = items ++ items
   simp
  have c6 : sizeOk (.seq (items ++ items)) := by
   show (items ++ items).size <= sizeLine
   rw [Array.size_append, Ye]; exact hsz
  unfold Builtin.«tuple.__mul__»
  wp_walk using wpAny_loadPart' hl
  rw [if_neg c3]
  dsimp only
  rw [c4, if_neg Qs, c5]
  exact Qa (m := Builtin.Tuple.tupleExact _) (Yl (Qb ⟨_, rfl, h⟩) c6)
section
variable {prog : Program} {w : World} {A : Around} {E : Value -> Shared -> Prop} {s : Shared}
theorem zLY {t : Addr} {vs : List Value} {u : Tok} {Q : Value -> Shared -> Prop} (ht : IsTup s.heap t vs.toArray) (hv : vs ≠ []) (hz : vs.length + vs.length <= 16777216)
  (h : Q (.ref s.heap.objs.size) { s with heap := s.heap.push { cls := .type "tuple", data := .seq (vs ++ vs).toArray } }) : wpAny (model prog w) A (binaryOp .Mult (.ref t) (.int 2 u)) Q E s := by
 obtain ⟨⟨cls, dd, data, sl⟩, ho, hc, n, hd⟩ := id ht
 simp only at hc hd
 subst hc hd
 have hne : vs.toArray.isEmpty = false := by cases vs with
  | nil => exact absurd rfl hv
  | cons _ _ => rfl
 have e : vs.toArray ++ vs.toArray = (vs ++ vs).toArray := by simp
 refine wpAny_binaryOp_repeat_ref (T := "tuple") (U := "int") (by decide) ⟨_, ho, rfl⟩ (fun s' => typeIs_int s' 2 u) zMp PySem.F.fills_int_mul PySem.F.slot_int_rmul zNA PySem.F.slot_int_index.lookup
  (call_meets PySem.F.slot_int_rmul (typeIs_int s 2 u) PySem.F.entry_int_rmul (PySem.F.args_int_rmul_2 _ _) (zNB 2 u t vs.toArray n dd sl)
   ⟨ho, rfl, ⟨_, ho, rfl⟩, call_meets PySem.F.slot_tuple_mul ⟨_, ho, rfl⟩ PySem.F.entry_tuple_mul (PySem.F.args_tuple_mul_2 _ _) (zLX u t vs.toArray n dd sl hne (by simpa using hz)) ⟨ho, ?_⟩⟩)
 rw [e]
 exact h
theorem zJ1 {t b : Addr} {ws : List Value} {Q : Value -> Shared -> Prop} (ht : IsTup s.heap t #[]) (hb : IsTup s.heap b ws.toArray) (h : Q (.ref b) s) : wpAny (model prog w) A (binaryOp .Add (.ref t) (.ref b)) Q E s := by
 obtain ⟨⟨cls, dd, data, sl⟩, ho, hc, n, hd⟩ := id ht
 obtain ⟨⟨cls2, dd2, data2, sl2⟩, ho2, hc2, n2, hd2⟩ := id hb
 simp only at hc hd hc2 hd2
 subst hc hd hc2 hd2
 exact concat_meets ⟨_, ho, rfl⟩ ⟨_, ho2, rfl⟩ noFill_tuple_add seq_tuple_add PySem.F.slot_tuple_add PySem.F.entry_tuple_add (PySem.F.args_tuple_add_2 _ _) (tuple_addW0 t b #[] ws.toArray n n2 dd dd2 sl sl2 rfl) ⟨ho, ho2, h⟩
theorem zJ2 {t b : Addr} {vs ws : List Value} {Q : Value -> Shared -> Prop} (ht : s.heap.IsList t vs.toArray) (hb : s.heap.IsList b ws.toArray) (hz : vs.length + ws.length <= sizeLine)
  (h : Q (.ref s.heap.objs.size) { s with heap := s.heap.push { cls := .type "list", data := .seq (vs ++ ws).toArray } }) : wpAny (model prog w) A (binaryOp .Add (.ref t) (.ref b)) Q E s := by
 obtain ⟨⟨cls, dd, data, sl⟩, ho, hc, n, hd⟩ := id ht
 obtain ⟨⟨cls2, dd2, data2, sl2⟩, ho2, hc2, n2, hd2⟩ := id hb
 simp only at hc hd hc2 hd2
 subst hc hd hc2 hd2
 have e : vs.toArray ++ ws.toArray = (vs ++ ws).toArray := by simp
 refine concat_meets ⟨_, ho, rfl⟩ ⟨_, ho2, rfl⟩ noFill_list_add seq_list_add PySem.F.slot_list_add PySem.F.entry_list_add (PySem.F.args_list_add_2 _ _) (list_addW t b vs.toArray ws.toArray n n2 dd dd2 sl sl2 (by simpa using hz)) ⟨ho, ho2, ?_⟩
 rw [e]
 exact h
theorem zOm {t sl : Addr} {items : Array Value} {vl vu : Value} {lo hi : Option Int} {Q : Value -> Shared -> Prop} (ht : IsTup s.heap t items) (hs : s.heap.IsSliceOf sl vl vu .none) (pl : IsPart vl lo) (pu : IsPart vu hi)
  (hw : sIx items.size 0 lo = 0 /\ sIx items.size items.size hi = items.size) (h : Q (.ref t) s) : wpAny (model prog w) A (getItem (.ref t) (.ref sl)) Q E s := by
 obtain ⟨os, hos, hcs, hds⟩ := id hs
 have hTs : s.TypeIs (.ref sl) "slice" := ⟨os, hos, hcs⟩
 unfold getItem
 try with_reducible refine Ya ?_
 first | refine Qa (Qb ?_) | skip
 refine Qa (wpAny_sequenceKey ht.typeIs (by decide) ?_)
 refine Qa (Yy (name := Str.ofString "__getitem__") ht.typeIs YF
  (Yj YF ht.typeIs entry_tuple_getitem ?_ (args_tuple_getitem _ _)))
 show wpAny _ _ (Builtin.Tuple.tupleItemsOf (.ref t) >>= _) _ _ s
 refine Qa (tupleItemsOf_ ht (Qa (YS hTs ?_)))
 rw [if_pos (by decide)]
 refine Qa (zI6 hs pl pu ?_)
 rw [hw.1, hw.2]
 show wpAny _ _ (if (((0 : Nat) : Int) == 0 && (1 : Int) == 1 && (items.size - 0) == items.size) = true then _ else _) _ _ s
 rw [if_pos (by simp)]
 unfold Builtin.Tuple.tupleIsExact
 refine Qa (Qa (YS ht.typeIs (Qb ?_)))
 rw [if_pos (by decide)]
 exact Qa (Jr (Qb ⟨_, rfl, Qb h⟩))
end
end TL
namespace SL
open PySem PySem.Spec PyProof.Rows L2 CL DL SD TL
section
variable {X : Cx} {e st : Expr} {p2 pos : Pos}
theorem zMG : OpR X (binaryOp .Mult) (fun x y H Q => ∃ a xs, x = .ref a /\ y = .int 2 /\ SqT X.K H a xs /\ xs ≠ [] /\ xs.length <= 1000 /\ ∀ p, H p = none -> Q (.ref p) (upd H p (.tup (xs ++ xs)))) := by
 intro pins s σ H x y v u Q I rx ry h
 obtain ⟨a, xs, rfl, rfl, ha, hx, hz, q⟩ := h
 cases rx
 obtain ⟨t, rfl⟩ := ry
 obtain ⟨its, r1, p1, _⟩ := I.tuple ha
 refine zLY p1 (fun z => hx (r1.nil_iff.mp z)) (by rw [<- r1.length]; lia) ?_
 refine ⟨.ref s.heap.objs.size, _, I.laid (t' := s.toks) (o := .tup (xs ++ xs)) (fun b ob q => Qc _ q) (Qj _) ?_, rfl, q _ (I.hok.fresh (Qj _))⟩
 exact ⟨by rw [Qm, Ye]; lia, _, r1.append r1, IsTup.new _ _⟩
theorem zME : OpR X (binaryOp .Add) (fun x y H Q => ∃ a b ys, x = .ref a /\ y = .ref b /\ SqT X.K H a [] /\ SqT X.K H b ys /\ Q (.ref b) H) := by
 intro pins s σ H x y v u Q I rx ry h
 obtain ⟨a, b, ys, rfl, rfl, ha, hb, q⟩ := h
 cases rx
 cases ry
 obtain ⟨its, r1, p1, _⟩ := I.tuple ha
 obtain ⟨its2, r2, p2, _⟩ := I.tuple hb
 cases r1
 exact zJ1 p1 p2 ⟨.ref b, H, I, rfl, q⟩
theorem zMF : OpR X (binaryOp .Add) (fun x y H Q => ∃ a b xs ys, x = .ref a /\ y = .ref b /\ SqL X.K H a xs /\ SqL X.K H b ys /\ xs.length + ys.length <= 1000 /\ ∀ p, H p = none -> Q (.ref p) (upd H p (.lst (xs ++ ys)))) := by
 intro pins s σ H x y v u Q I rx ry h
 obtain ⟨a, b, xs, ys, rfl, rfl, ha, hb, hz, q⟩ := h
 cases rx
 cases ry
 obtain ⟨its, r1, p1, _⟩ := I.list ha
 obtain ⟨its2, r2, p2, _⟩ := I.list hb
 refine zJ2 p1.isList p2.isList (by rw [<- r1.length, <- r2.length]; exact zBc hz) ?_
 refine ⟨.ref s.heap.objs.size, _, I.laid (t' := s.toks) (o := .lst (xs ++ ys)) (fun b ob q => Qc _ q) (Qj _) ?_, rfl, q _ (I.hok.fresh (Qj _))⟩
 exact ⟨by rw [Qm]; exact zBc hz, _, 0, r1.append r2, Qx _ rfl⟩
theorem zNR : SlR X (fun x lo hi H Q => ∃ a xs, x = .ref a /\ SqT X.K H a xs /\ (HT.sIx xs.length 0 lo = 0 /\ HT.sIx xs.length xs.length hi = xs.length) /\ Q (.ref a) H) := by
 intro pins s σ H x v vl vu lo hi sl Q I rx hs pl pu h
 obtain ⟨a, xs, rfl, hx, hw, q⟩ := h
 cases rx
 obtain ⟨its, r, ht, hz⟩ := I.tuple hx
 have hlen : its.toArray.size = xs.length := by rw [QE]; exact r.length.symm
 exact ⟨"tuple", _, YF.lookup, ht.typeIs, zOm ht hs pl pu (by rw [hlen]; exact hw) ⟨.ref a, H, I, rfl, q⟩⟩
noncomputable def dSl2 : D -> Option Int -> Option Int -> Option D
 | .list xs, lo, hi => some (.list (DL.cutD xs lo hi))
 | .tuple xs, lo, hi => some (.tuple (DL.cutD xs lo hi))
 | _, _, _ => none
noncomputable def eSl2 (ga : Rho -> Option D) (gl gh : Rho -> Option (Option Int)) : Rho -> Option D := fun ρ => (ga ρ).bind fun d => (gl ρ).bind fun l => (gh ρ).bind fun h => dSl2 d l h
theorem zKj {xs : List D} {lo hi : Option Int} (h : HT.sIx xs.length 0 lo = 0 /\ HT.sIx xs.length xs.length hi = xs.length) : DL.cutD xs lo hi = xs := by
 unfold DL.cutD
 rw [h.1, h.2, List.drop_zero, Nat.sub_zero, List.take_length]
theorem zEK {a : Expr} {lo hi : Option Expr} {ga : Rho -> Option D} {gl gh : Rho -> Option (Option Int)} (ha : DE X a ga) (hl : DO X lo gl) (hh : DO X hi gh) : DE X (.Subscript a (.Slice lo hi none p2) pos) (eSl2 ga gl gh) :=
 zAQ (zMW (zNN.or (zNO.or zNR)) ha hl hh) fun σ H Q zz => by
  obtain ⟨F, H₀, ρ, d, S, q, k⟩ := zz
  obtain ⟨x, e1, q⟩ := bnd q
  obtain ⟨l, e2, q⟩ := bnd q
  obtain ⟨h, e3, q⟩ := bnd q
  refine ⟨F, H₀, ρ, x, S, e1, fun F1 H1 v E1 R1 => ⟨F1, H₀, ρ, l, S.ext E1, e2, fun F2 H2 E2 => ⟨F2, H₀, ρ, h, (S.ext E1).ext E2, e3, fun F3 H3 E3 => ?_⟩⟩⟩
  have R3 := (R1.stay E2.stay).stay E3.stay
  have E123 := E1.trans (E2.trans E3)
  cases R3 with
  | @lst a' vs ds h1 r1 =>
   cases q
   exact .inl ⟨a', vs, rfl, h1.sq, fun p hp => k _ _ _ (E123.trans (Ext.frozen hp)) (Rep.newLst hp (r1.cut l h))⟩
  | @tup a' vs ds h1 r1 =>
   cases q
   by_cases c : HT.sIx ds.length 0 l = 0 /\ HT.sIx ds.length ds.length h = ds.length
   ·rw [zKj c] at k
    exact .inr (.inr ⟨a', vs, rfl, h1, by rw [<- r1.length]; exact c, k _ _ _ E123 (.tup h1 r1)⟩)
   ·exact .inr (.inl ⟨a', vs, rfl, h1, by rw [<- r1.length]; exact c, fun p hp => k _ _ _ (E123.trans (Ext.fresh hp)) (Rep.newTup hp (r1.cut l h))⟩)
  | non => cases q
  | dct _ _ _ _ _ => cases q
  | exn _ _ _ => cases q
  | bl _ => cases q
  | int _ => cases q
  | str _ => cases q
noncomputable def zAy : D -> D -> Option D
 | .int i, .int j => some (.int (i + j))
 | .tuple xs, .tuple ys => if xs.length + ys.length <= 1000 then some (.tuple (xs ++ ys)) else none
 | .list xs, .list ys => if xs.length + ys.length <= 1000 then some (.list (xs ++ ys)) else none
 | _, _ => none
theorem zFH {α β : Type} {xs : List α} {ys : List β} (h : xs.length = ys.length) (e : ys = []) : xs = [] := by subst e; exact Jh h
theorem zAK : OpR X (binaryOp .Add) (rD2 X.K zAy) := zDj (zMv.or (zMw.or (zME.or zMF))) fun x y H Q zz => by
 obtain ⟨F, d, e, q, z, R1, R2, hq, k⟩ := zz
 unfold zAy at hq
 split at hq
 ·cases hq
  cases R1
  cases R2
  exact .inl ⟨_, _, rfl, rfl, k F H _ (Ext.refl F H) (.int _)⟩
 ·rename_i xs ys
  by_cases c : xs.length + ys.length <= 1000
  ·rw [if_pos c] at hq
   cases hq
   cases R1 with
   | @tup a vs _ h1 r1 =>
    cases R2 with
    | @tup b us _ h2 r2 =>
     by_cases n : vs = []
     ·subst n
      have : xs = [] := zFH r1.length rfl
      subst this
      exact .inr (.inr (.inl ⟨a, b, us, rfl, rfl, h1, h2, k F H _ (Ext.refl F H) (.tup h2 r2)⟩))
     ·refine .inr (.inl ⟨a, b, vs, us, rfl, rfl, h1, h2, n, zBc (by rw [<- r1.length, <- r2.length]; exact c), fun e => ?_, fun e p hp => ?_⟩)
      ·have : ys = [] := zFH r2.length e
       subst this
       rw [Yn] at k
       exact k F H _ (Ext.refl F H) (.tup h1 r1)
      ·exact k F _ _ (Ext.fresh hp) (Rep.newTup hp (r1.append r2))
  ·rw [if_neg c] at hq; cases hq
 ·rename_i xs ys
  by_cases c : xs.length + ys.length <= 1000
  ·rw [if_pos c] at hq
   cases hq
   cases R1 with
   | @lst a vs _ h1 r1 =>
    cases R2 with
    | @lst b us _ h2 r2 =>
     exact .inr (.inr (.inr ⟨a, b, vs, us, rfl, rfl, h1.sq, h2.sq, by rw [<- r1.length, <- r2.length]; exact c, fun p hp => k _ _ _ (Ext.frozen hp) (Rep.newLst hp (r1.append r2))⟩))
  ·rw [if_neg c] at hq; cases hq
 ·cases hq
noncomputable def zAt : D -> D -> Option D
 | .int i, .int j => if zBJ i j = true then some (.int (i * j)) else none
 | .tuple xs, .int j => if j = 2 /\ xs ≠ [] /\ xs.length <= 500 then some (.tuple (xs ++ xs)) else none
 | _, _ => none
theorem zAX : OpR X (binaryOp .Mult) (rD2 X.K zAt) := zDj ((zMC (X := X)).or zMG) fun x y H Q zz => by
 obtain ⟨F, d, e, q, z, R1, R2, hq, k⟩ := zz
 unfold zAt at hq
 split at hq
 ·exact .inl ⟨F, _, _, q, z, R1, R2, hq, k⟩
 ·rename_i xs j
  by_cases c : j = 2 /\ xs ≠ [] /\ xs.length <= 500
  ·rw [if_pos c] at hq
   cases hq
   obtain ⟨rfl, c1, c2⟩ := c
   cases R2
   cases R1 with
   | @tup a vs _ h1 r1 =>
    exact .inr ⟨a, vs, rfl, rfl, h1, fun e => c1 (zFH r1.length e), by rw [<- r1.length]; lia, fun p hp => k F _ _ (Ext.fresh hp) (Rep.newTup hp (r1.append r1))⟩
  ·rw [if_neg c] at hq; cases hq
 ·cases hq
noncomputable def dLt2 : D -> D -> Option D
 | .int i, .int j => some (.bool (decide (i < j)))
 | .tuple xs, .tuple ys => (zAE xs).bind fun a => (zAE ys).bind fun b => some (.bool (HT.lexLt a b))
 | _, _ => none
theorem zD2 (hu : X.A.units + 64 < cLine) : OpR X (compareOp .Lt) (rD2 X.K dLt2) := zDj (op_lt.or (zMy (by lia))) fun x y H Q zz => by
 obtain ⟨F, d, e, q, z, R1, R2, hq, k⟩ := zz
 unfold dLt2 at hq
 split at hq
 ·cases hq
  cases R1
  cases R2
  exact .inl ⟨_, _, rfl, rfl, k F H _ (Ext.refl F H) (.bl _)⟩
 ·obtain ⟨a, e1, hq⟩ := bnd hq
  obtain ⟨b, e2, hq⟩ := bnd hq
  cases hq
  cases R1 with
  | @tup u vs _ h1 r1 =>
   cases R2 with
   | @tup u' us _ h2 r2 =>
    rw [zDO r1 e1] at h1
    rw [zDO r2 e2] at h2
    exact .inr ⟨u, u', a, b, rfl, rfl, h1, h2, k F H _ (Ext.refl F H) (.bl _)⟩
 ·cases hq
end
end SL
namespace EL
open PySem PySem.Spec PyProof.Rows L2 DL ZL
open AutoSeq1 (wpAny_loadPart')
theorem zMj (l : Addr) (items : Array Value) (n : Nat) (dct : Option Addr) (sl : Array (Option Value)) :
  Meets (Builtin.«enumerate.__new__» ⟨[.type "enumerate", .ref l], []⟩) (fun _ R s => s.heap.get? l = some { cls := .type "tuple", dict := dct, data := .seq items n, slots := sl } /\
   R (.ok (.ret (.ref (s.heap.push { cls := .type "tuple_iterator", data := .fields #[.ref l, .int 0 0] }).objs.size)))
    { s with heap := (s.heap.push { cls := .type "tuple_iterator", data := .fields #[.ref l, .int 0 0] }).push { cls := .type "enumerate", data := .fields #[.none, .bool false, .ref s.heap.objs.size, rawInt 0, .none, .none] } }) :=
 .of_wp fun prog w A R s h => by
  obtain ⟨hp, g, d, tk, os⟩ := s
  obtain ⟨hl, h⟩ := h
  have hsub := sub_enumerate
  have hT : Heap.IsTuple (Shared.heap ⟨hp, g, d, tk, os⟩) l items := ⟨_, hl, rfl, n, rfl⟩
  wp_walk using wpAny_loadPart' hl
  refine wpAny_stack_any fun st => Qb ?_
  split
  ·rename_i c _ _ _ _ _
   cases (c == Value.type "enumerate") <;> (wp_walk using wpAny_loadPart' hl, wpAny_pyIter_tuple hT; exact ⟨_, rfl, h⟩)
  ·wp_walk using wpAny_loadPart' hl, wpAny_pyIter_tuple hT
   exact ⟨_, rfl, h⟩
section
variable {prog : Program} {w : World} {A : Around} {E : Value -> Shared -> Prop} {s : Shared}
theorem zJU {l : Addr} {items : Array Value} {Q : Value -> Shared -> Prop} (hT : s.heap.IsTuple l items)
  (h : ∀ h', IsEnum h' (s.heap.objs.size + 1) s.heap.objs.size 0 .none -> h'.IsTupleIter s.heap.objs.size l 0 -> h'.objs.size = s.heap.objs.size + 2 ->
   (∀ b o, s.heap.get? b = some o -> h'.get? b = some o) -> Q (.ref (s.heap.objs.size + 1)) { s with heap := h' }) :
  wpAny (model prog w) A (call (.type "enumerate") [.ref l]) Q E s := by
 obtain ⟨⟨c, dct, dt, sl⟩, hl, hc, n, hd⟩ := hT
 replace hc : c = .type "tuple" := hc
 replace hd : dt = .seq items n := hd
 subst hc hd
 refine callType_new F.called_enumerate (by decide) (F.typeCall_enumerate_1 _) (F.newCall_enumerate_1 _) (fun obj => F.args_object_init_2 obj _) F.entry_enumerate_new
  (zMj l items n dct sl) ⟨hl, ?_⟩
 have hz : (s.heap.push { cls := .type "tuple_iterator", data := .fields #[.ref l, .int 0 0] }).objs.size = s.heap.objs.size + 1 := Ym ..
 show _ /\ _
 rw [hz]
 have he : IsEnum ((s.heap.push { cls := .type "tuple_iterator", data := .fields #[.ref l, .int 0 0] }).push
   { cls := .type "enumerate", data := .fields #[.none, .bool false, .ref s.heap.objs.size, rawInt 0, .none, .none] }) (s.heap.objs.size + 1) s.heap.objs.size 0 .none := by
  have := Qx (s.heap.push { cls := .type "tuple_iterator", data := .fields #[.ref l, .int 0 0] })
   (o := { cls := .type "enumerate", data := .fields #[.none, .bool false, .ref s.heap.objs.size, rawInt 0, .none, .none] }) rfl
  rw [hz] at this; exact this
 exact ⟨⟨_, he, rfl⟩, h _ he ⟨_, Qc _ (Qx _ rfl), rfl, rfl⟩ (by rw [Ym, hz]) fun b o x => Qc _ (Qc _ x)⟩
theorem zMk {it t : Addr} {i : Nat} {items : Array Value} {x : Value} {Q : Value -> Shared -> Prop} (hit : s.heap.IsTupleIter it t i) (ht : s.heap.IsTuple t items) (hx : items[i]? = some x)
  (hQ : ∀ h', h'.IsTupleIter it t (i + 1) -> Heap.SameBut it s.heap h' -> Q x { s with heap := h' }) : wpAny (model prog w) A (Builtin.SmallTypes.nextOf (.ref it)) Q E s := by
 obtain ⟨o, ho, hc, hd⟩ := id hit
 obtain ⟨ol, hol, _, nl, hdl⟩ := ht
 unfold Builtin.SmallTypes.nextOf
 refine Qa (Yy (name := Str.ofString "__next__") hit.typeIs Y2
  (Yj Y2 hit.typeIs F.entry_tuple_iterator_next ?_ (F.args_tuple_iterator_next_1 _)))
 show wpAny _ _ (field (.ref it) 0 >>= _) _ _ s
 refine Qa (JE ho hd (x := .ref t) rfl ?_)
 show wpAny _ _ (if (Value.ref t == Value.none) = true then _ else _) _ _ s
 rw [if_neg (show ¬ ((Value.ref t == Value.none) = true) from Qs)]
 show wpAny _ _ (field (.ref it) 1 >>= _) _ _ s
 refine Qa (JE ho hd (x := .int i 0) rfl ?_)
 show wpAny _ _ (seqItems? (.ref t) >>= _) _ _ s
 refine Qa (wpAny_seqItems hol hdl ?_)
 simp only [Jp, hx]
 refine Qa (wpAny_setField ho hd (by simp) (Qb ⟨x, rfl, Qb (hQ _ ?_ (QX ..))⟩))
 refine ⟨_, Q9 _ ho (Obj.isFreed_of_fields (Y1 hd _)), (Obj.cls_mapFields ..).trans hc, ?_⟩
 rw [Y1 hd]
 simp [rawInt]
theorem zIg {it t : Addr} {i : Nat} {items : Array Value} {Q : Value -> Shared -> Prop} (hh : A.handled = none) (hit : s.heap.IsTupleIter it t i) (ht : s.heap.IsTuple t items) (hx : items[i]? = none)
  (hE : ∀ h' e, Heap.ExtBut it s.heap h' -> (∃ o, h'.get? e = some o /\ o.cls = .type "StopIteration") -> E (.ref e) { s with heap := h' }) : wpAny (model prog w) A (Builtin.SmallTypes.nextOf (.ref it)) Q E s := by
 obtain ⟨o, ho, hc, hd⟩ := id hit
 obtain ⟨ol, hol, _, nl, hdl⟩ := ht
 unfold Builtin.SmallTypes.nextOf
 refine Qa (Yy (name := Str.ofString "__next__") hit.typeIs Y2
  (Yj Y2 hit.typeIs F.entry_tuple_iterator_next ?_ (F.args_tuple_iterator_next_1 _)))
 show wpAny _ _ (field (.ref it) 0 >>= _) _ _ s
 refine Qa (JE ho hd (x := .ref t) rfl ?_)
 show wpAny _ _ (if (Value.ref t == Value.none) = true then _ else _) _ _ s
 rw [if_neg (show ¬ ((Value.ref t == Value.none) = true) from Qs)]
 show wpAny _ _ (field (.ref it) 1 >>= _) _ _ s
 refine Qa (JE ho hd (x := .int i 0) rfl ?_)
 show wpAny _ _ (seqItems? (.ref t) >>= _) _ _ s
 refine Qa (wpAny_seqItems hol hdl ?_)
 simp only [Jp, hx]
 refine Qa (Jr (Qa (wpAny_setField ho hd (by simp) ?_)))
 show wpAny _ _ (newExc (.type "StopIteration") [] >>= _) _ _ _
 refine Qa ?_
 simp only [newExc, newTuple]
 refine Qa (Yl ?_ (by size_fits))
 refine Qa (m := firstArgMember _ _) (wpAny_of_eq (a := Value.none) (by first | rfl | (simp only [firstArgMember]; rfl)) ?_)
 refine Yl ?_ (by size_fits)
 simp only [raiseNew]
 refine Qa (wpAny_handled ?_)
 first | rw [show A.in1.handled = none from hh] | rw [hh]
 refine Qa (Qb (wpAny_throw ?_))
 exact hE _ _ (((QX ..).extBut.push _).push _) ⟨_, Qx _ rfl, rfl⟩
end
theorem zKI {prog : Program} {w : World} {A : Around} (hh : A.handled = none) (it t : Addr) (hne : t ≠ it) (items : Array Value) :
  Draws prog w A it [it, t] items.size (fun i v => items[i]? = some v) (fun i h => h.IsTupleIter it t i /\ h.IsTuple t items) where
 live := fun _ _ st => let ⟨o, ho, _⟩ := st.1; ⟨o, ho⟩
 frame := fun _ _ _ st hk => ⟨st.1.at fun o e => hk it (by simp) o e, st.2.at fun o e => hk t (by simp) o e⟩
 item := fun i s Q E hi st hQ => zMk st.1 st.2 (x := items[i]) (by simp [hi]) fun h' hit' hs' => hQ _ h' s.toks (by simp [hi]) ⟨hit', st.2.extBut hs'.extBut hne⟩ hs'
 done := fun s Q E st hE => zIg hh st.1 st.2 (by simp) hE
noncomputable def Ite (SQ : Hp -> List V -> Prop) : It :=
 ⟨fun i H => ∃ xs x, SQ H xs /\ xs[i]? = some x,
  fun i H v H' => ∃ p, H p = none /\ v = .ref p /\ ∃ x, H' = upd H p (.tup [.int i, x]) /\ ∀ xs, SQ H xs -> xs[i]? = some x,
  fun i H => ∃ xs, SQ H xs /\ xs.length <= i⟩
structure ESrc (P : Program) (w : World) (K : PySem.W.Frag) (SQ : Hp -> List V -> Prop) (a it : Addr) (IT : Nat -> Heap -> Prop) (IS : Heap -> Array Value -> Prop) : Prop where
 sq : ∀ (X : Cx) (pins : List (Addr × Obj)) (σ : L2.St) (H : Hp) (s : Shared) (xs : List V), X.K = K -> L2.Inv X pins σ H s -> SQ H xs -> (∃ its, Vals xs its /\ IS s.heap its.toArray) /\ ∀ ys, SQ H ys -> ys = xs
 ob : ∀ i h, IT i h -> ∃ o, h.get? it = some o /\ ∀ v, o.data ≠ .cell v
 kp : ∀ i h h', IT i h -> (∀ o, h.get? it = some o -> h'.get? it = some o) -> IT i h'
 D : ∀ (A : Around) (items : Array Value), A.handled = none -> Draws P w A it [it, a] items.size (fun i v => items[i]? = some v) (fun i h => IT i h /\ IS h items)
 Z : ∀ (A : Around) (items : Array Value) (i : Nat), A.handled = none -> items.size <= i -> Draws P w A it [it, a] i (fun _ _ => False) (fun j h => j = i /\ IT i h /\ IS h items)
theorem zJu {P : Program} {w : World} {K : PySem.W.Frag} {elts : List Expr} {x1} {tpos : Pos} {SQ : Hp -> List V -> Prop} (a e it : Addr) (hei : e ≠ it) (hea : e ≠ a) {IT : Nat -> Heap -> Prop} {IS : Heap -> Array Value -> Prop} (Z : ESrc P w K SQ a it IT IS) :
  Turn P w K (.Tuple elts x1 tpos) (Ite SQ) [e, it] e (fun i h => (∃ old, IsEnum h e it i old) /\ IT i h) where
 mem := by simp
 obj := fun i h st c hc => by
  obtain ⟨⟨old, h1⟩, h2⟩ := st
  rcases Qh.mp hc with rfl | hc
  ·exact ⟨_, h1, fun v z => by have z' : Data.fields _ = Data.cell v := z; cases z'⟩
  ·rw [QB.mp hc]; exact Z.ob i h h2
 keep := fun i h h' st k => by
  obtain ⟨⟨old, h1⟩, h2⟩ := st
  exact ⟨⟨old, k e (by simp) _ h1⟩, Z.kp i h h' h2 fun o q => k it (by simp) o q⟩
 item := by
  intro X hP hw hK hc i pins s σ H E I hf st hg
  subst hP hw
  obtain ⟨xs, x, ha, hx⟩ := hg
  obtain ⟨⟨old, h1⟩, h2⟩ := st
  obtain ⟨⟨its, rv, pl⟩, inj⟩ := Z.sq X pins σ H s xs hK I ha
  obtain ⟨xu, ex, rx⟩ := rv.get hx
  have hlt : i < its.toArray.size := by
   have := (Qe.mp ex).1
   simpa using this
  have hef : e ∉ [it, a] := by simp only [Qh, List.not_mem_nil, or_false, not_or]; exact ⟨hei, hea⟩
  refine wpAny_pyNext_enum_itemD (Z.D X.A.in1 its.toArray (by simp [I.ok.hd hc])) h1 ⟨h2, pl⟩ hlt hei hef fun x' h' tk hP ho hst hT hsz hk => ⟨_, rfl, ?_⟩
  have ex' : its[i]? = some x' := by simpa using hP
  rw [ex] at ex'
  cases ex'
  refine wpAny_letOwnedTupleGo_enum ho fun h'' z1 sb => ?_
  have hn : H s.heap.objs.size = none := I.hok.fresh (Qj _)
  have old' : ∀ c o, s.heap.get? c = some o -> c ≠ s.heap.objs.size := fun c o q => Qq (Qk q)
  have eT : s.heap.objs.size ≠ e := (old' e _ h1).symm
  obtain ⟨oi, hoi, _⟩ := Z.ob i _ h2
  have kk : ∀ c o, c ∉ [e, it] -> s.heap.get? c = some o -> h''.get? c = some o := fun c o nc q =>
   sb.extBut c o (fun q => nc (by simp [q])) (hk c o (fun q => nc (by simp [q])) (fun q => nc (by simp [q])) q)
  have nfp : ∀ c o, H c = some o -> c ∉ [e, it] := fun c o q hc' => by
   have := (hf c hc').1
   rw [this] at q; cases q
  have hok : HOk X.prog X.w (upd H s.heap.objs.size (.tup [.int i, x])) h'' := fun c o q => by
   by_cases hcT : c = s.heap.objs.size
   ·subst hcT
    rw [zAC] at q; cases q
    exact ⟨zBc (by simp), [.int i tk, xu], .cons ⟨tk, rfl⟩ (.cons rx .nil), ⟨_, sb.extBut _ _ eT hT, rfl, 0, rfl⟩⟩
   ·rw [zAg hcT] at q
    refine (I.hok c o q).stay (fun d v hd q => kk d v ?_ q) (fun d q => by rw [zAg (zBd q hn)]; exact q) fun d xs q => by rw [zAg (zBd q hn)]; exact q
    rcases hd with rfl | hd
    ·exact nfp _ _ q
    ·exact nfp _ _ hd
  refine ⟨.ref s.heap.objs.size, _, zEs (s := s) (h' := h'') (tk := tk + 1) I hf kk (fun c o q => zAg (old' c o q)) (fun c o q => by rw [zAg (zBd q hn)]; exact q) hok, rfl, ⟨_, hn, rfl, x, rfl, fun ys hy => by rw [inj ys hy]; exact hx⟩, ⟨⟨_, by simpa using z1⟩, Z.kp _ _ _ hst.1 fun o q => sb.extBut it o (Ne.symm hei) q⟩, fun c hc' => ?_⟩
  have q := (hf c hc').1
  have nT : c ≠ s.heap.objs.size := by
   rcases Qh.mp hc' with rfl | hc'
   ·exact old' _ _ h1
   ·rw [QB.mp hc']; exact old' _ _ hoi
  rw [zAg nT]; exact q
 done := by
  intro X hP hw hK hc i pins s σ H E I hf st hg
  subst hP hw
  obtain ⟨xs, ha, hend⟩ := hg
  obtain ⟨⟨old, h1⟩, h2⟩ := st
  obtain ⟨⟨its, rv, pl⟩, inj⟩ := Z.sq X pins σ H s xs hK I ha
  have l1 := rv.length
  refine wpAny_pyNext_enum_endD (Z.Z X.A.in1 its.toArray i (by simp [I.ok.hd hc]) (by rw [QE]; lia)) h1 ⟨rfl, h2, pl⟩ fun h' hx => ⟨rfl, ?_⟩
  have kk : ∀ c o, c ∉ [e, it] -> s.heap.get? c = some o -> h'.get? c = some o := fun c o nc q => hx c o (fun q => nc (by simp [q])) q
  have nfp : ∀ c o, H c = some o -> c ∉ [e, it] := fun c o q hc' => by
   have := (hf c hc').1
   rw [this] at q; cases q
  refine zEs (s := s) (h' := h') (tk := s.toks) I hf kk (fun _ _ _ => rfl) (fun _ _ q => q) fun c o q => ?_
  refine (I.hok c o q).stay (fun d v hd q => kk d v ?_ q) (fun d q => q) fun d xs q => q
  rcases hd with rfl | hd
  ·exact nfp _ _ q
  ·exact nfp _ _ hd
 self := fun _ _ _ _ _ st h => by
  obtain ⟨⟨old, h1⟩, _⟩ := st
  exact wpAny_pyIter_enum h1 h
theorem esrcT {P : Program} {w : World} {K : PySem.W.Frag} (a it : Addr) (hne : a ≠ it) : ESrc P w K (fun H xs => SqT K H a xs) a it (fun i h => h.IsTupleIter it a i) (fun h items => h.IsTuple a items) where
 sq := fun X pins σ H s xs hK I ha => by
  subst hK
  obtain ⟨its, rv, pl, _⟩ := I.tuple ha
  exact ⟨⟨its, rv, pl⟩, fun ys hy => I.tuple_inj hy ha⟩
 ob := fun i h ⟨o, ho, _, hd⟩ => ⟨o, ho, fun v z => by rw [hd] at z; cases z⟩
 kp := fun i h h' hi k => hi.at k
 D := fun A items hh => zKI hh it a hne items
 Z := fun A items i hh hle =>
  {live := fun _ _ ⟨_, ⟨o, ho, _⟩, _⟩ => ⟨o, ho⟩
   frame := fun _ _ _ ⟨e, st, st2⟩ hk => ⟨e, st.at fun o q => hk it (by simp) o q, st2.at fun o q => hk a (by simp) o q⟩
   item := fun j s Q E hj ⟨e, _⟩ _ => absurd e (Qq hj)
   done := fun s Q E ⟨_, st, st2⟩ hE => zIg hh st st2 (Yp hle) hE }
theorem esrcL {P : Program} {w : World} {K : PySem.W.Frag} (a it : Addr) (hne : a ≠ it) : ESrc P w K (fun H xs => SqL K H a xs) a it (fun i h => h.IsListIter it a i) (fun h items => h.IsList a items) where
 sq := fun X pins σ H s xs hK I ha => by
  subst hK
  obtain ⟨its, rv, pl, _⟩ := I.list ha
  exact ⟨⟨its, rv, pl.isList⟩, fun ys hy => I.list_inj hy ha⟩
 ob := fun i h ⟨o, ho, _, hd⟩ => ⟨o, ho, fun v z => by rw [hd] at z; cases z⟩
 kp := fun i h h' hi k => hi.at k
 D := fun A items hh => Draws.list hh it a hne items
 Z := fun A items i hh hle =>
  {live := fun _ _ ⟨_, ⟨o, ho, _⟩, _⟩ => ⟨o, ho⟩
   frame := fun _ _ _ ⟨e, st, st2⟩ hk => ⟨e, st.at fun o q => hk it (by simp) o q, st2.at fun o q => hk a (by simp) o q⟩
   item := fun j s Q E hj ⟨e, _⟩ _ => absurd e (Qq hj)
   done := fun s Q E ⟨_, st, st2⟩ hE => wpAny_nextOf_list_end hh st st2 (Yp hle) hE }
noncomputable def zDb (K : PySem.W.Frag) (ta : TA) : TI := fun σ H R => ta σ H fun vs H1 => ∃ a, vs = [.ref a] /\ (((∃ xs, SqL K H1 a xs) /\ R (Ite fun H xs => SqL K H a xs) H1) ∨ ((∃ xs, SqT K H1 a xs) /\ R (Ite fun H xs => SqT K H a xs) H1))
theorem zM4 {X : Cx} {elts : List Expr} {x1} {tpos : Pos} {a : Expr} {ta : TA} {p pos : Pos} (hg : Gl X "enumerate") (hm : X.mg "enumerate" = none) (ha : PA X [a] ta) (hs : starEach [a] X.env = [(false, eval a X.env)] := by rfl) :
  PI X (.Tuple elts x1 tpos) (.Call (.Name "enumerate" p) [a] [] pos) (zDb X.K ta) := by
 intro pins s σ H R I h
 refine Call_ (zBU I hg hm boot_enumerate (YA (thn (ha pos pins s σ H _ I h) fun us s1 ⟨vs, H1, I1, r1, q1⟩ => ?_) (by rw [hs]; rfl) (by rfl)))
 obtain ⟨a', e, q⟩ := q1
 subst e
 obtain ⟨u, rfl, ru⟩ := zBN r1
 cases ru
 have fin : ∀ c ∈ [s1.heap.objs.size + 1, s1.heap.objs.size], FpOk X pins H1 c := fun c hc => by
  have lc : s1.heap.objs.size <= c := by
   rcases Qh.mp hc with rfl | hc
   ·exact Yk _ _
   ·rw [QB.mp hc]; exact Qj _
  exact I1.fpOk lc (I1.hok.fresh lc)
 rcases q with ⟨⟨xs, hx⟩, q⟩ | ⟨⟨xs, hx⟩, q⟩
 ·obtain ⟨its, rv, pl, _⟩ := I1.list hx
  refine call_enumerate_list pl.isList fun h' a1 a2 a3 hk => ?_
  have la : a' < s1.heap.objs.size := by obtain ⟨_, e, _⟩ := pl.isList; exact Qk e
  have I2 : L2.Inv X pins σ H1 { s1 with heap := h' } := I1.kept (t' := s1.toks) hk
  refine wpAny_pyIter_enum (s := { s1 with heap := h' }) a1 ?_
  exact ⟨_, [s1.heap.objs.size + 1, s1.heap.objs.size], _, _, H1, rfl, I2, zJu a' (s1.heap.objs.size + 1) s1.heap.objs.size (Nat.succ_ne_self _) (YK (YC la)) (esrcL a' s1.heap.objs.size (Qq la)), ⟨⟨_, a1⟩, a2⟩, fin, q⟩
 ·obtain ⟨its, rv, pl, _⟩ := I1.tuple hx
  refine zJU pl fun h' a1 a2 a3 hk => ?_
  have la : a' < s1.heap.objs.size := by obtain ⟨_, e, _⟩ := pl; exact Qk e
  have I2 : L2.Inv X pins σ H1 { s1 with heap := h' } := I1.kept (t' := s1.toks) hk
  refine wpAny_pyIter_enum (s := { s1 with heap := h' }) a1 ?_
  exact ⟨_, [s1.heap.objs.size + 1, s1.heap.objs.size], _, _, H1, rfl, I2, zJu a' (s1.heap.objs.size + 1) s1.heap.objs.size (Nat.succ_ne_self _) (YK (YC la)) (esrcT a' s1.heap.objs.size (Qq la)), ⟨⟨_, a1⟩, a2⟩, fin, q⟩
end EL
namespace SL
open PySem PySem.Spec PyProof.Rows L2 CL DL SD EL
noncomputable def zBt (n : Nat) : List D -> List D
 | [] => []
 | x :: xs => .tuple [.int n, x] :: zBt (n + 1) xs
theorem zFM : ∀ (xs : List D) (n i : Nat), (zBt n xs)[i]? = (xs[i]?).map fun x => .tuple [.int ((n + i : Nat) : Int), x]
 | [], n, i => by simp [zBt]
 | x :: xs, n, 0 => by simp [zBt]
 | x :: xs, n, i + 1 => by
  show (zBt (n + 1) xs)[i]? = _
  rw [zFM xs (n + 1) i, show n + 1 + i = n + (i + 1) by lia]
  rfl
theorem zIm : ∀ (xs : List D) (n : Nat), (zBt n xs).length = xs.length
 | [], _ => rfl
 | x :: xs, n => by show (zBt (n + 1) xs).length + 1 = _; rw [zIm xs]; rfl
noncomputable def zEW : List D -> Option (List D)
 | [.list xs] => some (zBt 0 xs)
 | [.tuple xs] => some (zBt 0 xs)
 | _ => none
theorem zHV {K : PySem.W.Frag} {F : Addr -> Prop} {H : Hp} {SQ : Hp -> List V -> Prop} {vs : List V} {ds : List D} (h1 : ∀ F2 H2, Stay K F F2 H H2 -> SQ H2 vs) (r1 : Reps K F H ds vs) : ItD K F H (zBt 0 ds) (Ite SQ) := fun F2 H2 T z i => by
 have g1 := h1 F2 H2 T
 have s1 := r1.stay T
 refine ⟨fun d hd => ?_, fun hl => ⟨vs, g1, ?_⟩⟩
 ·rw [zFM] at hd
  cases e1 : ds[i]? with
  | none => rw [e1] at hd; cases hd
  | some x =>
   rw [e1] at hd
   cases hd
   obtain ⟨v, e3, R1⟩ := s1.get e1
   refine ⟨⟨vs, v, g1, e3⟩, fun w H3 yy => ?_⟩
   obtain ⟨p, hp, rfl, x', rfl, q1⟩ := yy
   have q3 := q1 vs g1
   rw [e3] at q3; cases q3
   refine ⟨F2, Ext.fresh hp, Rep.newTup hp (.cons ?_ (.cons R1 .nil))⟩
   rw [Jt]
   exact .int _
 ·rw [zIm] at hl
  rw [<- s1.length]
  exact hl
theorem zKx {X : Cx} {elts : List Expr} {x1} {tpos : Pos} {a : Expr} {gr : Rho -> Option (List D)} {p pos : Pos} (hg : Gl X "enumerate") (hm : X.mg "enumerate" = none) (ha : DA X [a] gr) (hs : starEach [a] X.env = [(false, eval a X.env)] := by rfl) :
  DI X (.Tuple elts x1 tpos) (.Call (.Name "enumerate" p) [a] [] pos) (fun ρ => (gr ρ).bind zEW) :=
 zFR (zM4 hg hm ha hs) fun σ H R zz => by
  obtain ⟨F, H₀, ρ, ds, S, q, k⟩ := zz
  obtain ⟨xs, e1, q⟩ := bnd q
  unfold zEW at q
  split at q
  ·cases q
   refine ⟨F, H₀, ρ, _, S, e1, fun F1 H1 vs E1 R1 => ?_⟩
   cases R1 with
   | cons r rs =>
    cases rs
    cases r with
    | @lst a' vs' _ h1 r1 => exact ⟨a', rfl, .inl ⟨⟨_, h1.sq⟩, k F1 H1 _ E1 (zHV (fun F2 H2 T => (h1.stay T).sq) r1)⟩⟩
  ·cases q
   refine ⟨F, H₀, ρ, _, S, e1, fun F1 H1 vs E1 R1 => ?_⟩
   cases R1 with
   | cons r rs =>
    cases rs
    cases r with
    | @tup a' vs' _ h1 r1 => exact ⟨a', rfl, .inr ⟨⟨_, h1⟩, k F1 H1 _ E1 (zHV (fun F2 H2 T => T.tp _ _ h1) r1)⟩⟩
  ·cases q
end SL
namespace SL
open PySem PySem.Spec PyProof.Rows L2 CL DL SD
noncomputable def zCt : List D -> Option (List Bool)
 | [] => some []
 | .bool b :: r => (zCt r).bind fun bs => some (b :: bs)
 | _ => none
theorem zJO {K : PySem.W.Frag} {F : Addr -> Prop} {H : Hp} : ∀ {ds : List D} {vs : List V} {bs : List Bool}, Reps K F H ds vs -> zCt ds = some bs -> vs = bs.map V.bl := by
 intro ds
 induction ds with
 | nil => intro vs bs r h; cases r; cases h; rfl
 | cons d ds ih =>
  intro vs bs r h
  cases r with
  | cons r1 r2 =>
   cases d with
   | bool b =>
    cases r1
    obtain ⟨js, e, h⟩ := bnd h
    cases h
    rw [ih r2 e]; rfl
   | _ => cases h
theorem zJx : ∀ {bs : List Bool} {us : List Value}, Vals (bs.map V.bl) us -> us = bs.map Value.bool
 | [], _, h => by cases h; rfl
 | b :: bs, _, h => by
  cases h with
  | cons r t =>
   rw [zJx t]
   cases (show _ = Value.bool b from r)
   rfl
theorem zNt (bs : List Bool) : (List.range bs.length).all (fun i => bs.getD i false) = bs.all id := by
 rw [Yg, QF, QF]
 constructor
 ·intro h b hb
  obtain ⟨i, hi⟩ := QU hb
  have := h i (QL.mpr (Qe.mp hi).1)
  rw [Yd, hi] at this
  exact this
 ·intro h i hi
  have hi := QL.mp hi
  rw [Yd, Qi hi]
  exact h _ (Yz hi)
section
variable {X : Cx}
theorem zN9 {P : Program} {w : World} {A : Around} {bs : List Bool} : TruthOf P w A (fun i v => (bs.map Value.bool).toArray[i]? = some v) (fun i => bs.getD i false) := fun i v s Q E hP hQ => by
 have hP : (List.map Value.bool bs).toArray[i]? = some v := hP
 have hQ : Q (bs.getD i false) s := hQ
 rw [List.getElem?_toArray, QQ] at hP
 cases e : bs[i]? with
 | none => rw [e] at hP; cases hP
 | some b =>
  rw [e] at hP
  cases hP
  rw [Yd, e] at hQ
  exact Qb hQ
theorem zJ0 (hc : X.calm = true) : zAR X (.builtin "all") (fun xs H Q => ∃ (a : Addr) (bs : List Bool), xs = [.ref a] /\ SqL X.K H a (bs.map V.bl) /\ Q (.bl (bs.all id)) H) := by
 intro pins s σ H xs us Q I rv h
 obtain ⟨a, bs, rfl, ha, q⟩ := h
 obtain ⟨u, rfl, ru⟩ := zBN rv
 cases ru
 obtain ⟨its, r, pl, _⟩ := I.list ha
 have e := zJx r
 subst e
 have la : a < s.heap.objs.size := by obtain ⟨_, e, _⟩ := pl.isList; exact Qk e
 refine call_all_walk (wpAny_pyIter_list pl.isList ⟨s.heap.objs.size, _, _, _, _, _, _, rfl, Walks.list (by simp [I.ok.hd hc]) s.heap.objs.size a (Qq la) (bs.map Value.bool).toArray, ⟨⟨_, Qx _ rfl, rfl, rfl⟩, pl.isList.push _⟩, zN9, fun h' tk hk => ?_⟩)
 rw [QE, Qg, zNt]
 exact ⟨.bl _, H, I.kept fun b o e => hk b o (fun z => absurd (Qk e) (by rw [QB.mp z]; exact YV _)) (Qc _ e), rfl, q⟩
noncomputable def dAll : List D -> Option D
 | [.list xs] => (zCt xs).bind fun bs => some (.bool (bs.all id))
 | _ => none
theorem zJ3 (hc : X.calm = true) : zAR X (.builtin "all") (rDA X.K dAll) := zC2 (zJ0 hc) fun xs H Q zz => by
 obtain ⟨F, ds, q, z, R, hq, k⟩ := zz
 unfold dAll at hq
 split at hq
 ·obtain ⟨bs, e1, hq⟩ := bnd hq
  cases hq
  cases R with
  | cons R1 R2 =>
   cases R2
   cases R1 with
   | @lst a vs _ h1 r1 =>
    rw [zJO r1 e1] at h1
    exact ⟨a, bs, rfl, h1.sq, k F H _ (Ext.refl F H) (.bl _)⟩
 ·cases hq
theorem boot_all : bootBuiltins "all" = some (.builtin "all") := by decide +kernel
end
open AutoSeq1 (wpAny_loadPart')
theorem zKU (l : Addr) (items : Array Value) (n : Nat) (b : Addr) (items2 : Array Value) (n2 : Nat) (dd : Option Addr) (sl : Array (Option Value)) (hc0 : (!items.isEmpty && Builtin.List.listTooLong (items.size + items2.size)) = false) (hc1 : items.size <= sizeLine) (hs2 : items.size + items2.size <= sizeLine + 1) :
  Meets (Builtin.«list.extend» ⟨[.ref l, .ref b], []⟩) (fun _ R s => s.heap.get? l = some { cls := .type "list", dict := none, data := .seq items n, slots := #[] } /\ s.heap.get? b = some { cls := .type "list", dict := dd, data := .seq items2 n2, slots := sl } /\ R (.ok (.ret Value.none)) { s with heap := s.heap.update l (Obj.mapSeq fun x => x ++ items2), toks := s.toks }) :=
 .of_wp fun prog w A R s h => by
  obtain ⟨hp, g, d, tk, os⟩ := s
  obtain ⟨hl, hb, h⟩ := h
  have f1 := AutoSeq1.idx_int
  have f2 := AutoSeq1.sub_tuple_tuple
  have f3 := AutoSeq1.sub_list_list
  have f4 := AutoSeq1.sub_tuple_list
  have f5 := AutoSeq1.sub_list_tuple
  have hz' : (items ++ items2).size <= sizeLine + 1 := by rw [Array.size_append]; exact hs2
  wp_walk using (wpAny_updateSeq hl rfl (hz := hc1) (_hz' := hz')), wpAny_loadPart' hl, wpAny_loadPart' hb
  exact ⟨_, rfl, h⟩
section
variable {X : Cx}
theorem zLW : MtM X "list.extend" (fun x vs H Q => ∃ l b xs zs, x = .ref l /\ vs = [.ref b] /\ H l = some (.lst xs) /\ SqL X.K H b zs /\ xs.length + zs.length <= 1000 /\ Q .non (upd H l (.lst (xs ++ zs)))) := by
 intro pins s σ H x vs v us Q I rx rv h
 obtain ⟨l, b, xs, zs, rfl, rfl, hH, hB, hz, q⟩ := h
 cases rx
 obtain ⟨u, rfl, ru⟩ := rv.one
 cases ru
 obtain ⟨z, its, n, r, hl, e⟩ := I.lstM hH
 obtain ⟨its2, r2, ⟨⟨c2, dd, dt, sl⟩, n2, e2, hc2, hd2, hs2⟩, _⟩ := I.list hB
 simp only at hc2 hd2 hs2
 subst hc2 hd2 hs2
 have l1 := r.length
 have l2 := r2.length
 have hsz : its.toArray.size + its2.toArray.size <= sizeLine := by rw [QE, QE]; exact zBc (by lia)
 refine call_meets F.slot_list_extend ⟨_, e, rfl⟩ F.entry_list_extend (F.args_list_extend_2 _ _)
  (zKU l its.toArray n b its2.toArray n2 _ _ (by rw [zMq hsz, Bool.and_false]) (by lia) (by lia)) ⟨e, e2, ?_⟩
 refine ⟨.non, _, I.lset (its' := its ++ its2) hH e (by simp) (r.append r2) ?_, rfl, q⟩
 rw [Qm]
 exact zBc (by lia)
noncomputable def sExt (i : Nat) (g : Rho -> Option D) : Rho -> Option Out := fun ρ => match ρ[i]? with
 | some (.own ds) => (g ρ).bind fun d => match d with
  | .list es => if ds.length + es.length <= 1000 then some (.nx (ρ.set i (.own (ds ++ es)))) else none
  | _ => none
 | _ => none
variable {e : Expr} {p pos : Pos} {ga : Rho -> Option D}
theorem zES {i : Nat} {x : Str} {apos pos' : Pos} (ha : DE X e ga) (hN : X.N[i]? = some x := by rfl) (hv : Vis X.env.scope x := by first | exact Or.inl rfl | exact Or.inr (Or.inl rfl) | exact Or.inr (Or.inr rfl)) (hd : (x == ("__debug__" : Str)) = false := by decide)
  (hcd : (x == ("__classdict__" : Str)) = false := by decide) (hse : starEach [e] X.env = (false, eval e X.env) :: starEach [] X.env := by rfl)
  (hbase : attributeBase (.Name x p) "extend" X.env (eval (.Name x p) X.env) = eval (.Name x p) X.env := by rfl)
  (hfew : ((backTo pos' (starEach [e] X.env)).all (fun x => !x.1) && (backToKw pos' (keywordEach [] X.env)).all (fun x => x.1.isSome)
   && decide ([e].length + ([] : List Keyword).length + (if ([] : List Keyword).isEmpty then 0 else 1) < 30)) = true := by rfl)
  (hline : (apos.endLine == pos'.line) = true := by rfl) (hplain : (backTo pos' (starEach [] X.env)).any (·.1) = false := by rfl) (hsw : swapsWith (.Call (.Attribute (.Name x p) "extend" apos) [e] [] pos') none pos.line X.env = pure false := by rfl) :
  DS X (.Expr (.Call (.Attribute (.Name x p) "extend" apos) [e] [] pos') pos) (sExt i ga) :=
 DL.ps_mono (zD6 (zFP PySem.F.plainAttrs_list PySem.F.slot_list_extend PySem.F.type_list_extend zLW (zDk hN hv hd hcd) (zBx ha zBX hse) hbase hfew hline hse hplain) hsw) fun W σ H zz => by
 obtain ⟨F₀, H₀, F, ρ, o, E, S, q, k⟩ := zz
 unfold sExt at q
 split at q
 ·rename_i ds e0
  obtain ⟨d, e1, q⟩ := bnd q
  split at q
  ·rename_i es
   by_cases hl : ds.length + es.length <= 1000
   ·rw [if_pos hl] at q
    cases q
    obtain ⟨l, vs, q1, q2, q3, q4, q5⟩ := S.own e0
    refine ⟨_, q1, .inl ⟨rfl, _, SqL.of q2⟩, F, H₀, ρ, _, S, e1, fun F' H' v E' R' => ?_⟩
    have S' := S.ext E'
    obtain ⟨l', vs', g1, g2, g3, g4, g5⟩ := S'.own e0
    rw [q1] at g1; cases g1
    cases R' with
    | @lst b us _ h1 r1 =>
     refine ⟨l, b, vs', us, rfl, rfl, g2, h1.sq, by rw [<- g5.length, <- r1.length]; exact hl, ?_⟩
     obtain ⟨S2, T⟩ := S'.turn e0 q1 g2 g3 (g5.append r1)
     exact k F' _ σ ((E.trans E').turn q4) (E'.stay.trans T) S2
   ·rw [if_neg hl] at q; cases q
  ·cases q
 ·cases q
end
noncomputable def zFS : Expr -> Bool
 | .Starred .. => false
 | _ => true
theorem zN0 (e : Expr) (es : List Expr) (env : Env) (h : zFS e = true) : starEach (e :: es) env = (false, eval e env) :: starEach es env := by
 cases e <;> first | rfl | cases h
theorem zKq {X : Cx} {e : Expr} {es : List Expr} {ga : Rho -> Option D} {gr : Rho -> Option (List D)} (ha : DE X e ga) (hr : DA X es gr) (h : zFS e = true := by rfl) : DA X (e :: es) (zAc ga gr) := zKp ha hr (zN0 e es X.env h)
end SL
namespace ST
open PySem PySem.SetTable PyProof.Rows
structure TOkD (t : SetTable) (hs : List Int) : Prop where
 good : Good t.mask
 len : t.place.toList.length = hs.length
 up : Up t.place.toList
 dup : Up t.dummies.toList
 apart : ∀ x ∈ t.dummies.toList, x ∉ t.place.toList
 room : (t.place.toList.length + t.dummies.toList.length) * 5 < t.mask * 3
 reach : ∀ q ∈ t.place.toList.zip hs, ∃ n, (P t.mask q.2 n).j = q.1 /\ ∀ m, m < n -> (P t.mask q.2 m).j ∈ t.place.toList ++ t.dummies.toList
theorem TOk.toD {t : SetTable} {hs : List Int} (T : TOk t hs) : TOkD t hs := by
 refine ⟨T.good, T.len, T.up, ?_, ?_, ?_, fun q hq => ?_⟩
 ·rw [T.dum]; exact List.Pairwise.nil
 ·rw [T.dum]; intro x hx; simp at hx
 ·rw [T.dum]; exact T.room
 ·obtain ⟨n, e, a⟩ := T.reach q hq
  exact ⟨n, e, fun m hm => Yb _ (a m hm)⟩
theorem zFs {xs : Array Nat} (s : Up xs.toList) (j : Nat) : has xs j = true ↔ j ∈ xs.toList := by
 obtain ⟨h1, h2, h3⟩ := zCs xs s j
 unfold has
 constructor
 ·intro h
  have := QZ h
  rw [<- QI] at this
  exact QO this
 ·intro hj
  obtain ⟨i, hi⟩ := QU hj
  have hl := (Qe.mp hi).1
  have e : i = below xs j := by
   by_cases a : i < below xs j
   ·have := h2 i j hi a; lia
   ·by_cases b : i = below xs j
    ·exact b
    ·have hb : below xs j < xs.toList.length := by lia
     have hv := Qi hb
     have := s.at hv hi (by lia)
     have := h3 _ _ hv (Qj _)
     lia
  rw [<- e, <- QI, hi]
  simp
theorem zEh {t : SetTable} {hs : List Int} (T : TOkD t hs) (j : Nat) : (∃ i, t.slot j = .live i /\ t.place.toList[i]? = some j) ∨ (t.slot j = .dummy /\ j ∉ t.place.toList /\ j ∈ t.dummies.toList) ∨ (t.slot j = .empty /\ j ∉ t.place.toList ++ t.dummies.toList) := by
 unfold slot
 dsimp only
 by_cases c : (t.place[below t.place j]? == some j) = true
 ·rw [if_pos c]
  exact .inl ⟨_, rfl, by rw [QI]; exact QZ c⟩
 ·rw [if_neg c]
  have hn : j ∉ t.place.toList := fun hj => c ((zFs T.up j).mpr hj)
  by_cases d : has t.dummies j = true
  ·rw [if_pos d]
   exact .inr (.inl ⟨rfl, hn, (zFs T.dup j).mp d⟩)
  ·rw [if_neg d]
   exact .inr (.inr ⟨rfl, fun h => (QC.mp h).elim hn fun h => d ((zFs T.dup j).mpr h)⟩)
theorem zI9 {t : SetTable} {hs : List Int} (T : TOkD t hs) {j i : Nat} (h : t.slot j = .live i) : t.place.toList[i]? = some j := by
 rcases zEh T j with ⟨i', h1, h2⟩ | ⟨h1, _⟩ | ⟨h1, _⟩
 ·rw [h] at h1; cases h1; exact h2
 ·rw [h] at h1; cases h1
 ·rw [h] at h1; cases h1
theorem TOkD.fits {t : SetTable} {hs : List Int} (T : TOkD t hs) {n : Nat} (e : hs.length = n) : t.fits n = true := by
 have h1 := T.len
 have h2 := T.room
 rw [Qo] at h1 h2
 rw [Qo] at h2
 unfold SetTable.fits SetTable.fill
 rw [h1, e]
 rw [h1] at h2
 simp only [Qw, beq_iff_eq, decide_eq_true_eq]
 refine ⟨?_, ?_⟩
 ·trivial
 ·show n + t.dummies.size <= t.mask
  lia
theorem TOkD.odd {t : SetTable} {hs : List Int} (T : TOkD t hs) : t.gaveWay = false := by
 unfold SetTable.gaveWay
 rcases T.good with h | h | h | h | h | h <;> rw [h] <;> rfl
noncomputable def Pd (M : Nat) (h : Int) (n : Nat) (d : Option Nat) : Probe := { P M h n with dummy := d }
theorem adv_d (M : Nat) (p : Probe) (d : Option Nat) : adv M { p with dummy := d } = { adv M p with dummy := d } := by
 unfold adv
 dsimp only
 split <;> rfl
theorem zGD (M : Nat) (h : Int) (n : Nat) (d : Option Nat) : adv M (Pd M h n d) = Pd M h (n + 1) d := adv_d M (P M h n) d
section
variable {t : SetTable} {hs : List Int} {hashAt : Nat -> Int} {h : Int} {n : Nat}
theorem zK1 (fuel c : Nat) (d : Option Nat) : probe.go t hashAt h (fuel + 1) (Pd t.mask h c d) = match t.slot (P t.mask h c).j with
  | .empty => some (.empty (P t.mask h c).j d)
  | .dummy => probe.go t hashAt h fuel (Pd t.mask h (c + 1) (some (P t.mask h c).j))
  | .live i => if (hashAt i == h) = true then some (.candidate (P t.mask h c).j i (Pd t.mask h (c + 1) d)) else probe.go t hashAt h fuel (Pd t.mask h (c + 1) d) := by
 conv => lhs; unfold probe.go
 rw [<- zGD t.mask h c d, <- zGD t.mask h c (some (P t.mask h c).j)]
 rfl
theorem zFn (T : TOkD t hs) (h1 : (P t.mask h n).j ∉ t.place.toList ++ t.dummies.toList) (h2 : ∀ m, m < n -> (P t.mask h m).j ∈ t.place.toList ++ t.dummies.toList) : ∀ fuel c d, c <= n -> n - c < fuel ->
  (∃ d', probe.go t hashAt h fuel (Pd t.mask h c d) = some (.empty (P t.mask h n).j d') /\ ∀ m, c <= m -> m < n -> ∀ i, t.slot (P t.mask h m).j = .live i -> hashAt i ≠ h)
  ∨ ∃ m i d', c <= m /\ m < n /\ t.slot (P t.mask h m).j = .live i /\ hashAt i = h /\ (∀ m', c <= m' -> m' < m -> ∀ i, t.slot (P t.mask h m').j = .live i -> hashAt i ≠ h) /\ probe.go t hashAt h fuel (Pd t.mask h c d) = some (.candidate (P t.mask h m).j i (Pd t.mask h (m + 1) d'))
 | 0, c, d, _, hf => absurd hf (Yx _)
 | fuel + 1, c, d, hc, hf => by
  rw [zK1]
  by_cases e : c = n
  ·subst e
   rcases zEh T (P t.mask h c).j with ⟨i, q1, q2⟩ | ⟨q1, q2, q3⟩ | ⟨q1, _⟩
   ·exact absurd (Yb _ (QO q2)) h1
   ·exact absurd (Qy _ q3) h1
   ·rw [q1]
    exact .inl ⟨d, rfl, fun m a b => by lia⟩
  ·rcases zEh T (P t.mask h c).j with ⟨i, q1, q2⟩ | ⟨q1, q2, q3⟩ | ⟨_, q2⟩
   ·rw [q1]
    dsimp only
    by_cases k : (hashAt i == h) = true
    ·rw [if_pos k]
     exact .inr ⟨c, i, d, Qj _, by lia, q1, QZ k, fun m' a b => by lia, rfl⟩
    ·rw [if_neg k]
     have hk : hashAt i ≠ h := fun e => k (by rw [e]; simp)
     rcases zFn T h1 h2 fuel (c + 1) d (by lia) (by lia) with ⟨d', a, b⟩ | ⟨m, i', d', a1, a2, a3, a4, a5, a6⟩
     ·refine .inl ⟨d', a, fun m hm1 hm2 i2 hi2 => ?_⟩
      by_cases e2 : m = c
      ·subst e2; rw [q1] at hi2; cases hi2; exact hk
      ·exact b m (by lia) hm2 i2 hi2
     ·refine .inr ⟨m, i', d', by lia, a2, a3, a4, fun m' hm1 hm2 i2 hi2 => ?_, a6⟩
      by_cases e2 : m' = c
      ·subst e2; rw [q1] at hi2; cases hi2; exact hk
      ·exact a5 m' (by lia) hm2 i2 hi2
   ·rw [q1]
    dsimp only
    rcases zFn T h1 h2 fuel (c + 1) (some (P t.mask h c).j) (by lia) (by lia) with ⟨d', a, b⟩ | ⟨m, i', d', a1, a2, a3, a4, a5, a6⟩
    ·refine .inl ⟨d', a, fun m hm1 hm2 i2 hi2 => ?_⟩
     by_cases e2 : m = c
     ·subst e2; rw [q1] at hi2; cases hi2
     ·exact b m (by lia) hm2 i2 hi2
    ·refine .inr ⟨m, i', d', by lia, a2, a3, a4, fun m' hm1 hm2 i2 hi2 => ?_, a6⟩
     by_cases e2 : m' = c
     ·subst e2; rw [q1] at hi2; cases hi2
     ·exact a5 m' (by lia) hm2 i2 hi2
   ·exact absurd (h2 c (by lia)) q2
theorem metD (T : TOkD t hs) (h1 : (P t.mask h n).j ∉ t.place.toList ++ t.dummies.toList) {i j : Nat} (hj : t.place.toList[i]? = some j) (hh : hs[i]? = some h) : ∃ m, m < n /\ (P t.mask h m).j = j := by
 have hq : (j, h) ∈ t.place.toList.zip hs := QO (i := i) (by rw [Ys]; exact ⟨hj, hh⟩)
 obtain ⟨m, e, a⟩ := T.reach _ hq
 refine ⟨m, Yr fun c => h1 ?_, e⟩
 by_cases d : n = m
 ·subst d; rw [e]; exact Yb _ (QO hj)
 ·exact a n (by lia)
end
section
variable {prog : Program} {w : World} {A : Around} {E : Value -> Shared -> Prop} {s : Shared}
theorem zHd {a x : Addr} {o : Obj} {es : Array (Int × Value)} {ep : Nat} {t : SetTable} {ks : List (List Int)} {k : List Int} {n : Nat} {Q : SetFound -> Shared -> Prop}
  (hu : A.units < cLine) (ho : s.heap.get? a = some o) (hd : o.data = .set es ep t) (T : TOkD t (es.toList.map (·.1))) (X : Ents prog w s.heap es.toList ks) (hk : TK prog w s.heap k x)
  (h1 : (P t.mask (TH prog w k) n).j ∉ t.place.toList ++ t.dummies.toList) (h2 : ∀ m, m < n -> (P t.mask (TH prog w k) m).j ∈ t.place.toList ++ t.dummies.toList)
  (q1 : ∀ i, ks[i]? = some k -> Q (.there (some i)) s) (q2 : k ∉ ks -> ∀ j b, Q (.free j b) s) :
  ∀ fuel c d, c <= n -> n < 10 * turns t.mask -> n - c < fuel -> (∀ m, m < c -> ∀ i, t.slot (P t.mask (TH prog w k) m).j = .live i -> ks[i]? ≠ some k) -> ∀ stand : Option Probe, stand.getD (t.probeStart (TH prog w k)) = Pd t.mask (TH prog w k) c d ->
  wpAny (model prog w) A (setSearchFrom a (.ref x) (TH prog w k) false fuel stand) Q E s
 | 0, c, d, _, _, hf, _, _, _ => absurd hf (Yx _)
 | fuel + 1, c, d, hc, hN, hf, inv, stand, hst => by
  have hfit : t.fits es.size = true := T.fits (by simp)
  unfold setSearchFrom
  refine Qa (QR ho hd hfit ?_)
  dsimp only
  rw [hst, if_neg (by rw [T.odd]; exact Qs)]
  refine Qa (Qb ?_)
  generalize hg : t.probe _ (TH prog w k) (Pd t.mask (TH prog w k) c d) = met
  obtain ⟨f, hfe, hg⟩ : ∃ f : Nat -> Int, (∀ i, f i = (es[i]?.map (·.1)).getD 0) /\ t.probe f (TH prog w k) (Pd t.mask (TH prog w k) c d) = met := ⟨_, fun _ => rfl, hg⟩
  have key : ∀ m i, t.slot (P t.mask (TH prog w k) m).j = .live i -> f i ≠ TH prog w k -> ks[i]? ≠ some k := fun m i hi hne hki => by
   have hp := zI9 T hi
   have hl : i < es.toList.length := by
    have := (Qe.mp hp).1
    rw [T.len] at this
    simpa using this
   obtain ⟨k', b, e1, e2, e3⟩ := X.at (Qi hl)
   rw [hki] at e1
   cases e1
   apply hne
   rw [hfe, <- QI, Qi hl, e2]
   rfl
  have hgo := zFn (hashAt := f) T h1 h2 (10 * turns t.mask) c d hc (by lia)
  rcases hgo with ⟨d', g1, g2⟩ | ⟨m, i, d', g1, g2, g3, g4, g5, g6⟩
  ·have : met = some (.empty (P t.mask (TH prog w k) n).j d') := hg.symm.trans g1
   subst this
   have nin : k ∉ ks := fun hmem => by
    obtain ⟨i, hi⟩ := QU hmem
    have hl : i < es.toList.length := by rw [X.length]; exact (Qe.mp hi).1
    obtain ⟨k', b, e1, e2, e3⟩ := X.at (Qi hl)
    rw [hi] at e1
    cases e1
    have hpl : i < t.place.toList.length := by rw [T.len]; simpa using hl
    obtain ⟨m, hm, hj⟩ := metD T h1 (Qi hpl) (h := TH prog w k) (by rw [QQ, Qi hl, e2]; rfl)
    rcases zEh T (P t.mask (TH prog w k) m).j with ⟨i', hs1, hs2⟩ | ⟨_, hs2, _⟩ | ⟨_, hs2⟩
    ·have hii : i' = i := by
      rw [hj] at hs2
      have a1 := Qi hpl
      by_cases l1 : i' < i
      ·have := T.up.at hs2 a1 l1; lia
      ·by_cases l2 : i < i'
       ·have := T.up.at a1 hs2 l2; lia
       ·lia
     subst hii
     by_cases cm : m < c
     ·exact inv m cm i' hs1 hi
     ·exact key m i' hs1 (g2 m (by lia) hm i' hs1) hi
    ·rw [hj] at hs2
     exact hs2 (Yz _)
    ·rw [hj] at hs2
     exact hs2 (Yb _ (Yz _))
   dsimp only
   cases d' with
   | none => exact Qb (q2 nin _ _)
   | some dd =>
    dsimp only
    rw [if_neg (by simp)]
    exact Qb (q2 nin _ _)
  ·have : met = some (.candidate (P t.mask (TH prog w k) m).j i (Pd t.mask (TH prog w k) (m + 1) d')) := hg.symm.trans g6
   subst this
   have hp := zI9 T g3
   have hl : i < es.toList.length := by
    have := (Qe.mp hp).1
    rw [T.len] at this
    simpa using this
   obtain ⟨k', b, e1, e2, e3⟩ := X.at (Qi hl)
   have hei : es[i]? = some (TH prog w k', .ref b) := by rw [<- QI, Qi hl, e2]
   dsimp only
   have hseen : ∀ y ∈ (es.filter (fun x => x.1 == TH prog w k)).toList.map (fun x => x.2), ∃ k' b, y = .ref b /\ TK prog w s.heap k' b := fun y hy => by
    obtain ⟨e, he, rfl⟩ := Qr.mp hy
    have he' : e ∈ es.toList := by
     rw [Array.toList_filter] at he
     exact (QK.mp he).1
    obtain ⟨i2, hi2⟩ := QU he'
    obtain ⟨k2, b2, _, z2, z3⟩ := X.at hi2
    exact ⟨k2, b2, by rw [z2], z3⟩
   split
   all_goals try (refine Qa (zIl hk hseen ?_); rw [if_neg Qs])
   all_goals
    rw [hei]
    dsimp only
    refine Qa (Ya (wpAny_eqBool_tuple hu e3 hk ?_))
    refine Qa (QR ho hd hfit ?_)
    dsimp only
    rw [if_neg (by simp), show t.sameMemory t.moves t.mask = some true by unfold sameMemory; simp]
    dsimp only
    rw [if_pos rfl, g3]
    dsimp only
    rw [hei]
    dsimp only
    refine Qa (wpAny_isSame_ref_self ?_)
    simp only [if_true]
    refine Qa (Qb ?_)
    dsimp only
    by_cases hkk : k' = k
    ·rw [if_pos (by simp [hkk])]
     exact Qb (q1 i (hkk ▸ e1))
    ·rw [if_neg (by simp [hkk])]
     refine zHd hu ho hd T X hk h1 h2 q1 q2 fuel (m + 1) d' (by lia) hN (by lia) (fun m' hm' i' hi' => ?_) _ rfl
     by_cases l1 : m' < c
     ·exact inv m' l1 i' hi'
     ·by_cases l2 : m' = m
      ·subst l2
       rw [g3] at hi'
       cases hi'
       rw [e1]
       exact fun e => hkk (QJ e)
      ·exact key m' i' hi' (g5 m' (by lia) (by lia) i' hi')
theorem zHf {a x : Addr} {o : Obj} {es : Array (Int × Value)} {ep : Nat} {t : SetTable} {ks : List (List Int)} {k : List Int} {Q : Option Nat -> Shared -> Prop}
  (hu : A.units < cLine) (ho : s.heap.get? a = some o) (hd : o.data = .set es ep t) (T : TOkD t (es.toList.map (·.1))) (X : Ents prog w s.heap es.toList ks) (hk : TK prog w s.heap k x)
  (q1 : ∀ i, ks[i]? = some k -> Q (some i) s) (q2 : k ∉ ks -> Q none s) : wpAny (model prog w) A (setFind a (.ref x) (TH prog w k)) Q E s := by
 have hfit : t.fits es.size = true := T.fits (by simp)
 have hroom := T.room
 obtain ⟨n, n1, n2, n3⟩ := zHq (l := t.place.toList ++ t.dummies.toList) T.good (by rw [Qm]; lia) (TH prog w k)
 have hM : t.mask <= 255 := by rcases T.good with g | g | g | g | g | g <;> lia
 unfold setFind setFindIn
 refine Qa (QR ho hd hfit ?_)
 dsimp only
 rw [if_neg (by simp [byScan, Value.scannable])]
 refine Qa ?_
 unfold setSearch
 refine zHd hu ho hd T X hk n2 n3 ?_ ?_ 100000 0 none (QY _) n1 (by unfold turns at n1; lia) (fun m hm => absurd hm (Yx _)) none ?_
 ·intro i hi
  exact Qb (q1 i hi)
 ·intro hn j b
  exact Qb (q2 hn)
 ·show P t.mask (TH prog w k) 0 = _
  rfl
end
end ST
namespace ST
open PySem PySem.SetTable PyProof.Rows
theorem zC9 {α : Type} (xs : Array α) (p : Nat) : (eraseAt xs p).toList = xs.toList.take p ++ xs.toList.drop (p + 1) := by
 unfold eraseAt
 rw [Array.toList_append, Array.toList_extract, Array.toList_extract]
 simp only [List.extract_eq_take_drop, Nat.sub_zero, List.drop_zero]
 congr 1
 exact Jm (by rw [Yi, Qo]; lia)
theorem zH9 {l : List Nat} (s : Up l) {i j : Nat} (hi : l[i]? = some j) (x : Nat) : x ∈ l.take i ++ l.drop (i + 1) ↔ x ∈ l /\ x ≠ j := by
 have hl := (Qe.mp hi).1
 have e : l = l.take i ++ j :: l.drop (i + 1) := by
  have : l[i] = j := by rw [Qi hl] at hi; exact QJ hi
  rw [<- this, <- Yq hl, Yc]
 have nd : (l.take i ++ j :: l.drop (i + 1)).Nodup := by rw [<- e]; exact s.nodup
 constructor
 ·intro hx
  refine ⟨?_, fun q => ?_⟩
  ·rw [e]
   rcases QC.mp hx with h | h
   ·exact Yb _ h
   ·exact Qy _ (Qd _ h)
  ·subst q
   have := (List.perm_middle.nodup_iff.mp nd)
   exact (Q5.mp this).1 hx
 ·rintro ⟨hx, hne⟩
  rw [e] at hx
  rcases QC.mp hx with h | h
  ·exact Yb _ h
  ·rcases Qh.mp h with h | h
   ·exact absurd h hne
   ·exact Qy _ h
theorem zOj {xs : Array Nat} (s : Up xs.toList) {j : Nat} (hj : j ∉ xs.toList) : Up (insertAt xs (below xs j) j).toList := by
 obtain ⟨b1, b2, b3⟩ := zCs xs s j
 rw [zBH]
 unfold Up
 rw [List.pairwise_append]
 have hlt : ∀ x ∈ xs.toList.take (below xs j), x < j := fun x hx => by
  obtain ⟨i, hi⟩ := QU hx
  rw [List.getElem?_take] at hi
  split at hi
  ·rename_i q; exact b2 i x hi q
  ·cases hi
 have hgt : ∀ x ∈ xs.toList.drop (below xs j), j < x := fun x hx => by
  obtain ⟨i, hi⟩ := QU hx
  rw [List.getElem?_drop] at hi
  have := b3 _ x hi (by lia)
  have hne : x ≠ j := fun e => hj (e ▸ QO hi)
  lia
 refine ⟨s.sublist (List.take_sublist _ _), Q3.mpr ⟨hgt, s.sublist (List.drop_sublist _ _)⟩, fun a ha b hb => ?_⟩
 rcases Qh.mp hb with rfl | hb
 ·exact hlt a ha
 ·exact Nat.lt_trans (hlt a ha) (hgt b hb)
theorem zIa {xs : Array Nat} {p j x : Nat} : x ∈ (insertAt xs p j).toList ↔ x = j ∨ x ∈ xs.toList := by
 rw [zBH, QC, Qh]
 conv => rhs; rw [<- Yc p xs.toList, QC]
 constructor
 ·rintro (a | a | a)
  ·exact .inr (.inl a)
  ·exact .inl a
  ·exact .inr (.inr a)
 ·rintro (a | a | a)
  ·exact .inr (.inl a)
  ·exact .inl a
  ·exact .inr (.inr a)
theorem zOp {α β : Type} {l : List α} {m : List β} {i : Nat} (hlm : l.length = m.length) {q : α × β} (h : q ∈ (l.take i ++ l.drop (i + 1)).zip (m.take i ++ m.drop (i + 1))) : q ∈ l.zip m := by
 rw [List.zip_append (by rw [Q2, Q2, hlm]), QC] at h
 rcases h with h | h
 ·obtain ⟨n, hn⟩ := QU h
  rw [Ys, List.getElem?_take, List.getElem?_take] at hn
  split at hn
  ·exact QO (i := n) (by rw [Ys]; exact hn)
  ·cases hn.1
 ·obtain ⟨n, hn⟩ := QU h
  rw [Ys, List.getElem?_drop, List.getElem?_drop] at hn
  exact QO (i := i + 1 + n) (by rw [Ys]; exact hn)
theorem zKJ {t : SetTable} {hs : List Int} {i : Nat} (T : TOkD t hs) (hi : i < hs.length) : TOkD (t.drop i) (hs.take i ++ hs.drop (i + 1)) /\ (t.drop i).plain = t.plain /\ (t.drop i).led = t.led := by
 have hl : i < t.place.toList.length := by rw [T.len]; exact hi
 obtain ⟨j, hj⟩ : ∃ j, t.place.toList[i]? = some j := ⟨_, Qi hl⟩
 have hj' : t.place[i]? = some j := by rw [<- QI]; exact hj
 have jp : j ∈ t.place.toList := QO hj
 have jd : j ∉ t.dummies.toList := fun h => T.apart j h jp
 have e : t.drop i = { t with place := eraseAt t.place i, dummies := insertAt t.dummies (below t.dummies j) j } := by
  unfold SetTable.drop
  rw [hj']
 rw [e]
 have hp : (eraseAt t.place i).toList = t.place.toList.take i ++ t.place.toList.drop (i + 1) := zC9 _ _
 have lp : (eraseAt t.place i).toList.length + 1 = t.place.toList.length := by
  rw [hp, Qm, Q2, Yi]
  lia
 have ld : (insertAt t.dummies (below t.dummies j) j).toList.length = t.dummies.toList.length + 1 := by
  rw [(YT _ _ _).length_eq]
  simp
 have occ : ∀ x, x ∈ (eraseAt t.place i).toList ++ (insertAt t.dummies (below t.dummies j) j).toList ↔ x ∈ t.place.toList ++ t.dummies.toList := fun x => by
  rw [QC, QC, hp, zH9 T.up hj, zIa]
  constructor
  ·rintro (⟨a, _⟩ | a | a)
   ·exact .inl a
   ·exact .inl (a ▸ jp)
   ·exact .inr a
  ·rintro (a | a)
   ·by_cases c : x = j
    ·exact .inr (.inl c)
    ·exact .inl ⟨a, c⟩
   ·exact .inr (.inr a)
 refine ⟨⟨T.good, ?_, ?_, zOj T.dup jd, fun x hx => ?_, ?_, fun q hq => ?_⟩, rfl, rfl⟩
 ·show (eraseAt t.place i).toList.length = _
  rw [hp, Qm, Qm, Q2, Yi, Q2, Yi, T.len]
 ·show Up (eraseAt t.place i).toList
  rw [hp]
  refine T.up.sublist ?_
  have : (t.place.toList.take i ++ t.place.toList.drop (i + 1)).Sublist (t.place.toList.take i ++ t.place.toList.drop i) := List.Sublist.append (List.Sublist.refl _) (by
   rw [Yq hl]; exact List.sublist_cons_self _ _)
  rwa [Yc] at this
 ·show x ∉ (eraseAt t.place i).toList
  rw [hp, zH9 T.up hj]
  rintro ⟨a, b⟩
  rcases zIa.mp hx with c | c
  ·exact b c
  ·exact T.apart x c a
 ·show ((eraseAt t.place i).toList.length + (insertAt t.dummies (below t.dummies j) j).toList.length) * 5 < t.mask * 3
  have := T.room
  rw [ld]
  lia
 ·have hq' : q ∈ (eraseAt t.place i).toList.zip (hs.take i ++ hs.drop (i + 1)) := hq
  rw [hp] at hq'
  obtain ⟨n, e1, a⟩ := T.reach q (zOp T.len hq')
  exact ⟨n, e1, fun m hm => (occ _).mpr (a m hm)⟩
noncomputable def SetD (prog : Program) (w : World) (V : Value -> Prop) (h : Heap) (a : Addr) (ks : List (List Int)) : Prop :=
 ∃ o es ep t, h.get? a = some o /\ o.ExactSet /\ o.data = .set es ep t /\ TOkD t (es.toList.map (·.1)) /\ (t.plain = true /\ t.led = ledW w) /\ Ents prog w h es.toList ks /\ ks.Nodup /\ ∀ e ∈ es.toList, V e.2
theorem SetT.toD {prog : Program} {w : World} {V : Value -> Prop} {h : Heap} {a : Addr} {ks : List (List Int)} (S : SetT prog w V h a ks) : SetD prog w V h a ks := by
 obtain ⟨o, es, ep, t, z1, z2, z3, z4, z5, z6, z7, z8⟩ := S
 exact ⟨o, es, ep, t, z1, z2, z3, z4.toD, z5, z6, z7, z8⟩
section
variable {prog : Program} {w : World} {A : Around} {E : Value -> Shared -> Prop} {s : Shared} {V : Value -> Prop}
theorem zGW {α : Type} {l : List α} {i : Nat} {x : α} (h : l[i]? = some x) : List.Perm l (x :: (l.take i ++ l.drop (i + 1))) := by
 have hl := (Qe.mp h).1
 have : l[i] = x := by rw [Qi hl] at h; exact QJ h
 have e : l = l.take i ++ x :: l.drop (i + 1) := by rw [<- this, <- Yq hl, Yc]
 exact (List.Perm.of_eq e).trans List.perm_middle
theorem zKG {a x : Addr} {ks : List (List Int)} {k : List Int} {Q : Bool -> Shared -> Prop} (hu : A.units < cLine) (S : SetD prog w V s.heap a ks) (hk : TK prog w s.heap k x)
  (q1 : k ∉ ks -> Q false s) (q2 : ∀ h' ks', Heap.SameBut a s.heap h' -> SetD prog w V h' a ks' -> List.Perm ks (k :: ks') -> Q true { s with heap := h' }) (hsz : ks.length <= 1000) :
  wpAny (model prog w) A (setDiscardHashed a (.ref x) (TH prog w k)) Q E s := by
 obtain ⟨o, es, ep, t, ho, hex, hd, T, hp, X, hnd, hV⟩ := S
 have hfit : t.fits es.size = true := T.fits (by simp)
 unfold setDiscardHashed
 refine Qa (zHf hu ho hd T X hk (fun i hi => ?_) fun hn => Qb (q1 hn))
 dsimp only
 have hik : i < ks.length := (Qe.mp hi).1
 have hie : i < es.toList.length := by rw [X.length]; exact hik
 refine Qa (QR ho hd hfit ?_)
 dsimp only
 have hes : es.size = ks.length := by rw [<- X.length, Qo]
 have hle : (eraseAt es i).size <= es.size := by
  rw [<- Qo, zC9, Qm, Q2, Yi, Qo]
  lia
 refine Qa (Y6 ho hd ?_ (by rw [Ye]; lia))
 have hg : (s.heap.update a (Obj.putSet (eraseAt es i) (t.drop i))).get? a = some { o with data := .set (eraseAt es i) (ep + 1) (t.drop i) } := by
  have := Q9 (Obj.putSet (eraseAt es i) (t.drop i)) ho (by rw [Jc _ _ hd]; rfl)
  rw [Jc _ _ hd] at this; exact this
 have hsb := QX s.heap a (Obj.putSet (eraseAt es i) (t.drop i))
 obtain ⟨T2, p1, p2⟩ := zKJ (i := i) T (by rw [Qg]; exact hie)
 refine Qa (wpAny_point (Qb (q2 _ (ks.take i ++ ks.drop (i + 1)) hsb ⟨_, _, _, _, hg, hex, rfl, ?_, ⟨by rw [p1]; exact hp.1, by rw [p2]; exact hp.2⟩, ?_, ?_, fun e he => ?_⟩ (zGW hi))))
 ·rw [zC9, QS, List.map_take, List.map_drop]
  exact T2
 ·rw [zC9]
  exact ((X.take i).append (X.drop (i + 1))).mono fun k b => TK.keep ho hd hsb
 ·exact (Q5.mp ((zGW hi).nodup_iff.mp hnd)).2
 ·rw [zC9] at he
  rcases QC.mp he with he | he
  ·exact hV e (List.mem_of_mem_take he)
  ·exact hV e (List.mem_of_mem_drop he)
end
end ST
namespace ST
open PySem PySem.SetTable PyProof.Rows
section
variable {prog : Program} {w : World} {A : Around} {E : Value -> Shared -> Prop} {s : Shared} {V : Value -> Prop}
abbrev zDa (w : World) : Obj := { cls := .type "set", dict := none, data := .set #[] 0 (.fresh 0 0 (ledW w)) }
theorem zIf {Q : Value -> Shared -> Prop} (h : Q (.ref s.heap.objs.size) { s with heap := s.heap.push (zDa w) }) : wpAny (model prog w) A (newSet (.type "set")) Q E s := by
 unfold newSet setsByText
 refine Qa (Qa (wpAny_askSetting (Qb ?_)))
 dsimp only
 simp only [newObj]
 exact Qa (wpAny_alloc (Qb h))
structure Bare (w : World) (t : SetTable) (M : Nat) : Prop where
 good : Good M
 mask : t.mask = M
 place : t.place = #[]
 dum : t.dummies = #[]
 plain : t.plain = true
 led : t.led = ledW w
theorem zNx (t : SetTable) (wanted : Nat) : t.relaid #[] wanted = some ({ mask := sizeAbove wanted - 1, place := #[], dummies := #[], finger := t.finger, led := t.led, moves := t.movedTo (sizeAbove wanted - 1), plain := t.plain }, #[]) := by
 unfold relaid laid layClean
 have e : ∀ M : Nat, ((List.range (M + 1)).filterMap fun j => ((Array.replicate (M + 1) (none : Option Nat)).getD j none).map (j, ·)) = [] := fun M => by
  rw [List.filterMap_eq_nil_iff]
  intro j _
  have : (Array.replicate (M + 1) (none : Option Nat)).getD j none = none := by
   unfold Array.getD
   split
   ·simp
   ·rfl
  rw [this]
  rfl
 show some _ = _
 simp only [e]
 rfl
theorem zK2 {n : Nat} (h5 : n * 5 >= 21) (hn : n <= 75) : ∃ M, sizeAbove (n * 2) - 1 = M /\ Good M /\ n * 5 < M * 3 /\ ¬ sizeAbove (n * 2) > sizeLine := by
 have h : ∀ n : Fin 76, n.val * 5 >= 21 -> (sizeAbove (n.val * 2) - 1 = 15 ∨ sizeAbove (n.val * 2) - 1 = 31 ∨ sizeAbove (n.val * 2) - 1 = 63 ∨ sizeAbove (n.val * 2) - 1 = 127 ∨ sizeAbove (n.val * 2) - 1 = 255) /\ n.val * 5 < (sizeAbove (n.val * 2) - 1) * 3 /\ sizeAbove (n.val * 2) <= 256 := by decide +kernel
 obtain ⟨h1, h2, h3⟩ := h ⟨n, by lia⟩ h5
 refine ⟨_, rfl, ?_, h2, by rw [Ye]; exact Nat.not_lt.mpr (Qt h3 (by decide))⟩
 unfold Good
 rcases h1 with e | e | e | e | e <;> simp only at e <;> lia
theorem zN7 {n : Nat} (hn : n <= 63) : ∃ M, sizeAbove (grown n) - 1 = M /\ Good M /\ n * 5 < M * 3 /\ ¬ sizeAbove (grown n) > sizeLine := by
 have h : ∀ n : Fin 64, (sizeAbove (grown n.val) - 1 = 7 ∨ sizeAbove (grown n.val) - 1 = 15 ∨ sizeAbove (grown n.val) - 1 = 31 ∨ sizeAbove (grown n.val) - 1 = 63 ∨ sizeAbove (grown n.val) - 1 = 127 ∨ sizeAbove (grown n.val) - 1 = 255) /\ n.val * 5 < (sizeAbove (grown n.val) - 1) * 3 /\ sizeAbove (grown n.val) <= 256 := by decide +kernel
 obtain ⟨h1, h2, h3⟩ := h ⟨n, by lia⟩
 refine ⟨_, rfl, ?_, h2, by rw [Ye]; exact Nat.not_lt.mpr (Qt h3 (by decide))⟩
 unfold Good
 rcases h1 with e | e | e | e | e | e <;> simp only at e <;> lia
theorem zNC {r n : Nat} {o : Obj} {t : SetTable} {ep : Nat} {Q : Unit -> Shared -> Prop} (ho : s.heap.get? r = some o) (hex : o.ExactSet) (hd : o.data = .set #[] ep t) (B : Bare w t 7) (hn : n <= 75)
  (h : ∀ h' o' ep' t' M, Heap.SameBut r s.heap h' -> h'.get? r = some o' -> o'.ExactSet -> o'.data = .set #[] ep' t' -> Bare w t' M -> n * 5 < M * 3 -> Q () { s with heap := h' }) : wpAny (model prog w) A (setRoomFor r n) Q E s := by
 have hfit : t.fits (#[] : Array (Int × Value)).size = true := by unfold SetTable.fits SetTable.fill; rw [B.place, B.dum]; simp
 unfold setRoomFor
 refine Qa (QR ho hd hfit ?_)
 unfold SetTable.roomFor SetTable.fill
 rw [B.place, B.dum, B.mask]
 by_cases c : (0 + n) * 5 >= 7 * 3
 ·rw [if_pos (by simpa using c)]
  obtain ⟨M, m1, m2, m3, m4⟩ := zK2 (n := n) (by lia) hn
  unfold setRelay
  refine Qa (QR ho hd hfit ?_)
  dsimp only
  have ew : ((#[] : Array Nat).size + n) * 2 = n * 2 := by simp
  rw [ew, if_neg m4]
  have er := zNx t (n * 2)
  rw [m1] at er
  have em : ((#[] : Array (Int × Value)).map (·.1)) = #[] := by simp
  rw [em, er]
  refine Qa (wpAny_of_eq (a := ((#[] : Array (Int × Value)), ({ mask := M, place := #[], dummies := #[], finger := t.finger, led := t.led, moves := t.movedTo M, plain := t.plain } : SetTable))) (by rfl) ?_)
  dsimp only
  refine Y6 ho hd ?_ (by simp)
  have hg := Q9 (Obj.putSet #[] { mask := M, place := #[], dummies := #[], finger := t.finger, led := t.led, moves := t.movedTo M, plain := t.plain }) ho (by rw [Jc _ _ hd]; rfl)
  rw [Jc _ _ hd] at hg
  exact h _ _ _ _ M (QX ..) hg hex rfl ⟨m2, rfl, rfl, rfl, B.plain, B.led⟩ m3
 ·rw [if_neg (by simpa using c)]
  exact Qb (h s.heap o ep t 7 (Heap.SameBut.refl ..) ho hex hd B (by lia))
end
end ST
namespace ST
open PySem PySem.SetTable PyProof.Rows
section
variable {prog : Program} {w : World} {A : Around} {E : Value -> Shared -> Prop} {s : Shared} {V : Value -> Prop}
theorem zLR {r a : Addr} {o : Obj} {t : SetTable} {ep : Nat} {ks : List (List Int)} {Q : Unit -> Shared -> Prop} (hra : r ≠ a) (ho : s.heap.get? r = some o) (hex : o.ExactSet) (hd : o.data = .set #[] ep t) (B : Bare w t 7)
  (S : SetT prog w V s.heap a ks) (hn : ks.length <= 75) (h : ∀ h' ks', Heap.SameBut r s.heap h' -> SetT prog w V h' r ks' -> List.Perm ks' ks -> Q () { s with heap := h' }) : wpAny (model prog w) A (setMerge r a (pure ())) Q E s := by
 obtain ⟨oa, es, epa, ta, ha, hxa, hda, T, hp, X, hnd, hV⟩ := S
 have hes : es.size = ks.length := by rw [<- X.length, Qo]
 unfold setMerge
 rw [if_neg (by simpa using hra)]
 refine Qa (QR ha hda (T.fits (by simp)) ?_)
 dsimp only
 by_cases em : es.isEmpty = true
 ·rw [if_pos em]
  have e0 : es = #[] := by simpa using em
  have k0 : ks = [] := by
   rw [e0] at hes
   exact Jh hes.symm
  subst k0
  refine Qb (h s.heap [] (Heap.SameBut.refl ..) ⟨o, #[], ep, t, ho, hex, hd, ?_, ⟨B.plain, B.led⟩, .nil, Y0, fun e he => by simp at he⟩ (.refl _))
  exact ⟨by rw [B.mask]; exact B.good, B.dum, by rw [B.place]; rfl, by rw [B.place]; exact List.Pairwise.nil, fun x hx => by rw [B.place] at hx; simp at hx, by rw [B.place, B.mask]; decide, fun q hq => by rw [B.place] at hq; simp at hq⟩
 ·rw [if_neg em]
  refine Qa (zNC ho hex hd B (by rw [hes]; exact hn) fun h1 o1 ep1 t1 M sb1 ho1 hex1 hd1 B1 hM => ?_)
  have ha1 : h1.get? a = some oa := (sb1.2 a (Ne.symm hra)).trans ha
  have X1 : Ents prog w h1 es.toList ks := X.mono fun k b => TK.keep ho hd sb1
  refine Qa (QR (s := { s with heap := h1 }) ho1 hd1 (by unfold SetTable.fits SetTable.fill; rw [B1.place, B1.dum]; simp) ?_)
  dsimp only
  have hf : (t1.fill != 0) = false := by unfold SetTable.fill; rw [B1.place, B1.dum]; rfl
  have szl : es.size <= sizeLine := by rw [Ye]; lia
  unfold SetTable.road
  rw [hf, if_neg Qs]
  by_cases c : (t1.mask == ta.mask && ta.dummies.isEmpty) = true
  ·rw [if_pos c]
   dsimp only
   refine Y6 (s := { s with heap := h1 }) ho1 hd1 ?_ szl
   have hg := Q9 (Obj.putSet es { ta with finger := t1.finger, led := t1.led && ta.led, moves := t1.moves, plain := t1.plain && ta.plain }) ho1 (by rw [Jc _ _ hd1]; rfl)
   rw [Jc _ _ hd1] at hg
   have sb2 := QX h1 r (Obj.putSet es { ta with finger := t1.finger, led := t1.led && ta.led, moves := t1.moves, plain := t1.plain && ta.plain })
   refine h _ ks (sb1.trans sb2) ⟨_, _, _, _, hg, hex1, rfl, ⟨T.good, T.dum, T.len, T.up, T.le, T.room, T.reach⟩, ⟨?_, ?_⟩, X1.mono fun k b => TK.keep ho1 hd1 sb2, hnd, hV⟩ (.refl _)
   ·show (t1.plain && ta.plain) = true
    rw [B1.plain, hp.1]; rfl
   ·show (t1.led && ta.led) = ledW w
    rw [B1.led, hp.2, Jo]
  ·rw [if_neg c]
   dsimp only
   obtain ⟨t', order, r1, r2, r3, r4, r5⟩ := zHZ (hs := es.map (·.1)) (M := M) t1.finger t1.moves (t1.led && ta.led) (t1.plain && ta.plain) B1.good (by rw [YZ]; exact hM)
   have hlt : ∀ i ∈ order.toList, i < es.toList.length := fun i hi => by
    have := QL.mp (r2.mem_iff.mp hi)
    simpa using this
   have hesl : (order.filterMap (es[·]?)).toList = order.toList.filterMap (es.toList[·]?) := by
    rw [Jl]
    congr 1
    funext i
    rw [QI]
   have hperm : List.Perm (order.filterMap (es[·]?)).toList es.toList := by
    rw [Jl]
    refine (r2.filterMap _).trans ?_
    rw [YZ, filterMap_getElem?_range]
   have hsize : (order.filterMap (es[·]?)).size = es.size := by rw [<- Qo, hperm.length_eq, Qo]
   rw [B1.mask, r1]
   refine Qa ?_
   show wpAny _ _ (if ((order.filterMap (es[·]?)).size != es.size) = true then _ else pure (order.filterMap (es[·]?), t')) _ _ _
   rw [if_neg (by simp [hsize])]
   refine Qb ?_
   dsimp only
   refine Y6 (s := { s with heap := h1 }) ho1 hd1 ?_ (by rw [hsize]; exact szl)
   have hg := Q9 (Obj.putSet (order.filterMap (es[·]?)) t') ho1 (by rw [Jc _ _ hd1]; rfl)
   rw [Jc _ _ hd1] at hg
   have sb2 := QX h1 r (Obj.putSet (order.filterMap (es[·]?)) t')
   have kp : List.Perm (order.toList.filterMap (ks[·]?)) ks := by
    refine (r2.filterMap _).trans ?_
    rw [YZ, <- Qo, X.length, YR]
   refine h _ (order.toList.filterMap (ks[·]?)) (sb1.trans sb2) ⟨_, _, _, _, hg, hex1, rfl, ?_, ⟨by rw [r5, B1.plain, hp.1]; rfl, by rw [r4, B1.led, hp.2, Jo]⟩, ?_, kp.nodup_iff.mpr hnd, fun e he => hV e (hperm.mem_iff.mp he)⟩ kp
   ·rw [hesl, zFv _ _ hlt]
    simpa using r3
   ·rw [hesl]
    exact (X1.pick _ hlt).mono fun k b => TK.keep ho1 hd1 sb2
theorem zDQ {a : Addr} {Q : Bool -> Shared -> Prop} (hT : s.TypeIs (.ref a) "set") (h : Q true s) : wpAny (model prog w) A (Builtin.Frozenset.isAnySet (.ref a)) Q E s := by
 unfold Builtin.Frozenset.isAnySet orM
 refine Qa (wpAny_isInstance hT sub_set_self ?_)
 exact Qb h
theorem base_of {a : Addr} {Q : Value -> Shared -> Prop} (hT : s.TypeIs (.ref a) "set") (h : Q (.type "set") s) : wpAny (model prog w) A (Builtin.Frozenset.baseOf a) Q E s := by
 unfold Builtin.Frozenset.baseOf
 refine Qa (wpAny_isInstance hT sub_set_self ?_)
 rw [if_pos rfl]
 exact Qb h
theorem zEf {a : Addr} {o : Obj} {es : Array (Int × Value)} {ep : Nat} {t : SetTable} {Q : Nat -> Shared -> Prop} (ho : s.heap.get? a = some o) (hd : o.data = .set es ep t) (hf : t.fits es.size = true) (h : Q es.size s) : wpAny (model prog w) A (Builtin.Frozenset.sizeOf a) Q E s := by
 unfold Builtin.Frozenset.sizeOf
 exact Qa (Jw ho hd hf (Qb h))
theorem zKd {a : Addr} {ks : List (List Int)} {Q : Value -> Shared -> Prop} (S : SetT prog w V s.heap a ks) (hn : ks.length <= 75)
  (h : ∀ h' ks', (∀ b o, s.heap.get? b = some o -> h'.get? b = some o) -> SetT prog w V h' s.heap.objs.size ks' -> List.Perm ks' ks -> Q (.ref s.heap.objs.size) { s with heap := h' }) : wpAny (model prog w) A (Builtin.Frozenset.copyOf a) Q E s := by
 obtain ⟨oa, es, epa, ta, ha, hxa, hda, T, hp, X, hnd, hV⟩ := id S
 have hT : s.TypeIs (.ref a) "set" := ⟨oa, ha, hxa.1⟩
 have la := Qk ha
 unfold Builtin.Frozenset.copyOf
 refine Qa (base_of hT (Qa (zIf ?_)))
 refine Qa (Qb ?_)
 have S' : SetT prog w V (s.heap.push (zDa w)) a ks := S.moved fun b o e _ => Qc _ e
 refine Qa (zLR (s := { s with heap := s.heap.push (zDa w) }) (r := s.heap.objs.size) (YK la) (Qx _ rfl) ⟨rfl, rfl, rfl⟩ rfl ⟨.inl rfl, rfl, rfl, rfl, rfl, rfl⟩ S' hn fun h' ks' sb S'' pk => ?_)
 exact Qb (h h' ks' (fun b o e => (sb.2 b (Qq (Qk e))).trans (Qc _ e)) S'' pk)
end
end ST
namespace ST
open PySem PySem.SetTable PyProof.Rows
section
variable {prog : Program} {w : World} {A : Around} {E : Value -> Shared -> Prop} {s : Shared} {V : Value -> Prop}
theorem zJA {a : Addr} {o : Obj} {es : Array (Int × Value)} {ep : Nat} {t : SetTable} {others : List Addr} {filled : Option Addr} {Q : Array (Int × Value) -> Shared -> Prop} (S : zA9 w s.heap a o es ep t) (h : Q (ordW w a ep es) s) :
  wpAny (model prog w) A (setWalkUnseen a others filled) Q E s := by
 unfold setWalkUnseen
 refine Qa (QR S.get S.data S.fits ?_)
 dsimp only
 refine Qa (zDA ?_)
 have c : (w.params.followText "set-order" || (t.led && t.plain) || decide (es.size <= 1)) = true := by
  rw [S.led, S.plain, ledW]
  cases w.params.followText "set-order" <;> rfl
 rw [c, if_pos rfl]
 exact zJz S h
theorem zEq {id : String} {a : Addr} {o : Obj} {es : Array (Int × Value)} {ep : Nat} {t : SetTable} {Q : Unit -> Shared -> Prop} (ho : s.heap.get? a = some o) (hd : o.data = .set es ep t) (hf : t.fits es.size = true) (h : Q () s) : wpAny (model prog w) A (Builtin.Frozenset.unchanged id a ep) Q E s := by
 unfold Builtin.Frozenset.unchanged setEpoch
 refine Qa (Qa (QR ho hd hf (Qb ?_)))
 rw [if_neg (by simp)]
 exact Qb h
theorem SetT.setAt {h : Heap} {a : Addr} {ks : List (List Int)} (S : SetT prog w V h a ks) : ∃ o es ep t, zA9 w h a o es ep t /\ TOk t (es.toList.map (·.1)) /\ Ents prog w h es.toList ks /\ ∀ e ∈ es.toList, V e.2 := by
 obtain ⟨o, es, ep, t, z1, z2, z3, z4, z5, z6, z7, z8⟩ := S
 exact ⟨o, es, ep, t, ⟨z1, z2, z3, z4.fits (by simp), z4.up, z5.1, z5.2⟩, z4, z6, z8⟩
structure DI1 (prog : Program) (w : World) (V : Value -> Prop) (s : Shared) (ka kb : List (List Int)) (rest : List (Int × Value)) (s' : Shared) (h' : Heap) (kc kd krest : List (List Int)) : Prop where
 eq : s' = { s with heap := h' }
 kp : ∀ b o, s.heap.get? b = some o -> h'.get? b = some o
 SC : SetD prog w V h' s.heap.objs.size kc
 Xr : Ents prog w s.heap rest krest
 pk : List.Perm (kd ++ krest) kb
 lc : kc.length <= 63
 me : ∀ k, k ∈ kc ↔ k ∈ ka /\ k ∉ kd
structure DI2 (prog : Program) (w : World) (V : Value -> Prop) (s : Shared) (ka kb : List (List Int)) (rest : List (Int × Value)) (s' : Shared) (h' : Heap) (kr kd krest : List (List Int)) : Prop where
 eq : s' = { s with heap := h' }
 kp : ∀ b o, s.heap.get? b = some o -> h'.get? b = some o
 SR : SetT prog w V h' s.heap.objs.size kr
 Xr : Ents prog w s.heap rest krest
 pk : List.Perm (kd ++ krest) ka
 me : ∀ k, k ∈ kr ↔ k ∈ kd /\ k ∉ kb
 vr : ∀ e ∈ rest, V e.2
theorem zKF {id : String} {a b : Addr} {ka kb : List (List Int)} {Q : Value -> Shared -> Prop} (hab : a ≠ b) (hu : A.units < cLine) (SA : SetT prog w V s.heap a ka) (SB : SetT prog w V s.heap b kb) (hna : ka.length <= 63)
  (h : ∀ h' r ks, s.heap.objs.size <= r -> (∀ b o, s.heap.get? b = some o -> h'.get? b = some o) -> SetD prog w V h' r ks -> (∀ k, k ∈ ks ↔ k ∈ ka /\ k ∉ kb) -> Q (.ref r) { s with heap := h' }) :
  wpAny (model prog w) A (Builtin.Frozenset.difference id a (.ref b)) Q E s := by
 obtain ⟨oa, ea, pa, ta, Sa, Ta, Xa, Va⟩ := SA.setAt
 obtain ⟨ob, eb, pb, tb, Sb, Tb, Xb, Vb⟩ := SB.setAt
 have hTa : s.TypeIs (.ref a) "set" := ⟨oa, Sa.get, Sa.ex.1⟩
 have hTb : s.TypeIs (.ref b) "set" := ⟨ob, Sb.get, Sb.ex.1⟩
 have nda := SA.nodup
 unfold Builtin.Frozenset.difference
 refine Qa (zDQ hTb ?_)
 simp only [YL, Qp, if_false, Bool.false_and]
 unfold Builtin.Frozenset.addrOf
 refine Qa (Qb ?_)
 simp only [if_true]
 refine Qa (zEf Sb.get Sb.data Sb.fits ?_)
 refine Qa (zEf Sa.get Sa.data Sa.fits ?_)
 by_cases c : ea.size / 4 > eb.size
 ·rw [if_pos c]
  refine Qa (Jr ?_)
  refine Qa (zKd SA (by lia) fun h1 kr kp1 SR pr => ?_)
  have lb := Qk Sb.get
  have Sb1 := Sb.at (kp1 _ _ Sb.get)
  have hTb1 : ({ s with heap := h1 } : Shared).TypeIs (.ref b) "set" := ⟨ob, Sb1.get, Sb.ex.1⟩
  refine Qa (Qb ?_)
  refine Qa (Ya ?_)
  unfold Builtin.Frozenset.differenceUpdate
  rw [if_neg (by simpa using Qq lb)]
  refine Qa (zDQ hTb1 ?_)
  rw [if_pos rfl]
  unfold Builtin.Frozenset.addrOf
  refine Qa (Qb ?_)
  refine Qa (zEf (s := { s with heap := h1 }) Sb1.get Sb1.data Sb1.fits ?_)
  obtain ⟨oR, eR, pR, tR, SatR, TR, XR, VR⟩ := SR.setAt
  refine Qa (zEf (s := { s with heap := h1 }) SatR.get SatR.data SatR.fits ?_)
  have sz1 : eR.size = ea.size := by rw [<- Qo, XR.length, pr.length_eq, <- Xa.length, Qo]
  rw [if_neg (by lia)]
  dsimp only
  refine Qa (wpAny_setEpoch_of (s := { s with heap := h1 }) Sb1.get Sb1.data Sb1.fits ?_)
  refine Qa (Ya (Qa (zJA (s := { s with heap := h1 }) Sb1 ?_)))
  obtain ⟨ko, Xo, po⟩ := Xb.perm (zCI w b pb eb).symm
  rw [<- Array.forIn_toList]
  refine Qa (Ja _ (fun rest _ s' => ∃ h' kc kd krest, DI1 prog w V s ka kb rest s' h' kc kd krest) _ ?_ ?_ _ _ ?_)
  ·rintro x rest _ s' ⟨h', kc, kd, krest, rfl, kp, SC, Xr, pk, lc, mk⟩
   cases Xr with
   | @cons k bx _ krest hk Xr =>
    have hk' : TK prog w h' k bx := hk.at fun o e => kp bx o e
    have pk' : List.Perm ((kd ++ [k]) ++ krest) kb := by rw [Q1]; exact pk
    dsimp only
    refine Qa (Ya (zKG (s := { s with heap := h' }) hu SC hk' (fun hn => ?_) (fun h2 kc2 sb S2 p2 => ?_) (by lia)))
    ·have Sb2 := Sb.at (kp _ _ Sb.get)
     refine Qa (zEq (s := { s with heap := h' }) Sb2.get Sb2.data Sb2.fits (Qb ?_))
     refine ⟨h', kc, kd ++ [k], krest, rfl, kp, SC, Xr, pk', lc, fun k' => ?_⟩
     rw [mk k', QC, QB]
     constructor
     ·rintro ⟨x1, x2⟩
      exact ⟨x1, fun z => z.elim x2 fun z => hn (z ▸ (mk k').mpr ⟨x1, x2⟩)⟩
     ·rintro ⟨x1, x2⟩
      exact ⟨x1, fun z => x2 (.inl z)⟩
    ·have kp2 : ∀ b o, s.heap.get? b = some o -> h2.get? b = some o := fun b o e => (sb.2 b (Qq (Qk e))).trans (kp b o e)
     have Sb2 := Sb.at (kp2 _ _ Sb.get)
     refine Qa (zEq (s := { s with heap := h2 }) Sb2.get Sb2.data Sb2.fits (Qb ?_))
     have nd : (k :: kc2).Nodup := by
      obtain ⟨_, _, _, _, _, _, _, _, _, _, z7, _⟩ := SC
      exact p2.nodup_iff.mp z7
     have ll := p2.length_eq
     rw [QM] at ll
     refine ⟨h2, kc2, kd ++ [k], krest, rfl, kp2, S2, Xr, pk', by lia, fun k' => ?_⟩
     rw [QC, QB]
     have m1 : k' ∈ kc ↔ k' = k ∨ k' ∈ kc2 := by rw [p2.mem_iff, Qh]
     constructor
     ·intro hx
      have := (mk k').mp (m1.mpr (.inr hx))
      exact ⟨this.1, fun z => z.elim this.2 fun z => (Q5.mp nd).1 (z ▸ hx)⟩
     ·rintro ⟨x1, x2⟩
      rcases m1.mp ((mk k').mpr ⟨x1, fun z => x2 (.inl z)⟩) with z | z
      ·exact absurd (.inr z) x2
      ·exact z
  ·rintro _ s' ⟨h', kc, kd, krest, rfl, kp, SC, Xr, pk, lc, mk⟩
   cases Xr
   rw [Yn] at pk
   refine Qb ?_
   have fin : ∀ h2 kc2, (∀ b o, s.heap.get? b = some o -> h2.get? b = some o) -> SetD prog w V h2 s.heap.objs.size kc2 -> List.Perm kc2 kc -> wpAny (model prog w) A (pure (Value.ref s.heap.objs.size)) Q E { s with heap := h2 } := fun h2 kc2 kp2 S2 p2 =>
    Qb (h h2 _ kc2 (Qj _) kp2 S2 fun k => by rw [p2.mem_iff, mk k, pk.mem_iff])
   obtain ⟨o, es, ep, t, ho, hex, hd, T, hp, X, hnd, hV⟩ := _root_.id SC
   have hfit : t.fits es.size = true := T.fits (by simp)
   have hes : es.size = kc.length := by rw [<- X.length, Qo]
   unfold setTidy
   refine Qa (QR (s := { s with heap := h' }) ho hd hfit ?_)
   dsimp only
   by_cases td : t.tooManyDummies = true
   ·rw [if_pos td]
    obtain ⟨M, m1, m2, m3, m4⟩ := zN7 (n := es.size) (by lia)
    refine zIL (s := { s with heap := h' }) (V := V) ho hex hd hfit hp X hnd hV m1 m2 m3 m4 (by rw [Ye]; lia) fun h2 kc2 sb S2 p2 => ?_
    exact fin h2 kc2 (fun b o e => (sb.2 b (Qq (Qk e))).trans (kp b o e)) S2.toD p2
   ·rw [if_neg td]
    exact Qb (fin h' kc kp SC (.refl _))
  ·exact ⟨h1, kr, [], ko, rfl, kp1, SR.toD, Xo, po, by rw [pr.length_eq]; exact hna, fun k => by rw [pr.mem_iff]; simp⟩
 ·rw [if_neg c]
  refine Qa (base_of hTa (Qa (zIf ?_)))
  refine Qa (Qb ?_)
  have kp0 : ∀ b o, s.heap.get? b = some o -> (s.heap.push (zDa w)).get? b = some o := fun b o e => Qc _ e
  have Sa0 := Sa.at (kp0 _ _ Sa.get)
  refine Qa (wpAny_setEpoch_of Sa0.get Sa0.data Sa0.fits ?_)
  refine Qa (Ya (Qa (zJA (s := { s with heap := s.heap.push (zDa w) }) Sa0 ?_)))
  obtain ⟨ko, Xo, po⟩ := Xa.perm (zCI w a pa ea).symm
  rw [<- Array.forIn_toList]
  refine Qa (Ja _ (fun rest _ s' => ∃ h' kr kd krest, DI2 prog w V s ka kb rest s' h' kr kd krest) _ ?_ ?_ _ _ ?_)
  ·rintro x rest _ s' ⟨h', kr, kd, krest, rfl, kp, SR, Xr, pk, mk, vr⟩
   cases Xr with
   | @cons k bx _ krest hk Xr =>
    have hk' : TK prog w h' k bx := hk.at fun o e => kp bx o e
    have Sb' := Sb.at (kp _ _ Sb.get)
    have Sa' := Sa.at (kp _ _ Sa.get)
    have nin : k ∉ kd := by
     have := pk.nodup_iff.mpr nda
     have := List.perm_middle.nodup_iff.mp this
     exact fun hh => (Q5.mp this).1 (Yb _ hh)
    have pk' : List.Perm ((kd ++ [k]) ++ krest) ka := by rw [Q1]; exact pk
    refine Qa (Ya (Qa (zHf (s := { s with heap := h' }) hu Sb'.get Sb'.data Tb.toD (Xb.mono fun k b x => x.at fun o e => kp b o e) hk' (fun i hi => ?_) fun hn => ?_)))
    ·refine Qa (Qb ?_)
     simp only [Option.isSome_some, YL, Qp, if_false]
     refine Qb ?_
     refine Qa (zEq (s := { s with heap := h' }) Sa'.get Sa'.data Sa'.fits (Qb ?_))
     refine ⟨h', kr, kd ++ [k], krest, rfl, kp, SR, Xr, pk', fun k' => ?_, fun e he => vr e (Qd _ he)⟩
     rw [mk k', QC, QB]
     constructor
     ·rintro ⟨x1, x2⟩; exact ⟨.inl x1, x2⟩
     ·rintro ⟨x1 | x1, x2⟩
      ·exact ⟨x1, x2⟩
      ·exact absurd (x1 ▸ QO hi) x2
    ·refine Qa (Qb ?_)
     simp only [Option.isSome_none, Bool.not_false, if_true]
     have lk : kr.length <= 63 := by
      have h1 : kr.length <= kd.length := Yo SR.nodup fun k hk => ((mk k).mp hk).1
      have h2 := pk.length_eq
      rw [Qm] at h2
      lia
     refine Qa (zGF (s := { s with heap := h' }) hu SR hk' (vr _ Qf) (by lia) (fun hm => absurd ((mk k).mp hm).1 nin) fun _ h2 kr2 sb S2 p2 => ?_)
     have kp2 : ∀ b o, s.heap.get? b = some o -> h2.get? b = some o := fun b o e => (sb.2 b (Qq (Qk e))).trans (kp b o e)
     have Sa2 := Sa.at (kp2 _ _ Sa.get)
     refine Qb (Qa (zEq (s := { s with heap := h2 }) Sa2.get Sa2.data Sa2.fits (Qb ?_)))
     refine ⟨h2, kr2, kd ++ [k], krest, rfl, kp2, S2, Xr, pk', fun k' => ?_, fun e he => vr e (Qd _ he)⟩
     rw [p2.mem_iff, Qh, mk k', QC, QB]
     constructor
     ·rintro (x1 | ⟨x1, x2⟩)
      ·exact ⟨.inr x1, x1 ▸ hn⟩
      ·exact ⟨.inl x1, x2⟩
     ·rintro ⟨x1 | x1, x2⟩
      ·exact .inr ⟨x1, x2⟩
      ·exact .inl x1
  ·rintro _ s' ⟨h', kr, kd, krest, rfl, kp, SR, Xr, pk, mk, vr⟩
   cases Xr
   rw [Yn] at pk
   refine Qb (Qb (h h' _ kr (Qj _) kp SR.toD fun k => ?_))
   rw [mk k, pk.mem_iff]
  ·refine ⟨_, [], [], ko, rfl, kp0, ⟨_, #[], 0, _, Qx _ rfl, ⟨rfl, rfl, rfl⟩, rfl, ⟨.inl rfl, rfl, rfl, List.Pairwise.nil, fun x hx => by simp [SetTable.fresh] at hx, (by show 0 * 5 < 7 * 3; decide), fun q hq => by simp at hq⟩, ⟨rfl, rfl⟩, .nil, Y0, fun e he => by simp at he⟩, Xo, po, fun k => by simp, fun e he => Va e ((zCI w a pa ea).mem_iff.mp he)⟩
end
end ST
namespace ST
open PySem PySem.SetTable PyProof.Rows
section
variable {prog : Program} {w : World} {A : Around} {E : Value -> Shared -> Prop} {s : Shared} {V : Value -> Prop}
theorem zN2 {a b : Addr} {ka kb : List (List Int)} {Q : Value -> Shared -> Prop} (hab : a ≠ b) (hu : A.units + 8 < cLine) (SA : SetT prog w V s.heap a ka) (SB : SetT prog w V s.heap b kb) (hna : ka.length <= 63)
  (h : ∀ h' r ks, s.heap.objs.size <= r -> (∀ b o, s.heap.get? b = some o -> h'.get? b = some o) -> SetD prog w V h' r ks -> (∀ k, k ∈ ks ↔ k ∈ ka /\ k ∉ kb) -> Q (.ref r) { s with heap := h' }) :
  wpAny (model prog w) A (binaryOp .Sub (.ref a) (.ref b)) Q E s := by
 obtain ⟨oa, ea, pa, ta, Sa, Ta, Xa, Va⟩ := SA.setAt
 obtain ⟨ob, eb, pb, tb, Sb, Tb, Xb, Vb⟩ := SB.setAt
 have hTa : s.TypeIs (.ref a) "set" := ⟨oa, Sa.get, Sa.ex.1⟩
 have hTb : s.TypeIs (.ref b) "set" := ⟨ob, Sb.get, Sb.ex.1⟩
 refine wpAny_binaryOp_same hTa hTb PySem.F.fills_set_sub PySem.F.slot_set_sub (Yj PySem.F.slot_set_sub hTa PySem.F.set_sub_entry ?_ (PySem.F.args_set_sub_2 _ _))
 unfold Builtin.«frozenset.__sub__»
 wp_delta
 refine Qa (wpAny_of_eq (a := (Value.ref a, Value.ref b)) (by rfl) ?_)
 simp only [Qp, if_false]
 refine Qa ?_
 unfold andM
 refine Qa (zDQ hTa ?_)
 show wpAny _ _ (Builtin.Frozenset.isAnySet (.ref b)) _ _ _
 refine zDQ hTb ?_
 simp only [YL, Qp, if_false]
 unfold Builtin.Frozenset.addrOf
 refine Qa (Qb (Qa (zKF hab (by show A.units + 1 < cLine; lia) SA SB hna fun h' r ks hr kp S mk => ?_)))
 exact Qb ⟨_, rfl, (fun z => nomatch z), h h' r ks hr kp S mk⟩
end
end ST
namespace SL
open PySem PySem.Spec PyProof.Rows L2 CL DL SD ST
noncomputable def zEV (g1 g2 : Rho -> Option (List (List Int))) : Rho -> Option (List (List Int)) := fun ρ => (g1 ρ).bind fun x => (g2 ρ).bind fun y => if x.length <= 63 then some (x.filter fun k => !y.contains k) else none
section
variable {X : Cx} {a b : Expr} {pos : Pos} {g1 g2 : Rho -> Option (List (List Int))}
theorem Ents.carry {pins pins' : List (Addr × Obj)} {σ σ' : L2.St} {H1 H2 : Hp} {s1 s2 : Shared} (I1 : Inv X pins σ H1 s1) (I2 : Inv X pins' σ' H2 s2) (sm : Same H1 H2) : ∀ {es : List (Int × Value)} {ks : List (List Int)}, Ents X.prog X.w s1.heap es ks -> (∀ e ∈ es, VT X.K H1 e.2) -> Ents X.prog X.w s2.heap es ks
 | _, _, .nil, _ => .nil
 | _, _, .cons (k := k) (b := bx) h1 r, hv => by
  obtain ⟨b', xs, e1, e2⟩ := hv _ Qf
  cases e1
  have : k = xs := h1.unique (zBz I1 e2)
  subst this
  exact .cons (zBz I2 (Same.sqT sm e2)) (Ents.carry I1 I2 sm r fun e he => hv e (Qd _ he))
theorem zKP (hc : X.calm = true) (hu : X.A.units + 66 < cLine) (ha : DSt X a g1) (hb : DSt X b g2) : DSv X (.BinOp a .Sub b pos) (zEV g1 g2) := by
 intro pins s σ H Q I ⟨F, H₀, ρ, kl, S, q, k⟩
 obtain ⟨x, e1, q⟩ := bnd q
 obtain ⟨y, e2, q⟩ := bnd q
 by_cases c : x.length <= 63
 ·rw [if_pos c] at q
  cases q
  refine wpAny_BinOp (thn (ha pins s σ H (fun ks H1 => ks.Nodup /\ (∀ k, k ∈ ks ↔ k ∈ x) /\ ∃ F1, Ext F F1 H H1) I ⟨F, H₀, ρ, x, S, e1, fun F1 H1 ks E1 n1 m1 => ⟨n1, m1, F1, E1⟩⟩) fun u s1 zz => ?_)
  obtain ⟨a1, o1, ka, H1, eu, I1, S1, _, _, m1, F1, E1⟩ := zz
  refine thn (hb ((a1, o1) :: pins) s1 σ H1 (fun ks H2 => ks.Nodup /\ (∀ k, k ∈ ks ↔ k ∈ y) /\ ∃ F2, Ext F1 F2 H1 H2) I1 ⟨F1, H₀, ρ, y, S.ext E1, e2, fun F2 H2 ks E2 n2 m2 => ⟨n2, m2, F2, E2⟩⟩) fun v s2 zz => ?_
  obtain ⟨a2, o2, kb, H2, ev, I2, S2, ap, _, m2, F2, E2⟩ := zz
  subst eu
  subst ev
  have g1 : s2.heap.get? a1 = some o1 := (I2.pin (a1, o1) (Qy _ (Qd _ Qf))).1
  have hne : a1 ≠ a2 := ap (a1, o1) Qf
  have SA : SetT X.prog X.w (VT X.K H2) s2.heap a1 ka := by
   obtain ⟨o, es, ep, t, z1, z2, z3, z4, z5, z6, z7, z8⟩ := S1
   have : s1.heap.get? a1 = some o1 := (I1.pin (a1, o1) (Qy _ Qf)).1
   rw [z1] at this
   cases this
   exact ⟨_, es, ep, t, g1, z2, z3, z4, z5, Ents.carry I1 I2 E2.same z6 z8, z7, fun e he => by
    obtain ⟨b', xs, e1, e2⟩ := z8 e he
    exact ⟨b', xs, e1, Same.sqT E2.same e2⟩⟩
  refine zN2 hne (by lia) SA S2 ?_ fun h' r ks hr kp SD mk => ?_
  ·have : ka.length <= x.length := Yo SA.nodup fun k h => (m1 k).mp h
   lia
  ·obtain ⟨o, es, ep, t, z1, z2, z3, z4, z5, z6, z7, z8⟩ := SD
   have I3 : Inv X pins σ H2 s2 := I2.pins_of fun p hp => I2.pin p (Qy _ (Qd _ (Qd _ hp)))
   have I4 : Inv X pins σ H2 { s2 with heap := h' } := I3.kept (t' := s2.toks) kp
   have I5 : Inv X ((r, o) :: pins) σ H2 { s2 with heap := h' } := by
    refine I4.pins_of fun p hp => ?_
    rcases Qh.mp hp with rfl | hp
    ·refine ⟨z1, I2.hok.fresh hr, YK (QD I2.lt hr), I2.nofs hr, fun v hv => ?_⟩
     rw [z3] at hv
     exact nomatch hv
    ·exact I4.pin p (Qy _ hp)
   refine ⟨r, o, ks, H2, rfl, I5, ⟨es, ep, t, ⟨z1, z2, z3, z4.fits (by simp), z4.up, z5.1, z5.2⟩, z6, z7, z8⟩, k F2 H2 ks (E1.trans E2) z7 fun k => ?_⟩
   rw [mk k, m1 k, m2 k, QK]
   simp
 ·rw [if_neg c] at q; cases q
end
theorem zET {X : Cx} {st : Stmt} : DS X st (fun _ => none) := fun pins s σ H W I q => by
 obtain ⟨F₀, H₀, F, ρ, o, E, S, q, k⟩ := q
 cases q
end SL
namespace DC
open PySem PyProof.Rows
theorem zLS : typeLookup (.type "list") "keys" = pure none := by rw [typeLookup_type, builtinLookup_eq_fast]; kernel_rfl
section
variable {prog : Program} {w : World} {A : Around} {E : Value -> Shared -> Prop} {s : Shared}
theorem zLy {a : Addr} {o : Obj} {xs : Array Value} {k : Nat} {Q : Option Value -> Shared -> Prop} (hx : s.heap.get? a = some o) (hc : o.cls = .type "list") (hdat : o.data = .seq xs k) (hd : o.dict = none) (hA : A.handled = none)
  (h : ∀ h' tk, (∀ b ob, s.heap.get? b = some ob -> h'.get? b = some ob) -> Q none { s with heap := h', toks := tk }) : wpAny (model prog w) A (getAttr? (.ref a) "keys") Q E s := by
 obtain ⟨c, dct, dat, sl⟩ := o
 simp only at hc hdat hd
 subst hc hdat hd
 obtain ⟨hp, g, d, tk, os⟩ := s
 have hT : ∀ tk', (⟨hp, g, d, tk', os⟩ : Shared).TypeIs (.ref a) "list" := fun _ => ⟨_, hx, rfl⟩
 have f1 := sub_AttributeError
 have f3 := F.slot_list_getattribute.lookup
 have f4 := F.slot_list_getattribute.bind (.ref a)
 have f5 := am_list_getattr_none
 unfold getAttr? getAttrBy? getAttrBy
 repeat (any_goals (first | assumption | exact hT _ | ((with_reducible show wpAny _ _ (call (Value.builtin "list.__getattribute__") _ _) _ _ _); refine call_meets F.slot_list_getattribute (hT _) am_entry_list_getattribute (F.args_list_getattribute_2 _ _) (meets_getattribute_miss_list a xs k sl "keys" _ zLS (by decide +kernel)) ⟨hx, hA, fun h' tk' e hx' => ?_⟩) | wp_step))
 obtain ⟨t', u', he⟩ := hx'.there
 show wpAny _ _ (getattributeRaised _ _ _ _ _ _ _) _ _ _
 unfold getattributeRaised
 repeat (any_goals (first | assumption | wp_step))
 exact h _ _ hx'.keeps
end
theorem zG8 : entryFor table "dict.update.loop" = some Builtin.«dict.update.loop» := entryFor_of_tree (by kernel_rfl)
theorem zD5 : plainId "dict.update.loop" = true := by decide +kernel
section
variable {κ : Type} [DecidableEq κ]
noncomputable def zBh (key : Nat -> κ) (kad : Nat -> Addr) (val : Nat -> Value) : Nat -> List (κ × Addr × Value)
 | 0 => []
 | i + 1 => storedH (zBh key kad val i) (key i) (kad i) (val i)
variable {key : Nat -> κ} {kad : Nat -> Addr} {val : Nat -> Value}
theorem zEx : ∀ i, (zBh key kad val i).length <= i
 | 0 => Qj _
 | i + 1 => by
  have := zEx i
  unfold zBh storedH
  split
  ·rw [Qg]; lia
  ·rw [Qm, Q0]; lia
theorem zEy : ∀ i, ∀ x ∈ zBh key kad val i, ∃ j, j < i /\ x.1 = key j /\ x.2.1 = kad j
 | 0, x, h => nomatch h
 | i + 1, x, h => by
  unfold zBh storedH at h
  split at h
  ·obtain ⟨y, hy, rfl⟩ := Qr.mp h
   obtain ⟨j, hj, e1, e2⟩ := zEy i y hy
   refine ⟨j, by lia, ?_⟩
   unfold putAt
   split
   ·exact ⟨e1, e2⟩
   ·exact ⟨e1, e2⟩
  ·rcases QC.mp h with h | h
   ·obtain ⟨j, hj, e⟩ := zEy i x h
    exact ⟨j, by lia, e⟩
   ·rw [QB] at h
    subst h
    exact ⟨i, by lia, rfl, rfl⟩
end
section
variable {prog : Program} {w : World} {κ : Type} [DecidableEq κ] {knd : HeapKind prog w κ} {A : Around} {R : Result -> Shared -> Prop} {I : Addr} {fp wr : List Addr} {G : Array GenState -> Array GenState -> Prop} {n : Nat} {Pv : Nat -> Value -> Prop} {St : Nat -> Shared -> Prop}
theorem zKE (W : WalksS prog w A.in1 I fp wr G n Pv St) (S : Addr) (hSf : S ∉ fp) (hu : knd.room A.in1) (key : Nat -> κ) (kad : Nat -> Addr) (val : Nat -> Value) (s0 : Heap) (res : Value)
  (hmono : ∀ (h h' : Heap) k b, knd.is h k b -> (∀ b o, h.get? b = some o -> h'.get? b = some o) -> knd.is h' k b)
  (hold : ∀ b o, s0.get? b = some o -> b ≠ S /\ b ∉ wr) (hval : ∀ i v, i < n -> Pv i v -> ∃ b, v = .ref b /\ s0.IsTuple b #[.ref (kad i), val i]) (hkey : ∀ i, i < n -> knd.is s0 (key i) (kad i)) (hb : n <= 1000) :
  ∀ (k i : Nat) (s : Shared) (c : Int) (t : Tok), n - i = k -> i <= n -> St i s -> (∀ b o, s0.get? b = some o -> s.heap.get? b = some o) ->
   s.heap.DictOfH knd S (zBh key kad val i) ->
   (∀ s', Moved (S :: wr) G s s' -> (∀ b o, s0.get? b = some o -> s'.heap.get? b = some o) -> s'.heap.DictOfH knd S (zBh key kad val n) -> R (.ok (.ret res)) s') ->
   codeAny (model prog w) A (.builtin "dict.update.loop" ⟨[.ref S, .ref I, .int c t, res], []⟩) R s := by
 have hSw : S ∉ wr := fun h => hSf (W.sub _ h)
 have hsub : ∀ b ∈ wr, b ∈ S :: wr := fun b hb => Qd _ hb
 have hmv : ∀ (s s' : Shared) i, i <= n -> Moved wr G s s' -> (∀ b o, s0.get? b = some o -> s'.heap.get? b = some o) -> s.heap.DictOfH knd S (zBh key kad val i) -> s'.heap.DictOfH knd S (zBh key kad val i) := fun s s' i hi hm h0 hS => by
  obtain ⟨o, es, ep, ho, hex, hd, he, his, hnd⟩ := hS
  refine ⟨o, es, ep, hm.heap S _ hSw ho, hex, hd, he, fun x hx => ?_, hnd⟩
  obtain ⟨j, hj, e1, e2⟩ := zEy i x hx
  rw [e1, e2]
  exact hmono _ _ _ _ (hkey j (by lia)) h0
 intro k
 induction k with
 | zero =>
  intro i s c t hk hi hst h0 hS hR
  have hin : i = n := by lia
  subst hin
  refine Y4 zG8 ?_
  rw [Y7 zD5 _]
  show wpAny _ A.in1 (pyNext (.ref I) >>= _) _ _ s
  refine Qa (W.done s _ _ hst fun s' hm => ?_)
  show wpAny _ A.in1 (Builtin.Dict.addKeywords S [] >>= fun _ => ret res) _ _ s'
  have h0' : ∀ b o, s0.get? b = some o -> s'.heap.get? b = some o := fun b o e => hm.heap b o (hold b o e).2 (h0 b o e)
  exact Qa (Qb (Qb (hR s' (hm.mono hsub) h0' (hmv s s' i (Qj _) hm h0' hS))))
 | succ k ih =>
  intro i s c t hk hi hst h0 hS hR
  have hlt : i < n := by lia
  refine Y4 zG8 ?_
  rw [Y7 zD5 _]
  show wpAny _ A.in1 (pyNext (.ref I) >>= _) _ _ s
  refine Qa (W.item i s _ _ hlt hst fun v s' hP hst' hm => ?_)
  obtain ⟨b, rfl, ot, hot, hct, nt, hdt⟩ := hval i v hlt hP
  have h0' : ∀ b o, s0.get? b = some o -> s'.heap.get? b = some o := fun b o e => hm.heap b o (hold b o e).2 (h0 b o e)
  have hS' := hmv s s' i (by lia) hm h0' hS
  have hk1 : knd.is s'.heap (key i) (kad i) := hmono _ _ _ _ (hkey i hlt) h0'
  refine Qa (Ya (Qa (wpAny_tryCatch ?_)))
  unfold Builtin.Dict.pairItems
  refine Qa (YS (T := "tuple") ⟨ot, h0' _ _ hot, hct⟩ ?_)
  rw [if_pos (by decide)]
  refine Qa (wpAny_seqItems (h0' _ _ hot) hdt (Qb ?_))
  show wpAny _ A.in1 (holding [Value.ref (kad i), val i] (dictSet S (.ref (kad i)) (val i))) _ _ s'
  refine Ya (wpAny_dictSet_heap hu hk1 hS' (fun h' hd' hsb => ?_) (Qt (zEx i) (by rw [sizeLine]; lia)))
  have hmoved : Moved (S :: wr) G s { s' with heap := h', toks := s'.toks + knd.draws (key i) } :=
   (hm.mono hsub).then_heap (Yk _ _) fun b o hb e => by rw [hsb.2 b (fun h : b = S => hb (by rw [h]; exact Qf))]; exact e
  refine Qb ⟨plainId_quiet zD5 _, ih (i + 1) _ (c + 1) 0 (by lia) hlt (W.frame _ s' _ _ hst' (Yk _ _) fun b hb o e => ?_) (fun b o e => ?_) hd' fun s'' hm'' h0'' hS'' => ?_⟩
  ·rw [hsb.2 b (fun h : b = S => hSf (by rw [<- h]; exact hb))]; exact e
  ·show h'.get? b = some o
   rw [hsb.2 b (hold b o e).1]; exact h0' b o e
  ·exact hR s'' (Moved.trans W.gtrans hmoved hm'') h0'' hS''
end
end DC
namespace DC
open PySem PyProof.Rows
section
variable {prog : Program} {w : World} {κ : Type} [DecidableEq κ] {knd : HeapKind prog w κ} {A : Around} {E : Value -> Shared -> Prop} {s : Shared}
theorem zJT {l : Addr} {items : Array Value} {nl : Nat} {sl : Array (Option Value)} {Q : Value -> Shared -> Prop} (key : Nat -> κ) (kad : Nat -> Addr) (val : Nat -> Value)
  (hmono : ∀ (h h' : Heap) k b, knd.is h k b -> (∀ b o, h.get? b = some o -> h'.get? b = some o) -> knd.is h' k b)
  (hh : A.handled = none) (hu : ∀ B : Around, B.units <= A.units + 8 -> knd.room B) (hl : s.heap.get? l = some { cls := .type "list", dict := none, data := .seq items nl, slots := sl })
  (hi : ∀ i v, items[i]? = some v -> ∃ b, v = .ref b /\ s.heap.IsTuple b #[.ref (kad i), val i]) (hk : ∀ i, i < items.size -> knd.is s.heap (key i) (kad i)) (hb : items.size <= 1000)
  (h : ∀ (h' : Heap) (tk : Nat), h'.DictOfH knd s.heap.objs.size (zBh key kad val items.size) -> (∀ b o, s.heap.get? b = some o -> h'.get? b = some o) -> Q (.ref s.heap.objs.size) { s with heap := h', toks := tk }) :
  wpAny (model prog w) A (call (.type "dict") [.ref l]) Q E s := by
 refine callType_codes (Q₁ := fun obj s₁ => obj = .ref s.heap.objs.size /\ s₁ = { s with heap := s.heap.push { cls := .type "dict", data := .dict #[] } }) F.kt_called_dict (F.kt_typeCall_dict_1 _) F.entry_dict_init (kt_code_dict_new _ ⟨rfl, rfl⟩) ?_
 rintro obj s₁ ⟨rfl, rfl⟩
 have hnew : (s.heap.push { cls := .type "dict", data := .dict #[] }).DictOfH knd s.heap.objs.size [] := Heap.DictOfH.new s.heap
 have hl' : (s.heap.push { cls := .type "dict", data := .dict #[] }).get? l = some { cls := .type "list", dict := none, data := .seq items nl, slots := sl } := Qc _ hl
 refine ⟨hnew.typeIs, F.args_dict_init_2 _ _, ?_⟩
 unfold Builtin.«dict.__init__»
 refine Qa ?_
 unfold Builtin.Dict.selfAndRest
 refine Qa (wpAny_notOrdered_dict hnew.typeIs ?_)
 show wpAny _ _ (pure (s.heap.objs.size, [Value.ref l])) _ _ _
 refine Qb ?_
 show wpAny _ _ (Builtin.Dict.updateFrom "dict.__init__" s.heap.objs.size (.ref l) [] .none) _ _ _
 unfold Builtin.Dict.updateFrom
 refine Qa (YS (T := "list") ⟨_, hl', rfl⟩ ?_)
 rw [if_pos (by decide)]
 refine Qa (zLy hl' rfl rfl rfl (by first | exact hh | simp [hh]) fun h₂ tk₂ keep₂ => ?_)
 rw [if_pos (by decide)]
 have hl2 : h₂.IsList l items := ⟨_, keep₂ _ _ hl', rfl, nl, rfl⟩
 refine Qa (Jr (Qa (wpAny_pyIter_list (s := { s with heap := h₂, toks := tk₂ }) hl2 ?_)))
 refine Qb ⟨plainId_quiet zD5 _, ?_⟩
 have hS2 : h₂.get? s.heap.objs.size = some { cls := .type "dict", data := .dict #[] } := keep₂ _ _ (Qx _ rfl)
 have hSlt : s.heap.objs.size < h₂.objs.size := Qk hS2
 have hlS : l < s.heap.objs.size := Qk hl
 have hneI : l ≠ h₂.objs.size := Qq (Nat.lt_trans hlS hSlt)
 have hh2 : A.in1.in1.handled = none := by simp [hh]
 have hkeep : ∀ b o, s.heap.get? b = some o -> (h₂.push { cls := Value.type "list_iterator", data := Data.fields #[Value.ref l, Value.int 0 0] }).get? b = some o := fun b o e =>
  Qc _ (keep₂ b o (Qc _ e))
 refine zKE (knd := knd) ((Walks.list hh2 h₂.objs.size l hneI items).toS) s.heap.objs.size ?hSf (hu _ (by show A.units + 1 + 1 <= _; lia)) key kad val s.heap .none hmono ?hold (fun i v _ hv => hi i v hv) (fun i hi' => hk i hi') hb (items.size - 0) 0 _ 0 0 (by lia) (QY _)
  ⟨⟨_, Qx _ rfl, rfl, rfl⟩, hl2.push _⟩ hkeep ?hS0 ?hR
 case hSf =>
  simp only [Qh, QB, List.not_mem_nil, or_false, not_or]
  exact ⟨Qq hSlt, YK hlS⟩
 case hold =>
  intro b o e
  have hlt : b < s.heap.objs.size := Qk e
  refine ⟨Qq hlt, fun hm => ?_⟩
  have hb' : b = h₂.objs.size := QB.mp hm
  rw [hb'] at hlt
  exact absurd (Nat.lt_trans hlt hSlt) (YV _)
 case hS0 => exact ⟨_, #[], 0, Qc _ hS2, ⟨rfl, rfl, rfl⟩, rfl, rfl, fun _ hx => by simp [zBh] at hx, Y0⟩
 case hR =>
  intro s' hm h0 hS'
  obtain ⟨h', g', d', tk', os'⟩ := s'
  have eg : g' = s.gens := hm.gens
  have ed : d' = s.drawn := hm.drawn
  have eo : os' = s.os := hm.os
  subst eg; subst ed; subst eo
  exact ⟨rfl, h h' tk' hS' h0⟩
end
end DC
namespace DC
open PySem PySem.Spec PyProof.Rows L2 DL ST SL
noncomputable def decT : D -> Option (List Int)
 | .tuple ds => zAE ds
 | _ => none
theorem zHT : ∀ ks : List Int, zAE (ks.map PyData.int) = some ks
 | [] => rfl
 | k :: ks => by show (zAE (ks.map PyData.int)).bind _ = _; rw [zHT ks]; rfl
theorem zKw (ks : List Int) : decT (encT ks) = some ks := zHT ks
theorem zEM {K : PySem.W.Frag} {H : Hp} {k : DKey} {b : Addr} {ks : List Int} (h : zB6 K H k b) : decT (encK k) = some ks ↔ k = .inl ks := by
 cases k with
 | inl js =>
  show decT (encT js) = some ks ↔ _
  rw [zKw]
  constructor
  ·intro e; cases e; rfl
  ·intro e; cases e; rfl
 | inr kss =>
  obtain ⟨n, _⟩ := h
  cases kss with
  | nil => exact absurd rfl n
  | cons x xs =>
   constructor
   ·intro e; cases e
   ·intro e; cases e
theorem zDp {K : PySem.W.Frag} {F : Addr -> Prop} {H : Hp} {d : D} {v : V} {ks : List Int} (r : Rep K F H d v) (h : decT d = some ks) : ∃ b, v = .ref b /\ SqT K H b (ks.map V.int) := by
 cases r with
 | @tup a vs ds h1 r1 =>
  rw [zDO r1 (show zAE ds = some ks from h)] at h1
  exact ⟨a, rfl, h1⟩
 | _ => cases h
noncomputable def hasD (kvs : List (D × D)) (k : List Int) : Bool := kvs.any fun p => decT p.1 == some k
noncomputable def getD (kvs : List (D × D)) (k : List Int) : Option D := (kvs.find? fun p => decT p.1 == some k).map (·.2)
noncomputable def putD (kvs : List (D × D)) (k : List Int) (v : D) : List (D × D) := if hasD kvs k = true then kvs.map fun p => if (decT p.1 == some k) = true then (p.1, v) else p else kvs ++ [(encT k, v)]
abbrev Ent := DKey × Addr × V
noncomputable def hasE (es : List Ent) (k : List Int) : Bool := es.any fun e => decide (e.1 = .inl k)
noncomputable def putE (es : List Ent) (k : List Int) (b : Addr) (v : V) : List Ent := if hasE es k = true then es.map fun e => if e.1 = .inl k then (e.1, e.2.1, v) else e else es ++ [(.inl k, b, v)]
theorem zEa {K : PySem.W.Frag} {H : Hp} {k : DKey} {b : Addr} {ks : List Int} (h : zB6 K H k b) : (decT (encK k) == some ks) = decide (k = .inl ks) := by
 by_cases c : k = .inl ks
 ·rw [decide_eq_true c, (zEM h).mpr c, beq_self_eq_true]
 ·rw [decide_eq_false c]
  exact beq_eq_false_iff_ne.mpr fun e => c ((zEM h).mp e)
section
variable {K : PySem.W.Frag} {F : Addr -> Prop} {H : Hp}
theorem DReps.has : ∀ {kvs : List (D × D)} {es : List Ent} (k : List Int), DReps K F H kvs es -> hasD kvs k = hasE es k
 | _, _, _, .nil => rfl
 | _, _, k, .cons h r t => by
  have := DReps.has k t
  unfold hasD hasE at this ⊢
  rw [YX, YX, this, zEa h]
theorem DReps.append : ∀ {kvs kvs' : List (D × D)} {es es' : List Ent}, DReps K F H kvs es -> DReps K F H kvs' es' -> DReps K F H (kvs ++ kvs') (es ++ es')
 | _, _, _, _, .nil, s => s
 | _, _, _, _, .cons h r t, s => .cons h r (DReps.append t s)
theorem DReps.repl {k : List Int} {d : D} {v : V} (hv : Rep K F H d v) : ∀ {kvs : List (D × D)} {es : List Ent}, DReps K F H kvs es ->
  DReps K F H (kvs.map fun p => if (decT p.1 == some k) = true then (p.1, d) else p) (es.map fun e => if e.1 = .inl k then (e.1, e.2.1, v) else e)
 | _, _, .nil => .nil
 | _, _, @DReps.cons _ _ _ k' b d' v' _ _ h r t => by
  rw [Ql, Ql]
  by_cases c : k' = .inl k
  ·rw [if_pos (by rw [zEa h, decide_eq_true c]), if_pos c]
   exact .cons h hv (DReps.repl hv t)
  ·rw [if_neg (by rw [zEa h, decide_eq_false c]; decide), if_neg c]
   exact .cons h r (DReps.repl hv t)
theorem DReps.put {k : List Int} {b : Addr} {d : D} {v : V} {kvs : List (D × D)} {es : List Ent} (t : DReps K F H kvs es) (hk : SqT K H b (k.map V.int)) (hv : Rep K F H d v) : DReps K F H (putD kvs k d) (putE es k b v) := by
 unfold putD putE
 rw [DReps.has k t]
 by_cases c : hasE es k = true
 ·rw [if_pos c, if_pos c]; exact DReps.repl hv t
 ·rw [if_neg c, if_neg c]; exact DReps.append t (.cons (k := .inl k) hk hv .nil)
theorem DReps.get : ∀ {kvs : List (D × D)} {es : List Ent} (k : List Int) {d : D}, DReps K F H kvs es -> getD kvs k = some d -> ∃ b v, (es.find? fun e => decide (e.1 = .inl k)) = some (.inl k, b, v) /\ Rep K F H d v
 | _, _, _, _, .nil, h => by cases h
 | _, _, k, d, @DReps.cons _ _ _ k' b d' v' _ _ h r t, e => by
  unfold getD at e
  rw [YQ] at e
  rw [YQ, zEa h] at *
  by_cases c : k' = .inl k
  ·rw [decide_eq_true c] at e ⊢
   cases e
   subst c
   exact ⟨b, v', rfl, r⟩
  ·rw [decide_eq_false c] at e ⊢
   exact DReps.get k t e
noncomputable def zA1 (kvs : List (D × D)) : Bool := kvs.all fun p => (decT p.1).isSome
theorem DReps.flat : ∀ {kvs : List (D × D)} {es : List Ent}, DReps K F H kvs es -> zA1 kvs = true -> ∀ e ∈ es, ∃ ks, e.1 = .inl ks /\ SqT K H e.2.1 (ks.map V.int)
 | _, _, .nil, _, e, he => nomatch he
 | _, _, .cons h r t, f, e, he => by
  unfold zA1 at f
  rw [List.all_cons, Qw] at f
  rcases Qh.mp he with rfl | he
  ·obtain ⟨ks, q⟩ := Option.isSome_iff_exists.mp f.1
   have := (zEM h).mp q
   refine ⟨ks, this, ?_⟩
   dsimp only at this ⊢
   subst this
   exact h
  ·exact DReps.flat t f.2 e he
end
abbrev Raw := List Int × Addr × Value
abbrev ER : Ent -> Raw -> Prop := fun e x => e.1 = .inl x.1 /\ e.2.1 = x.2.1 /\ RelV e.2.2 x.2.2
theorem zBQ (k : List Int) : ∀ {es : List Ent} {xs : List Raw}, Paired ER es xs -> hasE es k = (atKey xs k).isSome
 | _, _, .nil => rfl
 | _, _, @Paired.cons _ _ _ e x es xs h t => by
  have ih := zBQ k t
  unfold hasE at ih ⊢
  rw [YX, ih]
  by_cases c : x.1 = k
  ·have a : atKey (x :: xs) k = some x.2 := by simp [atKey, YQ, c]
   rw [a, decide_eq_true (by rw [h.1, c])]; rfl
  ·have a : atKey (x :: xs) k = atKey xs k := by simp [atKey, YQ, c]
   rw [a, decide_eq_false (by rw [h.1]; intro z; cases z; exact c rfl)]; rfl
theorem zHa {k : List Int} {v : V} {u : Value} (hv : RelV v u) : ∀ {es : List Ent} {xs : List Raw}, Paired ER es xs -> Paired ER (es.map fun e => if e.1 = .inl k then (e.1, e.2.1, v) else e) (xs.map (putAt k u))
 | _, _, .nil => .nil
 | _, _, @Paired.cons _ _ _ e x es xs h t => by
  rw [Ql, Ql]
  refine .cons ?_ (zHa hv t)
  unfold putAt
  by_cases c : x.1 = k
  ·rw [if_pos c, if_pos (by rw [h.1, c])]; exact ⟨h.1, h.2.1, hv⟩
  ·rw [if_neg c, if_neg (by rw [h.1]; intro z; cases z; exact c rfl)]; exact h
theorem zHb {k : List Int} {b : Addr} {v : V} {u : Value} (hv : RelV v u) {es : List Ent} {xs : List Raw} (t : Paired ER es xs) : Paired ER (putE es k b v) (storedH xs k b u) := by
 unfold putE storedH
 rw [zBQ k t]
 by_cases c : (atKey xs k).isSome = true
 ·rw [if_pos c, if_pos c]; exact zHa hv t
 ·rw [if_neg c, if_neg c]; exact Paired.snoc t ⟨rfl, rfl, hv⟩
theorem zEZ : ∀ {es : List Ent} {xs : List Raw}, Paired ER es xs -> es.map (·.1) = (xs.map (·.1)).map Sum.inl
 | _, _, .nil => rfl
 | _, _, .cons h t => by rw [Ql, Ql, Ql, zEZ t, h.1]
theorem zEY {k : List Int} {b : Addr} {v : V} : ∀ {es : List Ent} {xs : List Raw}, Paired ER es xs -> (es.find? fun e => decide (e.1 = .inl k)) = some (.inl k, b, v) -> ∃ p, atKey xs k = some p /\ RelV v p.2
 | _, _, .nil, q => by cases q
 | _, _, @Paired.cons _ _ _ e x es xs h t, q => by
  rw [YQ] at q
  by_cases c : x.1 = k
  ·have a : atKey (x :: xs) k = some x.2 := by simp [atKey, YQ, c]
   rw [decide_eq_true (by rw [h.1, c])] at q
   cases q
   exact ⟨_, a, h.2.2⟩
  ·have a : atKey (x :: xs) k = atKey xs k := by simp [atKey, YQ, c]
   rw [decide_eq_false (by rw [h.1]; intro z; cases z; exact c rfl)] at q
   rw [a]
   exact zEY t q
theorem zFK {l : List (List Int)} (h : l.Nodup) : (l.map (Sum.inl : List Int -> DKey)).Nodup := by
 rw [List.Nodup, Q6]
 exact List.Pairwise.imp (fun n e => n (Sum.inl.inj e)) h
theorem zMn {l : List (List Int)} (h : (l.map (Sum.inl : List Int -> DKey)).Nodup) : l.Nodup := by
 rw [List.Nodup, Q6] at h
 exact List.Pairwise.imp (fun n e => n (by rw [e])) h
abbrev TKd (P : Program) (w : World) : HeapKind P w (List Int) := tupleKind (intKind P w)
theorem zDG {X : Cx} {pins : List (Addr × Obj)} {σ : L2.St} {H : Hp} {s : Shared} {a : Addr} {es : List Ent} {ep : Nat} (I : Inv X pins σ H s) (h : H a = some (DctO a es ep)) (hf : ∀ e ∈ es, ∃ ks, e.1 = .inl ks /\ SqT X.K H e.2.1 (ks.map V.int)) (hn : (es.map (·.1)).Nodup) :
  (a == sysModules) = false /\ ∃ xs : List Raw, s.heap.DictOfH (TKd X.prog X.w) a xs /\ Paired ER es xs := by
 obtain ⟨⟨lo, o, raw, h1, h2, h3, h4⟩, _⟩ := (show zAL X.prog X.w H s.heap a (DctO a es ep) from I.hok a _ h)
 have mk : ∀ {l : List Ent} {r : List DictEntry}, Paired (fun (e : DKey × Addr × V) (r : DictEntry) => r.hash = zHK e.1 /\ r.key = .ref e.2.1 /\ RelV e.2.2 r.val) l r -> (∀ e ∈ l, ∃ ks, e.1 = .inl ks /\ SqT X.K H e.2.1 (ks.map V.int)) ->
   ∃ xs : List Raw, r = xs.map (entryOfKey (TKd X.prog X.w)) /\ Paired ER l xs /\ ∀ x ∈ xs, (TKd X.prog X.w).is s.heap x.1 x.2.1 := by
  intro l r q
  induction q with
  | nil => exact fun _ => ⟨[], rfl, .nil, fun x hx => nomatch hx⟩
  | @cons e r l rs h t ih =>
   intro hf
   obtain ⟨xs, q1, q2, q3⟩ := ih fun e he => hf e (Qd _ he)
   obtain ⟨ks, e1, e2⟩ := hf e Qf
   refine ⟨(ks, e.2.1, r.val) :: xs, ?_, .cons ⟨e1, rfl, h.2.2⟩ q2, fun x hx => ?_⟩
   ·rw [Ql, <- q1]
    congr 1
    obtain ⟨rh, rk, rv⟩ := r
    obtain ⟨z1, z2, z3⟩ := h
    dsimp only at z1 z2 ⊢
    subst z1 z2
    rw [e1]
    rfl
   ·rcases Qh.mp hx with rfl | hx
    ·exact zBz I e2
    ·exact q3 x hx
 obtain ⟨xs, q1, q2, q3⟩ := mk h4 hf
 refine ⟨lo, xs, ⟨o, raw, ep, h1, h2, h3, q1, q3, ?_⟩, q2⟩
 rw [zEZ q2] at hn
 exact zMn hn
theorem zEF {P : Program} {w : World} {H : Hp} {h : Heap} {a : Addr} {es : List Ent} {xs : List Raw} (lo : (a == sysModules) = false) (d : h.DictOfH (TKd P w) a xs) (r : Paired ER es xs) : ∃ ep, zAL P w H h a (DctO a es ep) := by
 obtain ⟨o, raw, ep, h1, h2, h3, h4, h5, h6⟩ := d
 clear h5 h6
 refine ⟨ep, ⟨lo, o, raw, h1, h2, h3, ?_⟩, ⟨o, h1⟩, fun h1' h2' ⟨lo, o, raw, g1, g2⟩ k => ⟨lo, o, raw, k _ g1, g2⟩⟩
 rw [h4]
 clear h1 h2 h3 h4
 induction r with
 | nil => exact .nil
 | @cons e x es xs h t ih =>
  rw [Ql]
  refine .cons ⟨?_, ?_, h.2.2⟩ ih
  ·rw [h.1]; rfl
  ·rw [h.2.1]; rfl
end DC
namespace DC
open PySem PySem.Spec PyProof.Rows L2 DL ST SL
section
variable {X : Cx}
noncomputable def dIn2 (neg : Bool) (d e : D) : Option D := match e with
 | .dict kvs => (decT d).bind fun k => if zA1 kvs = true then some (.bool (if neg then !hasD kvs k else hasD kvs k)) else none
 | e => dIn neg d e
theorem zDF {neg : Bool} {d r : D} {kvs : List (D × D)} (h : dIn2 neg d (.dict kvs) = some r) : ∃ k, decT d = some k /\ zA1 kvs = true /\ r = .bool (if neg then !hasD kvs k else hasD kvs k) := by
 obtain ⟨k, e1, q⟩ := bnd (show ((decT d).bind fun k => if zA1 kvs = true then some (PyData.bool (if neg then !hasD kvs k else hasD kvs k)) else none) = some r from h)
 by_cases c : zA1 kvs = true
 ·rw [if_pos c] at q; cases q; exact ⟨k, e1, c, rfl⟩
 ·rw [if_neg c] at q; cases q
theorem zCH (hu : X.A.units + 65 < cLine) : OpR X (compareOp .In) (rD2 X.K (dIn2 false)) := fun pins s σ H x y v u Q I rx ry zz => by
 obtain ⟨F, d, e, q, z, R1, R2, hq, k⟩ := zz
 cases R2 with
 | @dct a es kvs ep f h n l t =>
  obtain ⟨ks, e1, fl, rfl⟩ := zDF hq
  obtain ⟨b, rfl, hb⟩ := zDp R1 e1
  cases rx
  cases ry
  obtain ⟨lo, xs, dd, er⟩ := zDG I h (DReps.flat t fl) n
  refine wpAny_in_heap (knd := TKd X.prog X.w) (k := ks) (show X.A.in1.units < cLine from by show X.A.units + 1 < cLine; lia) (zBz I hb) lo dd ?_
  rw [<- zBQ ks er, <- DReps.has ks t]
  exact ⟨.bl _, H, I.tok _, rfl, k F H _ (Ext.refl F H) (.bl _)⟩
 | exn f h n =>
  obtain ⟨ks, e1, fl, _⟩ := zDF hq
  cases fl
 | tup h r => exact zCd hu pins s σ H _ _ v u Q I rx ry ⟨F, d, _, q, z, R1, .tup h r, hq, k⟩
 | lst h r => exact zCd hu pins s σ H _ _ v u Q I rx ry ⟨F, d, _, q, z, R1, .lst h r, hq, k⟩
 | non => cases hq
 | bl _ => cases hq
 | int _ => cases hq
 | str _ => cases hq
theorem zMD (hu : X.A.units + 65 < cLine) : OpR X (compareOp .NotIn) (rD2 X.K (dIn2 true)) := fun pins s σ H x y v u Q I rx ry zz => by
 obtain ⟨F, d, e, q, z, R1, R2, hq, k⟩ := zz
 cases R2 with
 | @dct a es kvs ep f h n l t =>
  obtain ⟨ks, e1, fl, rfl⟩ := zDF hq
  obtain ⟨b, rfl, hb⟩ := zDp R1 e1
  cases rx
  cases ry
  obtain ⟨lo, xs, dd, er⟩ := zDG I h (DReps.flat t fl) n
  refine wpAny_notIn_heap (knd := TKd X.prog X.w) (k := ks) (show X.A.in1.units < cLine from by show X.A.units + 1 < cLine; lia) (zBz I hb) lo dd ?_
  rw [<- zBQ ks er, <- DReps.has ks t]
  exact ⟨.bl _, H, I.tok _, rfl, k F H _ (Ext.refl F H) (.bl _)⟩
 | exn f h n =>
  obtain ⟨ks, e1, fl, _⟩ := zDF hq
  cases fl
 | tup h r => exact zCf hu pins s σ H _ _ v u Q I rx ry ⟨F, d, _, q, z, R1, .tup h r, hq, k⟩
 | lst h r => exact zCf hu pins s σ H _ _ v u Q I rx ry ⟨F, d, _, q, z, R1, .lst h r, hq, k⟩
 | non => cases hq
 | bl _ => cases hq
 | int _ => cases hq
 | str _ => cases hq
end
end DC
namespace DC
open PySem PySem.Spec PyProof.Rows L2 DL ST SL
noncomputable def zD4 : D -> Option (List Int × D)
 | .tuple [k, v] => (decT k).bind fun ks => some (ks, v)
 | _ => none
noncomputable def zCJ : List D -> Option (List (List Int × D))
 | [] => some []
 | d :: r => (zD4 d).bind fun p => (zCJ r).bind fun ps => some (p :: ps)
noncomputable def zC4 (ps : List (List Int × D)) : List (D × D) := ps.foldl (fun kvs p => putD kvs p.1 p.2) []
noncomputable def zEE : List D -> Option D
 | [.list ds] => if ds.length <= 1000 then (zCJ ds).bind fun ps => some (.dict (zC4 ps)) else none
 | _ => none
structure Tr where
 k : List Int
 b : Addr
 v : V
 d : D
noncomputable def TrOk (K : PySem.W.Frag) (F : Addr -> Prop) (H : Hp) (x : V) (t : Tr) : Prop := ∃ b, x = .ref b /\ SqT K H b [.ref t.b, t.v] /\ SqT K H t.b (t.k.map V.int) /\ Rep K F H t.d t.v
theorem zMH {K : PySem.W.Frag} {F : Addr -> Prop} {H : Hp} {d : D} {x : V} {p : List Int × D} (r : Rep K F H d x) (h : zD4 d = some p) : ∃ t, p = (t.k, t.d) /\ TrOk K F H x t := by
 cases r with
 | @tup a vs ds h1 r1 =>
  unfold zD4 at h
  split at h
  ·rename_i k v e
   cases e
   obtain ⟨ks, e1, h⟩ := bnd h
   cases h
   cases r1 with
   | cons rk r2 =>
    cases r2 with
    | cons rv r3 =>
     cases r3
     obtain ⟨b, rfl, hb⟩ := zDp rk e1
     exact ⟨⟨ks, b, _, v⟩, rfl, a, rfl, h1, hb, rv⟩
  ·cases h
 | _ => cases h
theorem zIu {K : PySem.W.Frag} {F : Addr -> Prop} {H : Hp} : ∀ {ds : List D} {vs : List V} {ps : List (List Int × D)}, Reps K F H ds vs -> zCJ ds = some ps -> ∃ ts : List Tr, ps = ts.map (fun t => (t.k, t.d)) /\ Paired (TrOk K F H) vs ts
 | _, _, _, .nil, h => by cases h; exact ⟨[], rfl, .nil⟩
 | _, _, _, .cons r rs, h => by
  obtain ⟨p, e1, h⟩ := bnd h
  obtain ⟨ps, e2, h⟩ := bnd h
  cases h
  obtain ⟨t, rfl, q⟩ := zMH r e1
  obtain ⟨ts, rfl, q2⟩ := zIu rs e2
  exact ⟨t :: ts, rfl, .cons q q2⟩
theorem Paired.atR {α β : Type} {R : α -> β -> Prop} : ∀ {l : List α} {m : List β} {i : Nat} {b : β}, Paired R l m -> m[i]? = some b -> ∃ a, l[i]? = some a /\ R a b
 | _, _, _, _, .nil, e => by simp at e
 | _, _, 0, _, .cons h _, e => by simp at e; subst e; exact ⟨_, rfl, h⟩
 | _, _, i + 1, _, .cons _ t, e => by
  obtain ⟨b, h1, h2⟩ := Paired.atR t (by simpa using e)
  exact ⟨b, by simpa using h1, h2⟩
theorem pick {P : Nat -> Value -> Prop} (n : Nat) (h : ∀ i, i < n -> ∃ u, P i u) : ∃ f : Nat -> Value, ∀ i, i < n -> P i (f i) := by
 classical
 refine ⟨fun i => if c : i < n then Classical.choose (h i c) else .none, fun i hi => ?_⟩
 show P i (if c : i < n then Classical.choose (h i c) else .none)
 rw [dif_pos hi]
 exact Classical.choose_spec (h i hi)
noncomputable def Tr0 : Tr := ⟨[], 0, .non, .none⟩
theorem zHp {K : PySem.W.Frag} {F : Addr -> Prop} {H : Hp} (ts : List Tr) (val : Nat -> Value) (hk : ∀ t ∈ ts, SqT K H t.b (t.k.map V.int) /\ Rep K F H t.d t.v) (hv : ∀ (i : Nat) t, ts[i]? = some t -> RelV t.v (val i)) :
  ∀ i, i <= ts.length -> ∃ es, DReps K F H (zC4 ((ts.map fun t => (t.k, t.d)).take i)) es /\ Paired ER es (zBh (fun i => (ts.getD i Tr0).k) (fun i => (ts.getD i Tr0).b) val i)
 | 0, _ => ⟨[], .nil, .nil⟩
 | i + 1, hi => by
  obtain ⟨es, h1, h2⟩ := zHp ts val hk hv i (by lia)
  have hlt : i < ts.length := hi
  have hg : ts[i]? = some ts[i] := by simp [hlt]
  have hD : ts.getD i Tr0 = ts[i] := by simp [List.getD, hlt]
  have hm := hk ts[i] (Yz hlt)
  refine ⟨putE es ts[i].k ts[i].b ts[i].v, ?_, ?_⟩
  ·have e : (ts.map fun t => (t.k, t.d)).take (i + 1) = (ts.map fun t => (t.k, t.d)).take i ++ [(ts[i].k, ts[i].d)] := by
    rw [List.take_succ, QQ, hg]; rfl
   rw [e]
   unfold zC4
   rw [List.foldl_append]
   exact DReps.put h1 hm.1 hm.2
  ·show Paired ER _ (storedH _ (ts.getD i Tr0).k (ts.getD i Tr0).b (val i))
   rw [hD]
   exact zHb (hv i _ hg) h2
section
variable {X : Cx}
theorem boot_dict : bootBuiltins "dict" = some (.type "dict") := by decide +kernel
theorem zN8 {P : Program} {w : World} (h h' : Heap) (k : List Int) (b : Addr) (x : (TKd P w).is h k b) (e : ∀ b o, h.get? b = some o -> h'.get? b = some o) : (TKd P w).is h' k b := TK.at x fun o ho => e b o ho
theorem zGI {pins : List (Addr × Obj)} {σ : L2.St} {H : Hp} {s : Shared} (I : Inv X pins σ H s) : sysModules < s.heap.objs.size := by
 have h : mainGlobals < s.heap.objs.size := (I.mod.glob.keeps I.bk).lt
 exact Nat.lt_trans (by decide) h
noncomputable def rDict (K : PySem.W.Frag) : List V -> Hp -> VK -> Prop := fun xs H Q => ∃ (F : Addr -> Prop) (ds : List D) (ps : List (List Int × D)), (∀ a, F a -> H a ≠ none) /\ Reps K F H [.list ds] xs /\ ds.length <= 1000 /\ zCJ ds = some ps /\
 ∀ p es ep, H p = none -> DReps K F H (zC4 ps) es -> (es.map (·.1)).Nodup -> es.length <= 1000 -> Q (.ref p) (upd H p (DctO p es ep))
theorem zKi (hc : X.calm = true) (hu : X.A.units + 66 < cLine) : zAR X (.type "dict") (rDict X.K) := fun pins s σ H xs us Q I rv zz => by
 obtain ⟨F, ds, ps, z, R, hl, e1, k⟩ := zz
 cases R with
 | cons R1 R2 =>
  cases R2
  cases R1 with
  | @lst a vs _ h1 r1 =>
   obtain ⟨u, rfl, ru⟩ := zBN rv
   cases ru
   obtain ⟨its, rvs, ⟨o, nl, g1, g2, g3, g4⟩, _⟩ := I.list h1.sq
   obtain ⟨ts, rfl, pr⟩ := zIu r1 e1
   have hlen : its.length = ts.length := by rw [<- rvs.length]; exact Paired.length pr
   have hts : ts.length <= 1000 := by rw [<- Paired.length pr, <- r1.length]; exact hl
   obtain ⟨val, hval⟩ := pick (P := fun i u => ∀ t, ts[i]? = some t -> RelV t.v u /\ ∀ v, its[i]? = some v -> ∃ b, v = .ref b /\ s.heap.IsTuple b #[.ref t.b, u]) ts.length fun i hi => by
    have hg : ts[i]? = some ts[i] := by simp [hi]
    obtain ⟨x, hx, b, rfl, t1, t2, t3⟩ := Paired.atR pr hg
    obtain ⟨jts, rj, itp, _⟩ := I.tuple t1
    cases rj with
    | @cons _ u1 _ us1 ra rb =>
     cases rb with
     | @cons _ u2 _ us2 rc rd =>
      cases rd
      cases ra
      refine ⟨u2, fun t ht => ?_⟩
      rw [hg] at ht; cases ht
      refine ⟨rc, fun v hv => ?_⟩
      obtain ⟨w', ew, rw'⟩ := rvs.get hx
      rw [hv] at ew; cases ew
      cases rw'
      exact ⟨b, rfl, itp⟩
   obtain ⟨oc, od, odt, osl⟩ := o
   have hob : s.heap.get? a = some { cls := .type "list", dict := none, data := .seq its.toArray nl, slots := osl } := by
    rw [g1]; simp only at g2 g3 g4; rw [g2, g3, g4]
   refine zJT (knd := TKd X.prog X.w) (fun i => (ts.getD i Tr0).k) (fun i => (ts.getD i Tr0).b) val zN8 (I.ok.hd hc) (fun B hB => show B.units < cLine by lia) hob (fun i v hv => ?_) (fun i hi => ?_) (by rw [QE, hlen]; exact hts) fun h' tk dd keep => ?_
   ·have hv' : its[i]? = some v := by simpa using hv
    have hi : i < ts.length := by rw [<- hlen]; exact (Qe.mp hv').1
    have hg : ts[i]? = some ts[i] := by simp [hi]
    have hD : ts.getD i Tr0 = ts[i] := by simp [List.getD, hi]
    obtain ⟨b, e, it⟩ := (hval i hi _ hg).2 v hv'
    exact ⟨b, e, by rw [hD]; exact it⟩
   ·have hi' : i < ts.length := by rw [<- hlen]; simpa using hi
    have hg : ts[i]? = some ts[i] := by simp [hi']
    have hD : ts.getD i Tr0 = ts[i] := by simp [List.getD, hi']
    obtain ⟨x, hx, b, _, t1, t2, t3⟩ := Paired.atR pr hg
    show TK X.prog X.w s.heap (ts.getD i Tr0).k (ts.getD i Tr0).b
    rw [hD]
    exact zBz I t2
   ·obtain ⟨es, f1, f2⟩ := zHp (K := X.K) (F := F) (H := H) ts val (fun t ht => by
     obtain ⟨i, hi⟩ := List.mem_iff_getElem?.mp ht
     obtain ⟨x, hx, b, _, t1, t2, t3⟩ := Paired.atR pr hi
     exact ⟨t2, t3⟩) (fun i t ht => (hval i (Qe.mp ht).1 t ht).1) ts.length (Qj _)
    rw [Jm (by simp)] at f1
    have hsz : its.toArray.size = ts.length := by rw [QE, hlen]
    rw [hsz] at dd
    have lo : (s.heap.objs.size == sysModules) = false := beq_eq_false_iff_ne.mpr (Ne.symm (Qq (zGI I)))
    have hp : H s.heap.objs.size = none := I.hok.fresh (Qj _)
    obtain ⟨ep, oo⟩ := zEF (H := H) lo dd f2
    refine ⟨.ref s.heap.objs.size, upd H s.heap.objs.size (DctO s.heap.objs.size es ep), I.laid keep (Qj _) oo, rfl, k _ es ep hp f1 ?_ ?_⟩
    ·obtain ⟨_, _, _, _, _, _, _, _, hn⟩ := dd
     rw [zEZ f2]; exact zFK hn
    ·rw [Paired.length f2]; exact Qt (zEx _) hts
theorem zJ4 (hc : X.calm = true) (hu : X.A.units + 66 < cLine) : zAR X (.type "dict") (rDA X.K zEE) := zC2 (zKi hc hu) fun xs H Q zz => by
 obtain ⟨F, ds, q, z, R, hq, k⟩ := zz
 unfold zEE at hq
 split at hq
 ·rename_i ds'
  by_cases hl : ds'.length <= 1000
  ·rw [if_pos hl] at hq
   obtain ⟨ps, e1, hq⟩ := bnd hq
   cases hq
   exact ⟨F, ds', ps, z, R, hl, e1, fun p es ep hp r n l => k _ _ _ (Ext.frozen hp) (.dct (.inr rfl) zAC n l (r.stay (Ext.frozen hp).stay))⟩
  ·rw [if_neg hl] at hq; cases hq
 ·cases hq
end
end DC
namespace DC
open PySem PySem.Spec PyProof.Rows L2 DL ST SL EL
noncomputable def iSeq (ga : Rho -> Option D) : Rho -> Option (List D) := fun ρ => (ga ρ).bind seqD
noncomputable def zBb (gr : Rho -> Option (List D)) : Rho -> Option (List D) := fun ρ => (gr ρ).bind rng1
noncomputable def iZip (gr : Rho -> Option (List D)) : Rho -> Option (List D) := fun ρ => (gr ρ).bind zipD
noncomputable def zDb (gr : Rho -> Option (List D)) : Rho -> Option (List D) := fun ρ => (gr ρ).bind zEW
section
variable {X : Cx} {tg e a b : Expr} {es : List Expr} {ga : Rho -> Option D} {gr : Rho -> Option (List D)} {p pos : Pos}
theorem zAH (ha : DE X e ga) : DI X tg e (iSeq ga) := zKB ha
theorem zCA (hg : Gl X "range") (hm : X.mg "range" = none) (ha : DA X [a] gr) (hs : starEach [a] X.env = [(false, eval a X.env)] := by rfl) : DI X tg (.Call (.Name "range" p) [a] [] pos) (zBb gr) := zKA hg hm ha hs
theorem zKz {elts : List Expr} {x1} {tpos : Pos} (hg : Gl X "zip") (hm : X.mg "zip" = none) (ha : DA X [a, b] gr) (hs : starEach [a, b] X.env = [(false, eval a X.env), (false, eval b X.env)] := by rfl) (hs2 : starEach [b] X.env = [(false, eval b X.env)] := by rfl) :
  DI X (.Tuple elts x1 tpos) (.Call (.Name "zip" p) [a, b] [] pos) (iZip gr) := zKC hg hm ha hs hs2
theorem zKy {elts : List Expr} {x1} {tpos : Pos} (hg : Gl X "enumerate") (hm : X.mg "enumerate" = none) (ha : DA X [a] gr) (hs : starEach [a] X.env = [(false, eval a X.env)] := by rfl) :
  DI X (.Tuple elts x1 tpos) (.Call (.Name "enumerate" p) [a] [] pos) (zDb gr) := zKx hg hm ha hs
end
end DC
namespace DL
open PySem PySem.Spec PyProof.Rows L2
noncomputable def isOD : Sl -> Bool
 | .ownD _ | .ownM _ => true
 | _ => false
noncomputable def oneD (i : Nat) (ρ : Rho) : Bool := (ρ.set i .no).all fun s => !isOD s
theorem zIo {i j : Nat} {ρ : Rho} {s : Sl} (h : oneD i ρ = true) (hj : ρ[j]? = some s) (hs : isOD s = true := by rfl) : i = j := by
 by_cases c : i = j
 ·exact c
 ·have : (ρ.set i .no)[j]? = some s := by rw [Qu c]; exact hj
  have := QF.mp h _ (QO this)
  rw [hs] at this
  cases this
end DL
namespace DC
open PySem PySem.Spec PyProof.Rows L2 DL ST SL EL
section
variable {X : Cx} {e k v : Expr} {es : List Expr} {gr : Rho -> Option (List D)} {gk gv : Rho -> Option D} {p pos : Pos}
end
end DC
namespace DC
open PySem PySem.Spec PyProof.Rows L2 DL ST SL EL
section
variable {P : Program} {w : World} {A : Around} {E : Value -> Shared -> Prop} {s : Shared} {d it : Addr} {raw : Array DictEntry} {ep i : Nat}
end
end DC
namespace DC
open PySem PySem.Spec PyProof.Rows L2 DL ST SL EL
noncomputable def dInt : List D -> Option D
 | [.bool b] => some (.int (if b = true then 1 else 0))
 | _ => none
theorem zJP : bootBuiltins "int" = some (.type "int") := by decide +kernel
theorem zJ5 {X : Cx} : zAR X (.type "int") (rDA X.K dInt) := fun pins s σ H xs us Q I rv zz => by
 obtain ⟨F, ds, q, z, R, hq, k⟩ := zz
 unfold dInt at hq
 split at hq
 ·cases hq
  cases R with
  | cons R1 R2 =>
   cases R2
   cases R1
   cases rv with
   | cons r1 r2 =>
    cases r2
    cases r1
    exact call_int_bool ⟨.int _, H, I.tok _, ⟨_, rfl⟩, k F H _ (Ext.refl F H) (.int _)⟩
 ·cases hq
end DC
namespace DL
open PySem PySem.Spec PyProof.Rows L2
section
variable {X : Cx} {a b : Expr} {ga : Rho -> Option (List D)} {pos : Pos}
end
end DL
namespace CL
open PySem PySem.Spec PyProof.Rows L2
noncomputable def zA2 (X : Cx) (N' : List Str) (scope : Scope) (x0 : Str) (cl : List (Str × Addr)) (C : Addr) (fp : List Addr) (s : Shared) (H : Hp) : Cx :=
 { X with N := N', s₀ := s, H₀ := H, env := compEnvC scope ((x0, C + 1) :: cl) C X.env, outer := X.stack, ex := fp, fn := fun x => scope.names.lookup x == some .local || scope.names.lookup x == some .cell, pn := [], xe := fun _ _ => False }
structure zCP (X : Cx) (N' : List Str) (scope : Scope) (inner : List (Option Nat)) (x0 : Str) : Prop where
 kind : scope.kind = .function
 c0 : scope.names.lookup x0 = some .cell
 only : ∀ x ∈ scope.names, x.2 = .cell -> x.1 = x0
 cf : ∀ n acc, cellsFrom n scope.names acc = (x0, n) :: acc
 pc : ∀ h, pushCells h scope.names = h.push { cls := .type "cell", data := .cell none }
 loc : ∀ x ∈ scope.names, x.2 = .local -> scope.names.lookup x.1 = some .local
 free : ∀ x ∈ scope.names, x.2 = .free -> scope.names.lookup x.1 = some .free /\ (X.env.scope.names.lookup x.1 = some .cell ∨ X.env.scope.names.lookup x.1 = some .free)
 len : inner.length = N'.length
 out : ∀ (i j : Nat), inner[i]? = some (some j) -> ∃ x, N'[i]? = some x /\ X.N[j]? = some x /\ scope.names.lookup x = some .free
theorem zF0 {env : Env} {x0 : Str} : ∀ {names : List (Str × NameKind)} {x : Str} {q : NameKind}, (∀ y ∈ names, y.2 = .cell -> y.1 = x0) -> (q = .cell ∨ q = .free) ->
  (names.map fun (n, k) => if (k == NameKind.free && env.scope.kind == .function && env.kindOf n == some .cell) then (n, NameKind.cell) else (n, k)).lookup x = some q -> (x, NameKind.free) ∈ names ∨ x = x0
 | [], _, _, _, _, h => by simp at h
 | (n, k) :: r, x, q, hn, hq, h => by
  have ih := @zF0 env x0 r x q (fun y hy => hn y (Qd _ hy)) hq
  rw [Ql] at h
  have h' : List.lookup x ((if (k == NameKind.free && env.scope.kind == .function && env.kindOf n == some .cell) = true then (n, NameKind.cell) else (n, k)) :: _) = some q := h
  cases hx : x == n with
  | true =>
   have e : x = n := QZ hx
   by_cases hc : (k == NameKind.free && env.scope.kind == .function && env.kindOf n == some .cell) = true
   ·have : k = .free := by
     have := hc
     simp only [Qw, beq_iff_eq] at this
     exact this.1.1
    rw [e, this]; exact .inl Qf
   ·rw [if_neg hc] at h'
    simp only [QN, hx] at h'
    have kq : k = q := QJ h'
    rcases hq with z | z
    ·exact .inr (e.trans (hn (n, k) Qf (kq.trans z)))
    ·rw [e, <- z, <- kq]; exact .inl Qf
  | false =>
   by_cases hc : (k == NameKind.free && env.scope.kind == .function && env.kindOf n == some .cell) = true
   ·rw [if_pos hc] at h'; simp only [QN, hx] at h'; exact (ih h').imp (Qd _) id
   ·rw [if_neg hc] at h'; simp only [QN, hx] at h'; exact (ih h').imp (Qd _) id
theorem nfe1 {M : Model} {A : Around} {E : Value -> Shared -> Prop} {s : Shared} {scope : Scope} {globals : Addr} {cl : List (Str × Addr)} {qual x0 : Str} {env : Env} {Q : Env -> Shared -> Prop} (hcf : ∀ n acc, cellsFrom n scope.names acc = (x0, n) :: acc) (hpc : ∀ h, pushCells h scope.names = h.push { cls := .type "cell", data := .cell none })
  (h : ∀ cenv : Env, cenv.locals = s.heap.objs.size -> { cenv with scope := relabel scope env } = { compEnvC scope ((x0, s.heap.objs.size + 1) :: cl) s.heap.objs.size env with globals := globals, qual := qual } -> Q cenv { s with heap := (s.heap.push { cls := .type "dict", data := .dict #[] }).push { cls := .type "cell", data := .cell none } }) :
  wpAny M A (newFunctionEnv scope globals cl [] qual none .none (some env)) Q E s := by
 simp only [newFunctionEnv, Option.isSome_some, if_true]
 refine Qa (wpAny_alloc ?_)
 refine Qa (wpAny_layCells _ (fun name kind cells => by cases hkc : kind == NameKind.cell <;> simp [hkc]) _ _ _ _ ?_)
 rw [hcf, hpc]
 rw [show ({ s with heap := s.heap.push { cls := .type "dict", data := .dict #[] } } : Shared).heap.objs.size = s.heap.objs.size + 1 from Ym ..]
 refine Qa ?_
 rw [List.forIn_nil]
 exact Qb (Qb (h _ rfl rfl))
section
variable {X : Cx} {N' : List Str} {scope : Scope} {inner : List (Option Nat)} {x0 : Str} {cl : List (Str × Addr)} {C : Addr} {fp : List Addr} {s s4 : Shared} {H : Hp} {σ : L2.St} {pins : List (Addr × Obj)}
theorem lk1 {x0 x : Str} {n c : Addr} {cl : List (Str × Addr)} (h : ((x0, n) :: cl).lookup x = some c) : (x = x0 /\ c = n) ∨ cl.lookup x = some c := by
 rw [QN] at h
 cases e : x == x0 with
 | true => rw [e] at h; cases h; exact .inl ⟨QZ e, rfl⟩
 | false => rw [e] at h; exact .inr h
theorem lk2 {x0 x : Str} {n c : Addr} {cl : List (Str × Addr)} (h : cl.lookup x = some c) (hx : x ≠ x0) : ((x0, n) :: cl).lookup x = some c := by
 rw [QN, show (x == x0) = false from beq_eq_false_iff_ne.mpr hx]
 exact h
theorem zLf (CS : zCP X N' scope inner x0) (I : Inv X pins σ H s) (hf : ∀ b ∈ fp, FpOk X pins H b) (c1 : ∀ x c, cl.lookup x = some c -> X.env.cells.lookup x = some c) (c2 : ∀ x, (x, NameKind.free) ∈ scope.names -> ∃ c, cl.lookup x = some c) (c3 : ∀ x c, cl.lookup x = some c -> (x, NameKind.free) ∈ scope.names)
  (hfl : ∀ b ∈ fp, b < s.heap.objs.size) (hC : C = s.heap.objs.size) {h' : Heap} {tk : Nat} (hk : ∀ b o, s.heap.get? b = some o -> h'.get? b = some o) (hns : h'.Ns C fun _ => none) (hcell : h'.IsCell (C + 1) none) (hs4 : s4 = { s with heap := h', toks := tk }) :
  Inv (zA2 X N' scope x0 cl C fp s H) [] (inSt inner σ) H s4 := by
 subst hs4
 have old : ∀ b o, s.heap.get? b = some o -> b ≠ C /\ b ≠ C + 1 := fun b o e => by
  have := Qk e
  rw [hC]; exact ⟨Qq this, Qq (YC this)⟩
 have cC : ∀ x c, cl.lookup x = some c -> c ≠ C /\ c ≠ C + 1 := fun x c e => by
  obtain ⟨v, o, q, _⟩ := I.cell x c (c1 x c e)
  exact old c o q
 have nf : ∀ x c, cl.lookup x = some c -> x ≠ x0 := fun x c e z => by
  have := (CS.free _ (c3 x c e) rfl).1
  have q := CS.c0
  rw [<- z] at q
  have this' : scope.names.lookup x = some .free := this
  rw [q] at this'; cases this'
 refine ⟨⟨I.ok.mod, CS.kind, I.ok.glob, I.ok.blt, ?_, fun x y c h1 h2 => ?_, fun x hx => ?_, fun x c hx h => ?_, I.ok.hd, I.ok.frames, .inl rfl, fun b hb => ⟨?_, fun x c e z => ?_⟩, I.bs, Qt I.ok.bsz I.sz, fun b o e hb => ?_, fun b hb => ?_, I.stack, I.stkFree⟩,
  rfl, I.bare, Un.kept hk, ⟨_, hns, fun i x v e1 e2 e3 => ?_⟩, fun x c e => ?_, ?_, fun x c e => ?_, fun p hp => absurd (show p ∈ ([] : List (Addr × Obj)) from hp) (by simp), I.hok.kept hk, ?_⟩
 ·show s.heap.objs.size <= C
  rw [hC]; exact Qj _
 ·rcases lk1 h1 with ⟨a1, a2⟩ | a
  ·rcases lk1 h2 with ⟨b1, b2⟩ | b
   ·rw [a1, b1]
   ·exact absurd a2 (cC y c b).2
  ·rcases lk1 h2 with ⟨b1, b2⟩ | b
   ·exact absurd b2 (cC x c a).2
   ·exact I.ok.inj x y c (c1 x c a) (c1 y c b)
 ·have hx' : (relabel scope X.env).names.lookup x = some .cell ∨ (relabel scope X.env).names.lookup x = some .free := hx
  have back : (x, NameKind.free) ∈ scope.names ∨ x = x0 := by
   rcases hx' with hx' | hx'
   ·exact zF0 CS.only (.inl rfl) hx'
   ·exact zF0 CS.only (.inr rfl) hx'
  rcases back with z | z
  ·obtain ⟨c, hc⟩ := c2 x z
   exact ⟨c, lk2 hc (nf x c hc)⟩
  ·exact ⟨C + 1, by show ((x0, C + 1) :: cl).lookup x = _; rw [z, QN, beq_self_eq_true]⟩
 ·rcases lk1 h with ⟨a1, a2⟩ | a
  ·show s.heap.objs.size <= c
   rw [a2, hC]; exact Nat.le_succ _
  ·have hx' : (scope.names.lookup x == some NameKind.local || scope.names.lookup x == some NameKind.cell) = true := hx
   have e2 : scope.names.lookup x = some .free := (CS.free _ (c3 x c a) rfl).1
   rw [e2] at hx'
   exact absurd hx' (by decide)
 ·show b ≠ C
  rw [hC]; exact Qq (hfl b hb)
 ·rcases lk1 e with ⟨a1, a2⟩ | a
  ·have := hfl b hb
   rw [<- z, a2, hC] at this
   exact absurd this (Nat.not_lt.mpr (Nat.le_succ _))
  ·exact (hf b hb).2.2.2.2.1 x c (c1 x c a) z
 ·rcases (hf b hb).2.2.2.1 with z | z
  ·exact I.ok.noex b o e z
  ·exact absurd (QD (Qk e) (Qt I.ok.bsz z)) (YV _)
 ·intro z
  rcases Qh.mp (I.stkSub b z) with q | q
  ·exact (hf b hb).2.1 q
  ·exact (hf b hb).2.2.1 q
 ·unfold inSt at e2
  rw [QQ] at e2
  cases ei : inner[i]? with
  | none => rw [ei] at e2; cases e2
  | some o =>
   rw [ei] at e2
   cases o with
   | none => cases e2
   | some j =>
    have e2' : (σ[j]?).bind id = some v := by simpa using e2
    have e4 : σ[j]? = some (some v) := by
     cases ej : σ[j]? with
     | none => rw [ej] at e2'; cases e2'
     | some w' => rw [ej] at e2'; exact congrArg some e2'
    obtain ⟨x', g1, g2, g3⟩ := CS.out i j ei
    have e1' : N'[i]? = some x := e1
    rw [e1'] at g1; cases g1
    have mem : (x, NameKind.free) ∈ scope.names := PySem.mem_of_lookup g3
    have outer := (CS.free _ mem rfl).2
    obtain ⟨m, hm, hl⟩ := I.loc
    have vis : Vis X.env.scope x := outer.elim (fun z => .inr (.inl z)) fun z => .inr (.inr z)
    obtain ⟨u, ru, lk⟩ := hl j x v g2 e4 vis
    refine ⟨u, ru, ?_⟩
    obtain ⟨c, hc⟩ := c2 x mem
    rcases lk with ⟨k1, _⟩ | ⟨_, c', k2, k3⟩
    ·have k1' : X.env.scope.names.lookup x = some .local := k1
     rcases outer with z | z <;> (rw [k1'] at z; cases z)
    ·have e5 := c1 x c hc
     rw [k2] at e5; cases e5
     refine .inr ⟨?_, c, lk2 hc (nf x c hc), (let ⟨o, q1, q2⟩ := k3; ⟨o, hk _ o q1, q2⟩)⟩
     have := zF1 (env := X.env) g3
     exact this.elim .inr .inl
 ·rcases lk1 e with ⟨a1, a2⟩ | a
  ·exact ⟨none, by rw [a2]; exact hcell⟩
  ·obtain ⟨v, q⟩ := I.cell x c (c1 x c a)
   exact ⟨v, (let ⟨o, q1, q2⟩ := q; ⟨o, hk _ o q1, q2⟩)⟩
 ·show H C = none
  exact I.hok.fresh (by rw [hC]; exact Qj _)
 ·rcases lk1 e with ⟨a1, a2⟩ | a
  ·rw [a2]; exact I.hok.fresh (by rw [hC]; exact Nat.le_succ _)
  ·exact I.freeC x c (c1 x c a)
 ·show (inSt inner σ).length = N'.length
  unfold inSt
  rw [Qg]; exact CS.len
theorem zLd (I : Inv X pins σ H s) (hf : ∀ b ∈ fp, FpOk X pins H b) (hC : C = s.heap.objs.size) {σ' : L2.St} {H' : Hp} {s5 : Shared} (J : Inv (zA2 X N' scope x0 cl C fp s H) [] σ' H' s5) {h' : Heap} (sb : Heap.SameBut C s5.heap h') :
  Inv X pins σ H' { s5 with heap := h' } := by
 have old : ∀ b o, s.heap.get? b = some o -> b ≠ C := fun b o e => by rw [hC]; exact Qq (Qk e)
 have U : Un (frs X.stack) fp H H' s.heap s5.heap := J.base
 have nC : H' C = none := J.free
 refine I.call' (ch := fp) J.os ⟨fun b o e n hb hx => ?_, fun b o e n hb hx => ?_, U.free, fun b o e hx => ?_, U.tups, U.frzs, U.tbls⟩ (fun b u e => ?_) J.bare fun b hb => ?_
 ·rw [sb.2 b (old b o e)]; exact U.keep b o e n hb hx
 ·obtain ⟨sl, q⟩ := U.slot b o e n hb hx
  exact ⟨sl, by rw [sb.2 b (old b o e)]; exact q⟩
 ·obtain ⟨o', q⟩ := U.there b o e hx
  exact ⟨o', by rw [sb.2 b (old b o e)]; exact q⟩
 ·have nt : ∀ c v, H' c = some v -> c ≠ C := fun c v q z => by rw [z, nC] at q; cases q
  refine (J.hok b u e).stay (fun c v hc q => ?_) (fun _ q => q) fun _ _ q => q
  rw [sb.2 c ?_]
  ·exact q
  ·rcases hc with z | z
   ·rw [z]; exact nt b u e
   ·exact nt c _ z
 ·exact ⟨(hf b hb).2.2.2.1, (hf b hb).2.1, (hf b hb).2.2.2.2.1, (hf b hb).2.2.2.2.2⟩
end
section
variable {X : Cx} {elt tg iter : Expr} {ifs : List Expr} {scope : Scope} {pos : Pos} {N' : List Str} {inner : List (Option Nat)} {x0 : Str} {wi : TI} {g : TG} {ti : TT} {te : TE}
theorem zKc (hc : X.calm = true) (CS : zCP X N' scope inner x0) (hg : ∀ cl C fp s H, PG (zA2 X N' scope x0 cl C fp s H) tg g) (ht : ∀ cl C fp s H, PTs (zA2 X N' scope x0 cl C fp s H) ifs ti) (he : ∀ cl C fp s H, PE (zA2 X N' scope x0 cl C fp s H) elt te)
  {pins : List (Addr × Obj)} {σ : L2.St} {s2 : Shared} {H2 : Hp} {it : Addr} {fp : List Addr} {tn : Nat -> Heap -> Prop} {J : It} {cl : List (Str × Addr)} {Q : VK} {RR : Value -> Addr -> Result -> Shared -> Prop}
  (c1 : ∀ x c, cl.lookup x = some c -> X.env.cells.lookup x = some c) (c2 : ∀ x, (x, NameKind.free) ∈ scope.names -> ∃ c, cl.lookup x = some c) (c3 : ∀ x c, cl.lookup x = some c -> (x, NameKind.free) ∈ scope.names)
  (I2 : Inv X pins σ H2 s2) (T : Turn X.prog X.w X.K tg J fp it tn) (t0 : tn 0 s2.heap) (f2 : ∀ b ∈ fp, FpOk X pins H2 b)
  (q : ∀ D, H2 D = none -> ∃ W : Nat -> Nat -> L2.St -> Hp -> Prop, (∃ m, W 0 m (inSt inner σ) (upd H2 D (.lst []))) /\ ∀ i m σ' H', W i m σ' H' ->
   (J.stop i H' /\ Q (.ref D) H') ∨ (J.go i H' /\ ∀ x H3, J.yld i H' x H3 -> g x σ' H3 fun σ3 H3 => ti σ3 H3 fun b H4 => if b = true then te σ3 H4 fun y H5 => ∃ ys, H5 D = some (.lst ys) /\ ys.length < sizeLine /\ ∃ m', m' < m /\ W (i + 1) m' σ3 (upd H5 D (.lst (ys ++ [y]))) else ∃ m', m' < m /\ W (i + 1) m' σ3 H4))
  (fin : ∀ (D C : Addr) (H' : Hp) (s5 : Shared) (m : Str -> Option Value), s5.heap.Ns C m -> Q (.ref D) H' -> (∀ h', Heap.SameBut C s5.heap h' -> Inv X pins σ H' { s5 with heap := h' }) -> (H' C = none /\ C ≠ X.env.locals /\ X.s₀.heap.objs.size <= C /\ (∀ x c, X.env.cells.lookup x = some c -> c ≠ C) /\ ∀ p ∈ X.pn ++ pins, p.1 ≠ C) -> RR (.ref D) C (.ok .next) s5) :
  wpAny (model X.prog X.w) X.A (newList []) (fun acc s₃ => wpAny (model X.prog X.w) X.A (newFunctionEnv scope X.env.globals cl [] X.env.qual none .none (some X.env)) (fun cenv s₄ =>
   codeAny (model X.prog X.w) X.A (.compStart (.ListComp elt [⟨tg, iter, ifs, 0⟩] scope pos) 0 (.ref it) acc { cenv with scope := relabel scope X.env }) (RR acc cenv.locals) s₄) X.xe s₃) X.xe s2 := by
 refine wpAny_newList ?_
 have hD : H2 s2.heap.objs.size = none := I2.hok.fresh (Qj _)
 generalize hs3 : ({ s2 with heap := s2.heap.push { cls := .type "list", data := .seq ([] : List Value).toArray } } : Shared) = s3
 have k23 : ∀ b o, s2.heap.get? b = some o -> s3.heap.get? b = some o := fun b o e => by rw [<- hs3]; exact Qc _ e
 have sz3 : s3.heap.objs.size = s2.heap.objs.size + 1 := by rw [<- hs3]; exact Ym _ _
 have I3 : Inv X pins σ (upd H2 s2.heap.objs.size (.lst [])) s3 := by
  rw [<- hs3]
  exact I2.laid (t' := s2.toks) (o := .lst []) (fun b o e => Qc _ e) (Qj _) ⟨QY _, [], 0, .nil, Qx _ rfl⟩
 have ffl : ∀ b ∈ fp, b < s2.heap.objs.size := fun b hb => by
  obtain ⟨o, e, _⟩ := T.obj 0 _ t0 b hb
  exact Qk e
 have f3 : ∀ b ∈ fp, FpOk X pins (upd H2 s2.heap.objs.size (.lst [])) b := fun b hb => by
  obtain ⟨g0, g1⟩ := f2 b hb
  exact ⟨by rw [zAg (Qq (ffl b hb))]; exact g0, g1⟩
 have t3 : tn 0 s3.heap := T.keep _ _ _ t0 fun b _ o e => k23 b o e
 obtain ⟨W, ⟨m0, w0⟩, step⟩ := q _ hD
 refine nfe1 CS.cf CS.pc fun cenv hloc henv => ?_
 generalize hh1 : (s3.heap.push { cls := .type "dict", data := .dict #[] }).push { cls := .type "cell", data := .cell none } = h₁
 have k34 : ∀ b o, s3.heap.get? b = some o -> h₁.get? b = some o := fun b o e => by rw [<- hh1]; exact Qc _ (Qc _ e)
 have hns : h₁.Ns s3.heap.objs.size fun _ => none := by rw [<- hh1]; exact (Heap.Ns.new s3.heap (.type "dict")).keeps fun b o e => Qc _ e
 have hce : h₁.IsCell (s3.heap.objs.size + 1) none := by
  rw [<- hh1]
  have this := Qx (s3.heap.push { cls := .type "dict", data := .dict #[] }) (o := { cls := .type "cell", data := .cell none }) rfl
  rw [Ym] at this
  exact ⟨_, this, rfl⟩
 generalize hs4 : ({ s3 with heap := h₁ } : Shared) = s4
 have I4 : Inv (zA2 X N' scope x0 cl s3.heap.objs.size fp s3 (upd H2 s2.heap.objs.size (.lst []))) [] (inSt inner σ) (upd H2 s2.heap.objs.size (.lst [])) s4 :=
  zLf CS I3 f3 c1 c2 c3 (fun b hb => by rw [sz3]; exact YC (ffl b hb)) rfl k34 hns hce (tk := s3.toks) hs4.symm
 have t4 : tn 0 s4.heap := by rw [<- hs4]; exact T.keep _ _ _ t3 fun b _ o e => k34 b o e
 have CL : s3.heap.objs.size ≠ X.env.locals := YK I3.lt
 have CC : ∀ x c, X.env.cells.lookup x = some c -> c ≠ s3.heap.objs.size := fun x c e => by
  obtain ⟨v, o, z, _⟩ := I3.cell x c e
  exact Qq (Qk z)
 rw [henv, hloc]
 show codeAny (model X.prog X.w) X.A (.compStart (.ListComp elt [⟨tg, iter, ifs, 0⟩] scope pos) 0 (.ref it) (.ref s2.heap.objs.size) (compEnvC scope ((x0, s3.heap.objs.size + 1) :: cl) s3.heap.objs.size X.env)) (RR (.ref s2.heap.objs.size) s3.heap.objs.size) s4
 have loop : codeAny (model X.prog X.w) X.A (.compLoop (.ListComp elt [⟨tg, iter, ifs, 0⟩] scope pos) 0 (.ref it) (.ref s2.heap.objs.size) (compEnvC scope ((x0, s3.heap.objs.size + 1) :: cl) s3.heap.objs.size X.env)) (RR (.ref s2.heap.objs.size) s3.heap.objs.size) s4 := by
  have fx : ∀ {H'' : Hp}, (∀ b ∈ fp, H'' b = none) -> ∀ b ∈ fp, FpOk (zA2 X N' scope x0 cl s3.heap.objs.size fp s3 (upd H2 s2.heap.objs.size (.lst []))) [] H'' b := fun {H''} z b hb =>
   ⟨z b hb, (I4.ok.exf b hb).1, I4.ok.exfs b hb, .inl hb, fun x c e => (I4.ok.exf b hb).2 x c e, fun p hp => absurd (show p ∈ ([] : List (Addr × Obj)) from hp) (by simp)⟩
  refine zGS (Y := zA2 X N' scope x0 cl s3.heap.objs.size fp s3 (upd H2 s2.heap.objs.size (.lst []))) hc (fun _ _ z => z) (hg _ _ _ _ _) (ht _ _ _ _ _) (he _ _ _ _ _) T fx I4 t4 (fun b hb => (f3 b hb).1) w0 step fun σ' H' s5 I5 qn => ?_
  obtain ⟨m5, hm5, _⟩ := id I5.loc
  exact fin _ _ H' s5 m5 hm5 qn (fun h' sb => zLd I3 f3 rfl I5 sb) ⟨I5.free, CL, I3.sz, CC, fun p hp => Qq (Qk (I3.pin p hp).1)⟩
 exact codeAny_compStart_list loop (T.self X.A 0 s4 _ _ t4 loop)
theorem zMP (hc : X.calm = true) (CS : zCP X N' scope inner x0) (hi : PI X tg iter wi) (hg : ∀ cl C fp s H, PG (zA2 X N' scope x0 cl C fp s H) tg g) (ht : ∀ cl C fp s H, PTs (zA2 X N' scope x0 cl C fp s H) ifs ti) (he : ∀ cl C fp s H, PE (zA2 X N' scope x0 cl C fp s H) elt te)
  (hs : ∀ x, foldedSetIterable iter X.env x = pure x := by intro _; rfl) : PE X (.ListComp elt [⟨tg, iter, ifs, 0⟩] scope pos) (zEn wi g ti te inner) := by
 intro pins s σ H Q I h
 obtain ⟨cl, hcl, c1, c2, c3⟩ := clos (env := X.env) (scope := scope) fun x hx hk => I.ok.has x.1 (CS.free x hx hk).2
 rw [eval_ListComp]
 refine wpAny_comprehension_free (use := none) rfl hs hcl CS.kind CS.loc (thn (hi pins s σ H _ I h) fun xv s1 h1 => thn h1 fun itv s2 h2 => ?_)
 obtain ⟨it, fp, tn, J, H2, rfl, I2, T, t0, f2, q⟩ := h2
 refine zKc (RR := fun acc C => compPost (model X.prog X.w) X.A X.xe none (EP X pins σ Q) acc C) hc CS hg ht he c1 c2 c3 I2 T t0 f2 q ?_
 intro D C H' s5 m hm hq hI _
 exact ⟨m, hm, fun h' sb => ⟨.ref D, H', hI h' sb, rfl, hq⟩⟩
end
end CL
namespace DL
open PySem PySem.Spec PySem.SeqAt PyProof.Rows L2 CL
section
variable {X : Cx} {elt tg iter : Expr} {ifs : List Expr} {scope : Scope} {pos : Pos} {N' : List Str} {inner : List (Option Nat)} {x0 : Str} {gi : Rho -> Option (List D)} {s : D -> Rho -> Option Rho} {t : Rho -> Option Bool} {ge : Rho -> Option D}
theorem zKs (hc : X.calm = true) (CS : zCP X N' scope inner x0) (kp : zCr s) (hi : DI X tg iter gi) (hg : ∀ cl C fp s' H, DG (zA2 X N' scope x0 cl C fp s' H) tg s) (ht : ∀ cl C fp s' H, DTs (zA2 X N' scope x0 cl C fp s' H) ifs t) (he : ∀ cl C fp s' H, DE (zA2 X N' scope x0 cl C fp s' H) elt ge)
  (hs : ∀ x, foldedSetIterable iter X.env x = pure x := by intro _; rfl) : DE X (.ListComp elt [⟨tg, iter, ifs, 0⟩] scope pos) (eLc (zAx gi s t ge inner)) :=
 zAQ (zMP (g := tDG X.K s) (ti := tDT X.K t) (te := tD X.K ge) hc CS hi (fun cl C fp s' H => hg cl C fp s' H) (fun cl C fp s' H => ht cl C fp s' H) (fun cl C fp s' H => he cl C fp s' H) hs) fun σ H Q zz => by
  obtain ⟨F, H₀, ρ, d, S, q, k⟩ := zz
  obtain ⟨out, e1, q⟩ := bnd q
  cases q
  refine zDD kp S e1 fun F' H' D' vs E' T' h1 h2 h3 h4 h5 => ?_
  refine k (fun a => F' a ∨ a = D') H' _ ⟨E'.same, fun a f => .inl (E'.up a f), fun a f => ?_⟩ (.lst (.inl ⟨.inr rfl, .inl h2⟩) (h4.stay ⟨fun _ f => .inl f, fun _ _ f => f, fun _ _ _ f => f, fun _ _ _ f => f⟩))
  rcases f with f | rfl
  ·exact E'.new a f
  ·exact .inr ⟨h1, by rw [h2]; simp⟩
end
end DL
namespace CL
open PySem PySem.Spec PyProof.Rows L2
section
variable {X : Cx} {elt tg iter : Expr} {ifs : List Expr} {scope : Scope} {pos : Pos} {N' : List Str} {inner : List (Option Nat)} {x0 : Str} {wi : TI} {g : TG} {ti : TT} {te : TE}
end
end CL
namespace DL
open PySem PySem.Spec PySem.SeqAt PyProof.Rows L2 CL
section
variable {X : Cx} {elt tg iter : Expr} {ifs : List Expr} {scope : Scope} {pos : Pos} {N' : List Str} {inner : List (Option Nat)} {x0 : Str} {gi : Rho -> Option (List D)} {s : D -> Rho -> Option Rho} {t : Rho -> Option Bool} {ge : Rho -> Option D}
end
noncomputable def zGR (osc : Scope) (oN N' : List Str) (scope : Scope) (inner : List (Option Nat)) (x0 : Str) : Bool :=
 scope.kind == .function && scope.names.lookup x0 == some .cell && scope.names.all (fun x => x.2 != .cell || x.1 == x0) && scope.names.all (fun x => x.2 != .local || scope.names.lookup x.1 == some .local) &&
 scope.names.all (fun x => x.2 != .free || (scope.names.lookup x.1 == some .free && (osc.names.lookup x.1 == some .cell || osc.names.lookup x.1 == some .free))) && inner.length == N'.length &&
 (List.range inner.length).all fun i => match inner[i]? with
  | some (some j) => match N'[i]? with
   | some x => oN[j]? == some x && scope.names.lookup x == some .free
   | none => false
  | _ => true
theorem zKa {X : Cx} {N' : List Str} {scope : Scope} {inner : List (Option Nat)} {x0 : Str} (osc : Scope) (oN : List Str) (h1 : X.env.scope = osc) (h2 : X.N = oN) (h : zGR osc oN N' scope inner x0 = true) (cf : ∀ n acc, cellsFrom n scope.names acc = (x0, n) :: acc) (pc : ∀ h, pushCells h scope.names = h.push { cls := .type "cell", data := .cell none }) : zCP X N' scope inner x0 := by
 unfold zGR at h
 simp only [Qw] at h
 obtain ⟨⟨⟨⟨⟨⟨a1, a0⟩, a2⟩, a3⟩, a4⟩, a5⟩, a6⟩ := h
 refine ⟨QZ a1, QZ a0, fun x hx e => ?_, cf, pc, fun x hx e => ?_, fun x hx e => ?_, QZ a5, fun i j e => ?_⟩
 ·have := QF.mp a2 x hx
  rw [e] at this
  rcases YE.mp this with z | z
  ·cases z
  ·exact QZ z
 ·have := QF.mp a3 x hx
  rw [e] at this
  rcases YE.mp this with z | z
  ·cases z
  ·exact QZ z
 ·have := QF.mp a4 x hx
  rw [e] at this
  rcases YE.mp this with z | z
  ·cases z
  ·obtain ⟨z1, z2⟩ := QH.mp z
   refine ⟨QZ z1, ?_⟩
   rw [h1]
   rcases YE.mp z2 with z | z
   ·exact .inl (QZ z)
   ·exact .inr (QZ z)
 ·have hi : i < inner.length := (Qe.mp e).1
  have := QF.mp a6 i (QL.mpr hi)
  rw [e] at this
  dsimp only at this
  split at this
  ·rename_i x e2
   obtain ⟨z1, z2⟩ := QH.mp this
   exact ⟨x, e2, by rw [h2]; exact QZ z1, QZ z2⟩
  ·cases this
noncomputable def zIK (scope osc : Scope) : Scope := { scope with names := scope.names.map fun (n, k) => if (k == .free && osc.kind == .function && osc.names.lookup n == some .cell) then (n, .cell) else (n, k) }
theorem zKb {X : Cx} {N' N2 : List Str} {scope scope2 : Scope} {x0 : Str} {cl : List (Str × Addr)} {C : Addr} {fp : List Addr} {s : Shared} {H : Hp} {inner2 : List (Option Nat)} (osc : Scope) (oN : List Str) (h1 : X.env.scope = osc) (h2 : N' = oN) (h : zEA (zIK scope osc) oN N2 scope2 inner2 = true) :
  zBB (zA2 X N' scope x0 cl C fp s H) N2 scope2 inner2 := zAS (zIK scope osc) oN (by subst h1; rfl) h2 h
end DL
namespace DC
open PySem PySem.Spec PyProof.Rows L2 DL ST SL EL
section
variable {P : Program} {w : World} {A : Around} {E : Value -> Shared -> Prop} {s : Shared}
theorem zNK {κ : Type} [DecidableEq κ] {knd : HeapKind P w κ} {t b : Addr} {rs : List (κ × Addr × Value)} {y : κ} {u : Value} {Q : Value -> Shared -> Prop} (hu : knd.room A) (hb : knd.is s.heap y b) (dd : s.heap.DictOfH knd t rs)
  (old : ∀ p, atKey rs y = some p -> Q p.2 { s with toks := s.toks + knd.draws y })
  (new : atKey rs y = none -> ∀ g, g.DictOfH knd t (storedH rs y b u) -> Heap.SameBut t s.heap g -> Q u { s with heap := g, toks := s.toks + knd.draws y })
  (hl : rs.length <= sizeLine) : wpAny (model P w) A (dictSetDefault t (.ref b) u) Q E s := by
 obtain ⟨ob, raw, ep, h1, h2, h3, h4, h5, h6⟩ := dd
 have hz : raw.size <= sizeLine := by rw [size_of_entries h4]; exact hl
 unfold dictSetDefault
 try with_reducible refine Ya ?_
 refine Qa (knd.pyHash hu hb (Qa (wpAny_dictFind_heap (s := { s with toks := s.toks + knd.draws y }) hu hb h1 h3 h4 h5 h6 (fun no => ?_) fun j p hj => ?_)))
 ·have e0 := atKey_none_of_get no
  have ny : y ∉ rs.map (·.1) := not_mem_keys_of_get no
  refine Qa (Jr (Qa (wpAny_updateDictKeys (hz := hz) (s := { s with toks := s.toks + knd.draws y }) h1 h3 (Qb (new e0 _ ?_ (QX ..))))))
  rw [storedH_new e0]
  refine ⟨_, _, ep + 1, Q9 _ h1 (Obj.isFreed_of_dict (Obj.data_mapDictKeys h3 _)), h2.mapDictKeys _, Obj.data_mapDictKeys h3 _, by simp [h4, entryOfKey], fun x hx => ?_, ?_⟩
  ·rcases QC.mp hx with z | z
   ·exact knd.keeps (h5 x z) h1 h3 (QX ..)
   ·rw [QB.mp z]; exact knd.keeps hb h1 h3 (QX ..)
  ·rw [QS]
   exact Jq.mpr ⟨h6, by simp, fun x hx z hz e => ny (by have e2 : z = y := QB.mp hz; rw [<- e2, <- e]; exact hx)⟩
 ·refine Qa (wpAny_dictEntries (s := { s with toks := s.toks + knd.draws y }) h1 h3 ?_)
  rw [entry_at h4 j, hj]
  exact Qa (Jr (Qb (old p (atKey_of_get h6 hj))))
end
theorem LstO.obj {P : Program} {w : World} {H : Hp} {h : Heap} {c : Addr} {vs : List V} (x : zAL P w H h c (.lst vs)) : zAL P w H h c (LstO c vs) := by
 obtain ⟨z, its, n, r, e⟩ := x
 exact ⟨⟨z, its, n, r, e⟩, ⟨_, e⟩, fun h1 h2 ⟨z, its, n, r, e⟩ k => ⟨z, its, n, r, k _ e⟩⟩
theorem Inv.thaw {X : Cx} {pins : List (Addr × Obj)} {σ : L2.St} {H : Hp} {s : Shared} {c : Addr} {vs : List V} (I : Inv X pins σ H s) (h : H c = some (LstO c vs)) : Inv X pins σ (upd H c (.lst vs)) s := by
 obtain ⟨⟨z, its, n, r, e⟩, _⟩ := (show zAL X.prog X.w H s.heap c (LstO c vs) from I.hok c _ h)
 exact I.write (x := c) (e := c) (h' := s.heap) (t' := s.toks) (by rw [h]; exact True.intro) (.inl rfl) (fun _ _ _ q => q) ⟨_, e⟩ ⟨z, its, n, r, e⟩
theorem Inv.cool {X : Cx} {pins : List (Addr × Obj)} {σ : L2.St} {H : Hp} {s : Shared} {c : Addr} {vs : List V} (I : Inv X pins σ H s) (h : H c = some (.lst vs)) : Inv X pins σ (upd H c (LstO c vs)) s := by
 obtain ⟨z, its, n, r, e⟩ := (show zAL X.prog X.w H s.heap c (.lst vs) from I.hok c _ h)
 exact I.write (x := c) (e := c) (h' := s.heap) (t' := s.toks) (by rw [h]; exact True.intro) (.inl rfl) (fun _ _ _ q => q) ⟨_, e⟩ (LstO.obj ⟨z, its, n, r, e⟩)
noncomputable def Wr (o : Option HO) : Prop := (∀ xs, o ≠ some (.tup xs)) /\ ∀ ob u, o ≠ some (.frz ob u)
theorem zDy {K : PySem.W.Frag} {F : Addr -> Prop} {H : Hp} {p : Addr} {o : HO} (hw : Wr (H p)) (hf : ¬ F p) : Stay K F F H (upd H p o) :=
 ⟨fun _ h => h, fun a xs h => by
  rcases h with (h | ⟨ob, h⟩) | h
  ·exact .inl (.inl (by rw [zAg (by intro z; subst z; exact hw.1 _ h)]; exact h))
  ·exact .inl (.inr ⟨ob, by rw [zAg (by intro z; subst z; exact hw.2 _ _ h)]; exact h⟩)
  ·exact .inr h, fun a xs f h => by
  have na : a ≠ p := fun z => hf (by rw [<- z]; exact f)
  rcases h with h | ⟨ob, h⟩
  ·exact .inl (by rw [zAg na]; exact h)
  ·exact .inr ⟨ob, by rw [zAg na]; exact h⟩, fun a φ f h => by rw [zAg (fun z => hf (by rw [<- z]; exact f))]; exact h⟩
noncomputable def isL : Sl -> Bool
 | .own _ => true
 | _ => false
theorem StOk.turnS {K : PySem.W.Frag} {F F' : Addr -> Prop} {H H' H₀ : Hp} {σ : L2.St} {ρ : List Sl} (S : StOk K F H H₀ σ ρ) {i : Nat} {s s' : Sl} {a : Addr} (hi : ρ[i]? = some s) (hs : σ[i]? = some (some (.ref a))) (one : oneD i ρ = true) (T : Stay K F F' H H')
  (kl : ∀ b vs, H b = some (.lst vs) -> ¬ F b -> H' b = some (.lst vs) /\ ¬ F' b) (z : ∀ b, F' b -> H' b ≠ none) (nl : isL s' = false) (new : SlOk K F' H' H₀ (some (.ref a)) s') : StOk K F' H' H₀ σ (ρ.set i s') := by
 have hl : i < ρ.length := (Qe.mp hi).1
 refine ⟨by simp [S.len], fun j t h => ?_, fun j k b ds es hjk h1 h2 h3 => ?_, z⟩
 ·by_cases hij : i = j
  ·subst hij
   rw [QA hl] at h
   cases h
   exact ⟨_, hs, new⟩
  ·rw [Qu hij] at h
   obtain ⟨o, q, w⟩ := S.sl j t h
   refine ⟨o, q, ?_⟩
   cases t with
   | no => trivial
   | ownD k2 => exact absurd (zIo one h) hij
   | ownM k2 => exact absurd (zIo one h) hij
   | dat d => obtain ⟨v, q', r'⟩ := w; exact ⟨v, q', r'.stay T⟩
   | own ds' =>
    obtain ⟨b, ws, q', ha, nf, h0', r'⟩ := w
    exact ⟨b, ws, q', (kl b ws ha nf).1, (kl b ws ha nf).2, h0', r'.stay T⟩
 ·have nm : ∀ (m : Nat) (es : List D), (ρ.set i s')[m]? = some (.own es) -> i ≠ m := fun m es g e => by
   subst e
   rw [QA hl] at g; cases g; cases nl
  have nj := nm j ds h1
  have nk := nm k es h2
  rw [Qu nj] at h1
  rw [Qu nk] at h2
  exact S.sep j k b ds es hjk h1 h2 h3
noncomputable def zIR (i : Nat) : Rho -> Option Out := fun ρ => some (.nx (ρ.set i (.ownM [])))
noncomputable def tNewD : TE := fun _ H Q => ∀ p ep, H p = none -> Q (.ref p) (upd H p (DctO p [] ep))
section
variable {X : Cx} {e k v : Expr} {es : List Expr} {gr : Rho -> Option (List D)} {ge gk gv gd : Rho -> Option D} {p pos : Pos}
theorem zMT : PE X (.Dict [] [] pos) tNewD := fun pins s σ H Q I h => by
 refine wpAny_Dict_empty ?_
 have hp : H s.heap.objs.size = none := I.hok.fresh (Qj _)
 have lo : (s.heap.objs.size == sysModules) = false := beq_eq_false_iff_ne.mpr (Ne.symm (Qq (zGI I)))
 have dd : (s.heap.push { cls := .type "dict", data := .dict #[] }).DictOfH (TKd X.prog X.w) s.heap.objs.size [] := ⟨_, _, _, Qx _ rfl, ⟨rfl, rfl, rfl⟩, rfl, rfl, fun x hx => (nomatch hx), .nil⟩
 obtain ⟨ep, oo⟩ := zEF (H := H) lo dd .nil
 exact ⟨.ref s.heap.objs.size, upd H s.heap.objs.size (DctO s.heap.objs.size [] ep), I.laid (t' := s.toks) (fun b o q => Qc _ q) (Qj _) oo, rfl, h _ ep hp⟩
theorem zKM {i : Nat} {x : Str} {pos' pos'' : Pos} (hN : X.N.Nodup) (hi : X.N[i]? = some x := by rfl) (hx : Loc X.env.scope x := by first | exact Or.inl rfl | exact Or.inr rfl)
  (hs : swapsWith (.Dict [] [] pos'') (some (.Name x pos')) pos.line X.env = pure false := by rfl) (hf : X.fn x = true ∨ X.env.scope.names.lookup x = some .local := by first | exact .inl rfl | exact .inr rfl | assumption) :
  DS X (.Assign [.Name x pos'] (.Dict [] [] pos'') pos) (zIR i) := ps_mono (zDn hN hi hx zMT hs hf) fun W σ H zz => by
 obtain ⟨F₀, H₀, F, ρ, o, E, S, q, k⟩ := zz
 cases q
 intro p ep hp
 have e1 : Ext F F H (upd H p (DctO p [] ep)) := Ext.fresh hp
 have S' := S.ext e1
 refine k F _ _ (E.trans e1) e1.stay ⟨by simp [S.len], fun j s h => ?_, fun j m b ds es hjk h1 h2 h3 h4 => ?_, S'.fz⟩
 ·by_cases hij : i = j
  ·subst hij
   have hl : i < ρ.length := by simpa using (Qe.mp h).1
   rw [QA hl] at h
   cases h
   exact ⟨some (.ref p), by rw [QA (by rw [S.len]; exact hl)], p, [], ep, rfl, zAC, fun f => S.fz p f hp, E.same.free hp, .nil, QY _, .nil, by simp, .nil⟩
  ·rw [Qu hij] at h
   obtain ⟨o, q, w⟩ := S'.sl j s h
   exact ⟨o, by rw [Qu hij]; exact q, w⟩
 ·have nm : ∀ (m : Nat) (es : List D), (ρ.set i (.ownM []))[m]? = some (.own es) -> i ≠ m := fun m es g z => by
   subst z
   have hl : i < ρ.length := by simpa using (Qe.mp g).1
   rw [QA hl] at g; cases g
  have nj := nm j ds h1
  have nk := nm m es h2
  rw [Qu nj] at h1 h3
  rw [Qu nk] at h2 h4
  exact S.sep j m b ds es hjk h1 h2 h3 h4
noncomputable def zF4 (i : Nat) : Rho -> Option Out := fun ρ => match ρ[i]? with
 | some (.ownM kvs) => some (.rt (.dict (kvs.map fun p => (encT p.1, .list p.2))))
 | _ => none
noncomputable def zBy (qs : List Q4) (H : Hp) : Hp := qs.foldr (fun q H => upd H q.c (.lst q.vs)) H
theorem zCi {qs : List Q4} {H : Hp} {b : Addr} (h : b ∉ qs.map (·.c)) : zBy qs H b = H b := by
 induction qs with
 | nil => rfl
 | cons q qs ih =>
  simp only [Ql, Qh, not_or] at h
  show upd (zBy qs H) q.c _ b = _
  rw [zAg h.1]; exact ih h.2
theorem zEp {H : Hp} : ∀ {qs : List Q4} {q : Q4}, (qs.map (·.c)).Nodup -> q ∈ qs -> zBy qs H q.c = some (.lst q.vs)
 | r :: qs, q, n, h => by
  rw [Ql, Q5] at n
  show upd (zBy qs H) r.c _ q.c = _
  rcases Qh.mp h with e | h
  ·subst e; exact zAC
  ·rw [zAg (fun e => n.1 (by rw [<- e]; exact Qr.mpr ⟨q, h, rfl⟩))]; exact zEp n.2 h
theorem zJo {pins : List (Addr × Obj)} {σ : L2.St} {H : Hp} {s : Shared} (I : Inv X pins σ H s) : ∀ (qs : List Q4), (qs.map (·.c)).Nodup -> (∀ q ∈ qs, H q.c = some (LstO q.c q.vs)) -> Inv X pins σ (zBy qs H) s
 | [], _, _ => I
 | q :: qs, n, h => by
  rw [Ql, Q5] at n
  exact Inv.thaw (zJo I qs n.2 fun r hr => h r (Qd _ hr)) ((zCi (H := H) n.1).trans (h q Qf))
theorem Paired.memR {α β : Type} {R : α -> β -> Prop} {l : List α} {m : List β} (h : Paired R l m) {b : β} (hb : b ∈ m) : ∃ a ∈ l, R a b := by
 obtain ⟨i, hi⟩ := List.mem_iff_getElem?.mp hb
 obtain ⟨a, h1, h2⟩ := Paired.atR h hi
 exact ⟨a, QO h1, h2⟩
theorem zJp {K : PySem.W.Frag} {F F' : Addr -> Prop} {H H' H₀ : Hp} (T : Stay K F F' H H') : ∀ {kvs : List (List Int × List D)} {qs : List Q4}, Paired (MEnt K F H H₀) kvs qs -> (∀ q ∈ qs, F' q.c /\ H' q.c = some (.lst q.vs)) -> DReps K F' H' (kvs.map fun p => (encT p.1, .list p.2)) (qs.map Q4.ent)
 | _, _, .nil, _ => .nil
 | _, _, .cons (a := kv) (b := q) r t, h => by
  have hq := h q Qf
  have := DReps.cons (kvs := _) (es := _) (k := .inl q.k) (b := q.b) (show zB6 K H' (.inl q.k) q.b from T.tp _ _ r.sq) (.lst (.inl ⟨hq.1, .inl hq.2⟩) (r.rs.stay T)) (zJp T t fun q' hq' => h q' (Qd _ hq'))
  rw [Ql, Ql, r.key]
  exact this
theorem zKN {i : Nat} {x : Str} (hN : X.N[i]? = some x := by rfl) (hv : Vis X.env.scope x := by first | exact Or.inl rfl | exact Or.inr (Or.inl rfl) | exact Or.inr (Or.inr rfl)) (hd : (x == ("__debug__" : Str)) = false := by decide)
  (hcd : (x == ("__classdict__" : Str)) = false := by decide) : DS X (.Return (some (.Name x p)) pos) (zF4 i) := by
 intro pins s σ H W I ⟨F₀, H₀, F, ρ, o, E, S, q, k⟩
 unfold zF4 at q
 split at q
 ·rename_i kvs e0
  cases q
  obtain ⟨o, q0, a, qs, ep, rfl, m⟩ := S.sl i _ e0
  have al : ∀ q ∈ qs, H q.c = some (LstO q.c q.vs) /\ ¬ F q.c /\ H₀ q.c = none := fun q hq => let ⟨_, _, r⟩ := Paired.memR m.ps hq; ⟨r.hc, r.nf, r.h0⟩
  have ot : ∀ b, (∀ vs, H b ≠ some (LstO b vs)) -> zBy qs H b = H b := fun b hb => zCi fun hm => by
   obtain ⟨q, hq, e⟩ := Qr.mp hm
   subst e
   exact hb _ (al q hq).1
  have of : ∀ b, F b -> zBy qs H b = H b := fun b hb => zCi fun hm => by
   obtain ⟨q, hq, e⟩ := Qr.mp hm
   subst e
   exact (al q hq).2.1 hb
  have T : Stay X.K F (fun b => F b ∨ b = a ∨ b ∈ qs.map (·.c)) H (zBy qs H) := ⟨fun _ f => .inl f, fun b xs h => by
    rcases h with (h | ⟨ob, h⟩) | h
    ·exact .inl (.inl (by rw [ot b (fun vs z => by rw [h] at z; cases z)]; exact h))
    ·exact .inl (.inr ⟨ob, by rw [ot b (fun vs z => by rw [h] at z; cases z)]; exact h⟩)
    ·exact .inr h, fun b xs f h => by
    rcases h with h | ⟨ob, h⟩
    ·exact .inl (by rw [of b f]; exact h)
    ·exact .inr ⟨ob, by rw [of b f]; exact h⟩, fun b φ f h => by rw [of b f]; exact h⟩
  have I' := zJo I qs m.nv fun q hq => (al q hq).1
  have E' : Ext F₀ (fun b => F b ∨ b = a ∨ b ∈ qs.map (·.c)) H₀ (zBy qs H) := ⟨fun b u h => by
    rw [zCi fun hm => by
     obtain ⟨q, hq, e⟩ := Qr.mp hm
     subst e
     rw [(al q hq).2.2] at h; cases h]
    exact E.same b u h, fun b f => .inl (E.up b f), fun b f => by
   rcases f with f | rfl | f
   ·rcases E.new b f with f | ⟨f, g⟩
    ·exact .inl f
    ·by_cases hm : b ∈ qs.map (·.c)
     ·obtain ⟨q, hq, e⟩ := Qr.mp hm
      subst e
      exact .inr ⟨f, by rw [zEp m.nv hq]; simp⟩
     ·exact .inr ⟨f, by rw [zCi hm]; exact g⟩
   ·exact .inr ⟨m.h0, by rw [zCi m.na, m.hd]; simp⟩
   ·obtain ⟨q, hq, e⟩ := Qr.mp f
    subst e
    exact .inr ⟨(al q hq).2.2, by rw [zEp m.nv hq]; simp⟩⟩
  refine zIG (zDk hN hv hd hcd) pins s σ (zBy qs H) W I' ⟨.ref a, q0, ?_⟩
  refine k _ _ _ E' (.dct (.inr (.inl rfl)) (by rw [zCi m.na]; exact m.hd) ?_ (by rw [Qg]; exact m.ln) (zJp T m.ps fun q hq => ⟨.inr (.inr (Qr.mpr ⟨q, hq, rfl⟩)), zEp m.nv hq⟩))
  have : (qs.map Q4.ent).map (·.1) = (qs.map (·.k)).map Sum.inl := by rw [QV, QV]; rfl
  rw [this]
  exact zFK m.nd
 ·cases q
end
end DC
namespace DC
open PySem PySem.Spec PyProof.Rows L2 DL ST SL EL
noncomputable def rSetD (K : PySem.W.Frag) : V -> List V -> Hp -> VK -> Prop := fun x xs H Q => ∃ (a b : Addr) (es : List Ent) (ep : Nat) (ks : List Int) (w : V), x = .ref a /\ xs = [.ref b, w] /\ SqT K H b (ks.map V.int) /\ H a = some (DctO a es ep) /\ (∀ e ∈ es, ∃ ks, e.1 = .inl ks /\ SqT K H e.2.1 (ks.map V.int)) /\ (es.map (·.1)).Nodup /\ es.length <= 1000 /\
 (∀ b' v', (es.find? fun e => decide (e.1 = .inl ks)) = some (.inl ks, b', v') -> Q v' H) /\ (hasE es ks = false -> ∀ ep', Q w (upd H a (DctO a (putE es ks b w) ep')))
theorem zHe {es : List Ent} {ks : List Int} (h : hasE es ks = true) : ∃ b v, (es.find? fun e => decide (e.1 = .inl ks)) = some (.inl ks, b, v) := by
 obtain ⟨e, he, q⟩ := YJ.mp h
 cases f : es.find? fun e => decide (e.1 = .inl ks) with
 | none => exact absurd q (by simpa using Jk.mp f e he)
 | some r =>
  have := List.find?_some f
  obtain ⟨k, b, v⟩ := r
  exact ⟨b, v, by rw [<- of_decide_eq_true this]⟩
section
variable {X : Cx} {e k v o d : Expr} {es : List Expr} {gr : Rho -> Option (List D)} {ga ge gk gv gd : Rho -> Option D} {p pos : Pos}
theorem zLV (hu : X.A.units + 65 < cLine) : MtR X "dict.setdefault" (rSetD X.K) := fun pins s σ H x xs v us Q I rx rv zz => by
 obtain ⟨a, b, es, ep, ks, w, ex, exs, hb, h, hf, n, l, h1, h2⟩ := zz
 subst ex exs
 cases rx
 obtain ⟨u1, u2, rfl, r1, r2⟩ := Vals.two rv
 cases r1
 obtain ⟨lo, xs, dd, er⟩ := zDG I h hf n
 have hT := dd.typeIs
 have hxl : xs.length <= sizeLine := by rw [<- Paired.length er]; exact Qt l (by rw [Ye]; lia)
 refine Yj PySem.F.slot_dict_setdefault hT PySem.F.entry_dict_setdefault ?_ (PySem.F.args_dict_setdefault_3 _ _ _)
 unfold Builtin.«dict.setdefault»
 refine Qa ?_
 unfold Builtin.Dict.keyAndDefault
 refine Qa (wpAny_notOrdered_dict hT ?_)
 show wpAny _ _ (pure (a, Value.ref b, some u2)) _ _ s
 refine Qb ?_
 show wpAny _ _ (if (a == sysModules) = true then _ else (dictSetDefault a (.ref b) u2 >>= _)) _ _ s
 rw [if_neg (by rw [lo]; exact Qs)]
 refine Qa (zNK (knd := TKd X.prog X.w) (y := ks) (show X.A.in1.units < cLine from by show X.A.units + 1 < cLine; lia) (zBz I hb) dd (fun p hp => ?_) (fun e0 g dd' sb => ?_) hxl)
 ·obtain ⟨b', v', f⟩ := zHe (es := es) (ks := ks) (by rw [zBQ ks er, hp]; rfl)
  obtain ⟨p', g3, g4⟩ := zEY er f
  rw [hp] at g3; cases g3
  exact Qb ⟨p.2, rfl, v', H, I.tok _, g4, h1 b' v' f⟩
 ·obtain ⟨ep', oo⟩ := zEF (H := H) lo dd' (zHb r2 er)
  have I4 : Inv X pins σ (upd H a (DctO a (putE es ks b w) ep')) { s with heap := g, toks := s.toks + (TKd X.prog X.w).draws ks } := I.write (x := a) (e := a) (t' := s.toks + (TKd X.prog X.w).draws ks) (by rw [h]; exact True.intro) (.inl rfl) (fun c ob hc z => (sb.2 c hc).trans z) (let ⟨o2, _, _, hq, _⟩ := dd'; ⟨o2, hq⟩) oo
  exact Qb ⟨u2, rfl, w, _, I4, r2, h2 (by rw [zBQ ks er, e0]; rfl) ep'⟩
noncomputable def tBMD (r : V -> List V -> Hp -> VK -> Prop) (to : TE) (t : TA) : TE := fun σ H Q => to σ H fun x H1 => (∃ a es ep, x = .ref a /\ H1 a = some (DctO a es ep)) /\ t σ H1 fun xs H2 => r x xs H2 Q
theorem zIw {to : TE} {t : TA} {name : Str} {ap cp : Pos} {id : String} {r : V -> List V -> Hp -> VK -> Prop} (sl : Slot "dict" name id) (ty : typeOf (.builtin id) = pure (.type "method_descriptor")) (hm : MtR X id r) (ho : PE X o to) (ha : PA X (e :: es) t)
  (hb : attributeBase o name X.env (eval o X.env) = eval o X.env)
  (hf : ((backTo cp (starEach (e :: es) X.env)).all (fun x => !x.1) && (backToKw cp (keywordEach [] X.env)).all (fun x => x.1.isSome) && decide ((e :: es).length + ([] : List Keyword).length + (if ([] : List Keyword).isEmpty then 0 else 1) < 30)) = true)
  (hl : (ap.endLine == cp.line) = true) (hs : starEach (e :: es) X.env = (false, eval e X.env) :: starEach es X.env) (hp : (backTo cp (starEach es X.env)).any (·.1) = false) : PE X (.Call (.Attribute o name ap) (e :: es) [] cp) (tBMD r to t) := fun pins s σ H Q I h => by
 refine wpAny_Call_method_late hb hf hl rfl (thn (ho pins s σ H _ I h) fun v s1 ⟨x, H1, I1, r1, ⟨a, es', ep, ex, hx⟩, q1⟩ => ?_)
 subst ex
 cases r1
 obtain ⟨⟨lo, ob, raw, g1, g2, g3, g4⟩, _⟩ := (show zAL X.prog X.w H1 s1.heap a (DctO a es' ep) from I1.hok a _ hx)
 refine ⟨"dict", id, PySem.F.plainAttrs_dict, sl, ty, ⟨ob, g1, g2.1⟩, fun a' e' => by cases e'; exact ⟨ob, g1, g2.2.1⟩, ?_⟩
 have hA := ha cp pins s1 σ H1 _ I1 q1
 rw [hs] at hA ⊢
 exact Calls.callWith_builtin (by show (false || (backTo cp (starEach es X.env)).any (·.1)) = false; rw [hp]; rfl) (Calls.evalArgs_plain (thn hA fun us s2 ⟨vs, H2, I2, r2, q2⟩ => hm pins s2 σ H2 (.ref a) vs (.ref a) us Q I2 rfl r2 q2))
noncomputable def tThaw (t : TE) : TE := fun σ H Q => t σ H fun x H1 => Q x H1 ∨ ∃ c vs, H1 c = some (LstO c vs) /\ Q x (upd H1 c (.lst vs))
theorem zMX {t : TE} (h : PE X e t) : PE X e (tThaw t) := fun pins s σ H Q I q => thn (h pins s σ H _ I q) fun v s1 zz => by
 obtain ⟨x, H1, I1, r1, z⟩ := zz
 rcases z with z | ⟨c, vs, hc, z⟩
 ·exact ⟨x, H1, I1, r1, z⟩
 ·exact ⟨x, _, Inv.thaw I1 hc, r1, z⟩
noncomputable def tCool (t : TE) : TE := fun σ H Q => t σ H fun x H1 => ∃ c vs, H1 c = some (.lst vs) /\ Q x (upd H1 c (LstO c vs))
theorem zMQ {t : TE} (h : PE X e t) : PE X e (tCool t) := fun pins s σ H Q I q => thn (h pins s σ H _ I q) fun v s1 ⟨x, H1, I1, r1, c, vs, hc, z⟩ => ⟨x, _, Inv.cool I1 hc, r1, z⟩
noncomputable def addM (kvs : List (List Int × List D)) (ks : List Int) (d : D) : List (List Int × List D) := if (kvs.any fun p => decide (p.1 = ks)) = true then kvs.map fun p => if p.1 = ks then (p.1, p.2 ++ [d]) else p else kvs ++ [(ks, [d])]
noncomputable def zDs (i : Nat) (gk ge : Rho -> Option D) : Rho -> Option Out := fun ρ => match ρ[i]? with
 | some (.ownM kvs) => (gk ρ).bind fun kd => (decT kd).bind fun ks => (ge (ρ.set i .no)).bind fun d => if (oneD i ρ && decide (kvs.length < 1000) && kvs.all fun p => decide (p.2.length < 1000)) = true then some (.nx (ρ.set i (.ownM (addM kvs ks d)))) else none
 | _ => none
theorem zH8 {F₀ F1 : Addr -> Prop} {H₀ H1 H3 : Hp} {σ : L2.St} {ρ : Rho} {i : Nat} {a c : Addr} {kvs kvs' : List (List Int × List D)} {vs : List V} {d : D} {W : Ends} (S1 : StOk X.K F1 H1 H₀ σ ρ) (e0 : ρ[i]? = some (.ownM kvs)) (q0 : σ[i]? = some (some (.ref a))) (one : oneD i ρ = true)
  (E3 : Ext F₀ F1 H₀ H3) (T3 : Stay X.K F1 F1 H1 H3) (kl : ∀ b ws, H1 b = some (.lst ws) -> ¬ F1 b -> H3 b = some (.lst ws) /\ b ≠ c) (z3 : ∀ b, F1 b -> H3 b ≠ none) (hc : H3 c = some (.lst vs)) (nf : ¬ F1 c) (h0 : H₀ c = none) (e3 : ge (ρ.set i .no) = some d) (sm : vs.length < 1000)
  (new : ∀ F4 H4 w, Ext F1 F4 H3 H4 -> Rep X.K F4 H4 d w -> Stay X.K F1 F4 H1 (upd H4 c (LstO c (vs ++ [w]))) -> ¬ F4 c -> ∃ qs ep, zC0 X.K F4 (upd H4 c (LstO c (vs ++ [w]))) H₀ kvs' a qs ep)
  (k : ∀ F' H', Ext F₀ F' H₀ H' -> Stay X.K F1 F' H1 H' -> StOk X.K F' H' H₀ σ (ρ.set i (.ownM kvs')) -> W.nx σ H') :
  tyV X.K "list" (.ref c) H3 /\ zJl (tD X.K ge) tNil σ H3 fun xs H2 => zIJ (.ref c) xs H2 fun x H5 => ∃ c vs, H5 c = some (.lst vs) /\ W.nx σ (upd H5 c (LstO c vs)) := by
 have S3 : StOk X.K F1 H3 H₀ σ (ρ.set i .no) := StOk.turnS S1 e0 q0 one T3 (fun b ws hb hf => ⟨(kl b ws hb hf).1, hf⟩) z3 rfl trivial
 refine ⟨.inl ⟨rfl, _, SqL.of hc⟩, F1, H₀, _, d, S3, e3, fun F4 H4 w E4 R4 => ?_⟩
 have h4 : H4 c = some (.lst vs) := E4.same _ _ hc
 have out : ∀ b o, H3 b = some o -> ¬ F1 b -> ¬ F4 b := fun b o hb hf f => by
  rcases E4.new b f with f | ⟨f, _⟩
  ·exact hf f
  ·rw [hb] at f; cases f
 have n4 := out c _ hc nf
 refine ⟨c, vs, w, rfl, rfl, h4, zEi (Yv sm), c, vs ++ [w], zAC, ?_⟩
 rw [zOl]
 have T6 : Stay X.K F1 F4 H1 (upd H4 c (LstO c (vs ++ [w]))) := (T3.trans E4.stay).trans (zDy (by rw [h4]; exact ⟨fun _ z => (nomatch z), fun _ _ z => (nomatch z)⟩) n4)
 have E6 : Ext F₀ F4 H₀ (upd H4 c (LstO c (vs ++ [w]))) := (E3.trans E4).turn h0
 obtain ⟨qs, ep, m⟩ := new F4 H4 w E4 R4 T6 n4
 refine k F4 _ E6 T6 (StOk.turnS S1 e0 q0 one T6 (fun b ws hb hf => ?_) (fun b f => ?_) rfl ⟨a, qs, ep, rfl, m⟩)
 ·obtain ⟨g1, g2⟩ := kl b ws hb hf
  exact ⟨by rw [zAg g2]; exact E4.same _ _ g1, out b _ g1 hf⟩
 ·by_cases hb : b = c
  ·subst hb; rw [zAC]; simp
  ·rw [zAg hb]; exact E4.fz z3 b f
theorem Paired.map2 {α β γ δ : Type} {R : α -> β -> Prop} {R' : γ -> δ -> Prop} {f : α -> γ} {g : β -> δ} : ∀ {l : List α} {m : List β}, Paired R l m -> (∀ a b, b ∈ m -> R a b -> R' (f a) (g b)) -> Paired R' (l.map f) (m.map g)
 | _, _, .nil, _ => .nil
 | _, _, .cons h t, k => .cons (k _ _ Qf h) (Paired.map2 t fun a b hb => k a b (Qd _ hb))
theorem Paired.app {α β : Type} {R : α -> β -> Prop} : ∀ {l l' : List α} {m m' : List β}, Paired R l m -> Paired R l' m' -> Paired R (l ++ l') (m ++ m')
 | _, _, _, _, .nil, s => s
 | _, _, _, _, .cons h t, s => .cons h (Paired.app t s)
theorem zFt {K : PySem.W.Frag} {F : Addr -> Prop} {H H₀ : Hp} {ks : List Int} : ∀ {kvs : List (List Int × List D)} {qs : List Q4}, Paired (MEnt K F H H₀) kvs qs -> (kvs.any fun p => decide (p.1 = ks)) = hasE (qs.map Q4.ent) ks
 | _, _, .nil => rfl
 | _, _, .cons h t => by
  rw [YX, Ql]
  show _ = (decide (_ = _) || hasE _ ks)
  rw [zFt t, h.key]
  congr 1
  simp [Q4.ent]
theorem zIk {α : Type} {f : Q4 -> α} {qs : List Q4} (n : (qs.map f).Nodup) {q r : Q4} (hq : q ∈ qs) (hr : r ∈ qs) (e : f q = f r) : q = r := by
 induction qs with
 | nil => cases hq
 | cons x qs ih =>
  rw [Ql, Q5] at n
  rcases Qh.mp hq with z1 | z1 <;> rcases Qh.mp hr with z2 | z2
  ·rw [z1, z2]
  ·exact absurd (by rw [<- z1, e]; exact Qr.mpr ⟨r, z2, rfl⟩) n.1
  ·exact absurd (by rw [<- z2, <- e]; exact Qr.mpr ⟨q, z1, rfl⟩) n.1
  ·exact ih n.2 z1 z2
theorem zKL {i : Nat} {x : Str} {ap1 ap2 p2 c1 c2 : Pos} (hu : X.A.units + 65 < cLine) (hk : DE X k gk) (he : DE X e ge) (hN : X.N[i]? = some x := by rfl) (hv : Vis X.env.scope x := by first | exact Or.inl rfl | exact Or.inr (Or.inl rfl) | exact Or.inr (Or.inr rfl)) (hd : (x == ("__debug__" : Str)) = false := by decide)
  (hcd : (x == ("__classdict__" : Str)) = false := by decide) (s1 : starEach [k, .List [] p2] X.env = (false, eval k X.env) :: starEach [.List [] p2] X.env := by rfl) (s2 : starEach [.List [] p2] X.env = (false, eval (.List [] p2) X.env) :: starEach [] X.env := by rfl)
  (b1 : attributeBase (.Name x p) "setdefault" X.env (eval (.Name x p) X.env) = eval (.Name x p) X.env := by rfl)
  (f1 : ((backTo c1 (starEach [k, .List [] p2] X.env)).all (fun x => !x.1) && (backToKw c1 (keywordEach [] X.env)).all (fun x => x.1.isSome) && decide ([k, .List [] p2].length + ([] : List Keyword).length + (if ([] : List Keyword).isEmpty then 0 else 1) < 30)) = true := by rfl)
  (l1 : (ap1.endLine == c1.line) = true := by rfl) (p1 : (backTo c1 (starEach [.List [] p2] X.env)).any (·.1) = false := by rfl)
  (s3 : starEach [e] X.env = (false, eval e X.env) :: starEach [] X.env := by rfl)
  (b2 : attributeBase (.Call (.Attribute (.Name x p) "setdefault" ap1) [k, .List [] p2] [] c1) "append" X.env (eval (.Call (.Attribute (.Name x p) "setdefault" ap1) [k, .List [] p2] [] c1) X.env) = eval (.Call (.Attribute (.Name x p) "setdefault" ap1) [k, .List [] p2] [] c1) X.env := by rfl)
  (f2 : ((backTo c2 (starEach [e] X.env)).all (fun x => !x.1) && (backToKw c2 (keywordEach [] X.env)).all (fun x => x.1.isSome) && decide ([e].length + ([] : List Keyword).length + (if ([] : List Keyword).isEmpty then 0 else 1) < 30)) = true := by rfl)
  (l2 : (ap2.endLine == c2.line) = true := by rfl) (p3 : (backTo c2 (starEach [] X.env)).any (·.1) = false := by rfl)
  (sw : swapsWith (.Call (.Attribute (.Call (.Attribute (.Name x p) "setdefault" ap1) [k, .List [] p2] [] c1) "append" ap2) [e] [] c2) none pos.line X.env = pure false := by rfl) :
  DS X (.Expr (.Call (.Attribute (.Call (.Attribute (.Name x p) "setdefault" ap1) [k, .List [] p2] [] c1) "append" ap2) [e] [] c2) pos) (zDs i gk ge) :=
 ps_mono (zD6 (zMQ (zFP PySem.F.plainAttrs_list PySem.F.slot_list_append PySem.F.type_list_append zFF
  (zMX (zIw PySem.F.slot_dict_setdefault PySem.F.type_dict_setdefault (zLV hu) (zDk hN hv hd hcd) (zBx hk (zBx (zFQ zBX) zBX s2) s1) b1 f1 l1 s1 p1)) (zBx he zBX s3) b2 f2 l2 s3 p3)) sw) fun W σ H zz => by
 obtain ⟨F₀, H₀, F, ρ, o, E, S, q, kk⟩ := zz
 unfold zDs at q
 split at q
 ·rename_i kvs e0
  obtain ⟨kd, e1, q⟩ := bnd q
  obtain ⟨ks, e2, q⟩ := bnd q
  obtain ⟨d, e3, q⟩ := bnd q
  by_cases c : (oneD i ρ && decide (kvs.length < 1000) && kvs.all fun p => decide (p.2.length < 1000)) = true
  ·rw [if_pos c] at q
   cases q
   simp only [Qw, decide_eq_true_eq, QF] at c
   obtain ⟨⟨one, ln⟩, lns⟩ := c
   obtain ⟨o', q0, a, qs, ep, rfl, m0⟩ := S.sl i _ e0
   refine ⟨.ref a, q0, ⟨a, _, ep, rfl, m0.hd⟩, F, H₀, ρ, kd, S, e1, fun F1 H1 kv E1 R1 => ⟨by simp, fun pp hp => ?_⟩⟩
   obtain ⟨b, rfl, hb⟩ := zDp R1 e2
   have S1 := S.ext E1
   obtain ⟨o', q0', a', qs', ep', ea, m⟩ := S1.sl i _ e0
   clear m0 qs ep
   rw [q0] at q0'; cases q0'; cases ea
   have E01 : Ext F₀ F1 H₀ H1 := E.trans E1
   have h0p : H₀ pp = none := E01.same.free hp
   have nfp : ¬ F1 pp := fun f => S1.fz pp f hp
   have hap : a ≠ pp := fun z => by have := m.hd; rw [z, hp] at this; cases this
   have E2 : Ext F1 F1 H1 (upd H1 pp (.lst [])) := Ext.fresh hp
   have al : ∀ q ∈ qs', H1 q.c = some (LstO q.c q.vs) /\ ¬ F1 q.c /\ H₀ q.c = none /\ SqT X.K H1 q.b (q.k.map V.int) /\ q.vs.length < 1000 := fun q hq => let ⟨kv, h1, r⟩ := Paired.memR m.ps hq; ⟨r.hc, r.nf, r.h0, r.sq, by rw [<- r.rs.length]; exact lns _ h1⟩
   have cp : ∀ q ∈ qs', q.c ≠ pp := fun q hq z => by have := (al q hq).1; rw [z, hp] at this; cases this
   have hk1 : (qs'.map Q4.ent).map (·.1) = (qs'.map (·.k)).map Sum.inl := by rw [QV, QV]; rfl
   refine ⟨a, b, qs'.map Q4.ent, ep', ks, .ref pp, rfl, rfl, Same.sqT E2.same hb, by rw [zAg hap]; exact m.hd, fun e he => ?_, by rw [hk1]; exact zFK m.nd, by rw [Qg]; exact m.ln, fun b' v' hf => ?_, fun hn ep2 => ?_⟩
   ·obtain ⟨q, hq, rfl⟩ := Qr.mp he
    exact ⟨q.k, rfl, Same.sqT E2.same (al q hq).2.2.2.1⟩
   ·-- the key is there
    have hmem := List.mem_of_find?_eq_some hf
    obtain ⟨r, hr, er⟩ := Qr.mp hmem
    have ek : r.k = ks := by have := congrArg (·.1) er; exact Sum.inl.inj this
    have ev : v' = .ref r.c := (congrArg (·.2.2) er).symm
    subst ev
    have h2c : upd H1 pp (.lst []) r.c = some (LstO r.c r.vs) := by rw [zAg (cp r hr)]; exact (al r hr).1
    have hac : a ≠ r.c := fun z => m.na (z ▸ Qr.mpr ⟨r, hr, rfl⟩)
    refine .inr ⟨r.c, r.vs, h2c, zH8 (F1 := F1) (H1 := H1) S1 e0 q0 one ((E01.trans E2).turn (al r hr).2.2.1) (E2.stay.trans (zDy (by rw [h2c]; exact ⟨fun _ z => (nomatch z), fun _ _ z => (nomatch z)⟩) (al r hr).2.1)) (fun y ws hy hf => ?_) (fun y f => ?_) zAC (al r hr).2.1 (al r hr).2.2.1 e3 (al r hr).2.2.2.2 (fun F4 H4 w E4 R4 T6 n4 => ?_) fun F' H' E' T' S' => kk F' H' σ E' (E1.stay.trans T') S'⟩
    ·have n1 : y ≠ r.c := fun z => by rw [z, (al r hr).1] at hy; cases hy
     have n2 : y ≠ pp := fun z => by rw [z, hp] at hy; cases hy
     exact ⟨by rw [zAg n1, zAg n2]; exact hy, n1⟩
    ·by_cases hy : y = r.c
     ·subst hy; rw [zAC]; simp
     ·rw [zAg hy]; exact E2.fz S1.fz y f
    ·have ots : ∀ q ∈ qs', q.k ≠ ks -> q.c ≠ r.c := fun q hq nk z => nk (by rw [zIk m.nv hq hr z]; exact ek)
     have keep : ∀ y φ, y ≠ r.c -> H1 y = some (.ext φ) -> ¬ F1 y -> upd H4 r.c (LstO r.c (r.vs ++ [w])) y = some (.ext φ) /\ ¬ F4 y := fun y φ ny hy nf => by
      have np : y ≠ pp := fun z => by rw [z, hp] at hy; cases hy
      have h3 : upd (upd H1 pp (.lst [])) r.c (.lst r.vs) y = some (.ext φ) := by rw [zAg ny, zAg np]; exact hy
      refine ⟨by rw [zAg ny]; exact E4.same _ _ h3, fun f => ?_⟩
      rcases E4.new y f with f | ⟨f, _⟩
      ·exact nf f
      ·rw [h3] at f; cases f
     have hany : (kvs.any fun p => decide (p.1 = ks)) = true := by
      rw [zFt m.ps]
      exact YJ.mpr ⟨_, Qr.mpr ⟨r, hr, rfl⟩, decide_eq_true (by rw [<- ek]; rfl)⟩
     refine ⟨qs'.map fun q => if q.k = ks then { q with vs := q.vs ++ [w] } else q, ep', ?_⟩
     have hent : (qs'.map fun q => if q.k = ks then { q with vs := q.vs ++ [w] } else q).map Q4.ent = qs'.map Q4.ent := by rw [QV]; refine Yt fun q _ => ?_; show Q4.ent (if q.k = ks then _ else q) = _; split <;> rfl
     have hk2 : (qs'.map fun q => if q.k = ks then { q with vs := q.vs ++ [w] } else q).map (·.k) = qs'.map (·.k) := by rw [QV]; refine Yt fun q _ => ?_; show (if q.k = ks then ({ q with vs := q.vs ++ [w] } : Q4) else q).k = _; split <;> rfl
     have hc2 : (qs'.map fun q => if q.k = ks then { q with vs := q.vs ++ [w] } else q).map (·.c) = qs'.map (·.c) := by rw [QV]; refine Yt fun q _ => ?_; show (if q.k = ks then ({ q with vs := q.vs ++ [w] } : Q4) else q).c = _; split <;> rfl
     refine ⟨by rw [hent]; exact (keep a _ hac m.hd m.nf).1, (keep a _ hac m.hd m.nf).2, m.h0, by rw [hk2]; exact m.nd, by rw [Qg]; exact m.ln, by rw [hc2]; exact m.nv, by rw [hc2]; exact m.na, ?_⟩
     unfold addM
     rw [if_pos hany]
     refine Paired.map2 m.ps fun kv q hq t => ?_
     by_cases eq : q.k = ks
     ·have : q = r := zIk m.nd hq hr (eq.trans ek.symm)
      subst this
      rw [if_pos eq, if_pos (t.key.trans eq)]
      exact ⟨t.key, T6.tp _ _ t.sq, zAC, n4, t.h0, (t.rs.stay T6).append (.cons (R4.stay (zDy (by rw [E4.same _ _ zAC]; exact ⟨fun _ z => (nomatch z), fun _ _ z => (nomatch z)⟩) n4)) .nil)⟩
     ·rw [if_neg eq, if_neg (fun z => eq (t.key.symm.trans z))]
      have g := keep q.c _ (ots q hq eq) t.hc t.nf
      exact ⟨t.key, T6.tp _ _ t.sq, g.1, g.2, t.h0, t.rs.stay T6⟩
   ·-- the key is new
    have hpe : putE (qs'.map Q4.ent) ks b (.ref pp) = qs'.map Q4.ent ++ [(.inl ks, b, .ref pp)] := by unfold putE; rw [if_neg (by rw [hn]; exact Qs)]
    rw [hpe]
    have h2a : upd H1 pp (.lst []) a = some (DctO a (qs'.map Q4.ent) ep') := by rw [zAg hap]; exact m.hd
    refine .inl (zH8 (F1 := F1) (H1 := H1) (c := pp) S1 e0 q0 one ((E01.trans E2).turn m.h0) (E2.stay.trans (zDy (by rw [h2a]; exact ⟨fun _ z => (nomatch z), fun _ _ z => (nomatch z)⟩) m.nf)) (fun y ws hy hf => ?_) (fun y f => ?_) (by rw [zAg (Ne.symm hap)]; exact zAC) nfp h0p e3 (by decide) (fun F4 H4 w E4 R4 T6 n4 => ?_) fun F' H' E' T' S' => kk F' H' σ E' (E1.stay.trans T') S')
    ·have n1 : y ≠ a := fun z => by rw [z, m.hd] at hy; cases hy
     have n2 : y ≠ pp := fun z => by rw [z, hp] at hy; cases hy
     exact ⟨by rw [zAg n1, zAg n2]; exact hy, n2⟩
    ·by_cases hy : y = a
     ·subst hy; rw [zAC]; simp
     ·rw [zAg hy]; exact E2.fz S1.fz y f
    ·have keep : ∀ y φ, upd (upd H1 pp (.lst [])) a (DctO a (qs'.map Q4.ent ++ [(.inl ks, b, .ref pp)]) ep2) y = some (.ext φ) -> ¬ F1 y -> upd H4 pp (LstO pp ([] ++ [w])) y = some (.ext φ) /\ ¬ F4 y := fun y φ h3 nf => by
      have np : y ≠ pp := fun z => by rw [z, zAg (Ne.symm hap), zAC] at h3; cases h3
      refine ⟨by rw [zAg np]; exact E4.same _ _ h3, fun f => ?_⟩
      rcases E4.new y f with f | ⟨f, _⟩
      ·exact nf f
      ·rw [h3] at f; cases f
     have hany : ¬ (kvs.any fun p => decide (p.1 = ks)) = true := by rw [zFt m.ps, hn]; exact Qs
     have hent : (qs' ++ [(⟨ks, b, pp, [w]⟩ : Q4)]).map Q4.ent = qs'.map Q4.ent ++ [(.inl ks, b, .ref pp)] := by rw [QS]; rfl
     have g := keep a _ zAC m.nf
     refine ⟨qs' ++ [⟨ks, b, pp, [w]⟩], ep2, by rw [hent]; exact g.1, g.2, m.h0, ?_, ?_, ?_, ?_, ?_⟩
     ·rw [QS]
      refine Jq.mpr ⟨m.nd, by simp, fun x hx y hy z => ?_⟩
      obtain ⟨q, hq, e⟩ := Qr.mp hx
      have ey : y = ks := by simpa using hy
      have : hasE (qs'.map Q4.ent) ks = true := YJ.mpr ⟨_, Qr.mpr ⟨q, hq, rfl⟩, decide_eq_true (by rw [<- ey, <- z, <- e]; rfl)⟩
      rw [hn] at this; cases this
     ·have : qs'.length = kvs.length := (Paired.length m.ps).symm
      rw [Qm, Q0]; lia
     ·rw [QS]
      refine Jq.mpr ⟨m.nv, by simp, fun x hx y hy z => ?_⟩
      obtain ⟨q, hq, e⟩ := Qr.mp hx
      have ey : y = pp := by simpa using hy
      exact cp q hq (by rw [e, z, ey])
     ·rw [QS, QC]
      rintro (h | h)
      ·exact m.na h
      ·exact hap (by simpa using h)
     ·unfold addM
      rw [if_neg hany]
      refine Paired.app (Paired.imp' (fun kv q t => t) ?_) (.cons ⟨rfl, T6.tp _ _ hb, zAC, n4, h0p, .cons (R4.stay (zDy (by rw [E4.same _ _ (show _ = some (.lst []) from by rw [zAg (Ne.symm hap)]; exact zAC)]; exact ⟨fun _ z => (nomatch z), fun _ _ z => (nomatch z)⟩) n4)) .nil⟩ .nil)
      have := Paired.map2 (R' := MEnt X.K F4 (upd H4 pp (LstO pp ([] ++ [w]))) H₀) (f := id) (g := id) m.ps fun kv q hq t => by
       have nq : q.c ≠ a := fun z => m.na (z ▸ Qr.mpr ⟨q, hq, rfl⟩)
       have g := keep q.c _ (by rw [zAg nq, zAg (cp q hq)]; exact t.hc) t.nf
       exact ⟨t.key, T6.tp _ _ t.sq, g.1, g.2, t.h0, t.rs.stay T6⟩
      simpa using this
  ·rw [if_neg c] at q; cases q
 ·cases q
noncomputable def eGet (ga gk gd : Rho -> Option D) : Rho -> Option D := fun ρ => (ga ρ).bind fun da => match da with
 | .dict kvs => (gk ρ).bind fun kd => (gd ρ).bind fun dd => (decT kd).bind fun ks => if zA1 kvs = true then some ((getD kvs ks).getD dd) else none
 | _ => none
noncomputable def rGet (K : PySem.W.Frag) : V -> List V -> Hp -> VK -> Prop := fun x xs H Q => ∃ (a b : Addr) (es : List Ent) (ep : Nat) (ks : List Int) (w : V), x = .ref a /\ xs = [.ref b, w] /\ SqT K H b (ks.map V.int) /\ H a = some (DctO a es ep) /\ (∀ e ∈ es, ∃ ks, e.1 = .inl ks /\ SqT K H e.2.1 (ks.map V.int)) /\ (es.map (·.1)).Nodup /\
 (∀ b' v', (es.find? fun e => decide (e.1 = .inl ks)) = some (.inl ks, b', v') -> Q v' H) /\ (hasE es ks = false -> Q w H)
theorem zLU (hu : X.A.units + 65 < cLine) : MtR X "dict.get" (rGet X.K) := fun pins s σ H x xs v us Q I rx rv zz => by
 obtain ⟨a, b, es, ep, ks, w, ex, exs, hb, h, hf, n, h1, h2⟩ := zz
 subst ex exs
 cases rx
 obtain ⟨u1, u2, rfl, r1, r2⟩ := Vals.two rv
 cases r1
 obtain ⟨lo, xs, dd, er⟩ := zDG I h hf n
 have hr : (TKd X.prog X.w).room X.A.in1 := show X.A.in1.units < cLine from by show X.A.units + 1 < cLine; lia
 refine call_meetsIn PySem.F.slot_dict_get dd.typeIs PySem.F.entry_dict_get (PySem.F.args_dict_get_3 _ _ _) (meetsH_dict_get_default (TKd X.prog X.w) a b lo u2) ⟨hr, ks, xs, zBz I hb, dd, ?_⟩
 cases hp : atKey xs ks with
 | some p =>
  obtain ⟨b', v', f⟩ := zHe (es := es) (ks := ks) (by rw [zBQ ks er, hp]; rfl)
  obtain ⟨p', g3, g4⟩ := zEY er f
  rw [hp] at g3; cases g3
  exact ⟨v', H, I.tok _, g4, h1 b' v' f⟩
 | none => exact ⟨w, H, I.tok _, r2, h2 (by rw [zBQ ks er, hp]; rfl)⟩
theorem getD_none {K : PySem.W.Frag} {F : Addr -> Prop} {H : Hp} {kvs : List (D × D)} {es : List Ent} (t : DReps K F H kvs es) {ks : List Int} (h : hasE es ks = false) : getD kvs ks = none := by
 rw [<- DReps.has ks t] at h
 unfold getD
 rw [Jk.mpr fun x hx z => by
  have : hasD kvs ks = true := YJ.mpr ⟨x, hx, z⟩
  rw [h] at this; cases this]
 rfl
theorem zKt {ap cp : Pos} (hu : X.A.units + 65 < cLine) (ho : DE X o ga) (hk : DE X k gk) (hd : DE X d gd) (s1 : starEach [k, d] X.env = (false, eval k X.env) :: starEach [d] X.env := by rfl) (s2 : starEach [d] X.env = (false, eval d X.env) :: starEach [] X.env := by rfl)
  (b1 : attributeBase o "get" X.env (eval o X.env) = eval o X.env := by rfl)
  (f1 : ((backTo cp (starEach [k, d] X.env)).all (fun x => !x.1) && (backToKw cp (keywordEach [] X.env)).all (fun x => x.1.isSome) && decide ([k, d].length + ([] : List Keyword).length + (if ([] : List Keyword).isEmpty then 0 else 1) < 30)) = true := by rfl)
  (l1 : (ap.endLine == cp.line) = true := by rfl) (p1 : (backTo cp (starEach [d] X.env)).any (·.1) = false := by rfl) : DE X (.Call (.Attribute o "get" ap) [k, d] [] cp) (eGet ga gk gd) :=
 zAQ (zIw PySem.F.slot_dict_get PySem.F.type_dict_get (zLU hu) ho (zBx hk (zBx hd zBX s2) s1) b1 f1 l1 s1 p1) fun σ H Q zz => by
 obtain ⟨F, H₀, ρ, r, S, q, kk⟩ := zz
 obtain ⟨da, e0, q⟩ := bnd q
 split at q
 ·rename_i kvs
  obtain ⟨kd, e1, q⟩ := bnd q
  obtain ⟨dd, e2, q⟩ := bnd q
  obtain ⟨ks, e3, q⟩ := bnd q
  by_cases fl : zA1 kvs = true
  ·rw [if_pos fl] at q
   cases q
   refine ⟨F, H₀, ρ, _, S, e0, fun F1 H1 v E1 R1 => ?_⟩
   generalize hdd : PyData.dict kvs = d0 at R1
   cases R1 with
   | @dct a es kvs' ep f h n l t =>
    cases hdd
    refine ⟨⟨a, es, ep, rfl, h⟩, F1, H₀, ρ, kd, S.ext E1, e1, fun F2 H2 kv E2 R2 => ⟨F2, H₀, ρ, dd, (S.ext E1).ext E2, e2, fun F3 H3 dv E3 R3 => ?_⟩⟩
    obtain ⟨b, rfl, hb⟩ := zDp R2 e3
    have E13 := E2.trans E3
    have t3 := t.stay (K := X.K) E13.stay
    refine ⟨a, b, es, ep, ks, dv, rfl, rfl, Same.sqT E3.same hb, E13.same _ _ h, DReps.flat t3 fl, n, fun b' v' hf => ?_, fun hn => ?_⟩
    ·cases hg : getD kvs ks with
     | none =>
      have : hasD kvs ks = true := by
       rw [DReps.has ks t3]
       exact YJ.mpr ⟨_, List.mem_of_find?_eq_some hf, decide_eq_true rfl⟩
      obtain ⟨x, hx, z⟩ := YJ.mp this
      unfold getD at hg
      rw [Option.map_eq_none_iff] at hg
      exact absurd z (Jk.mp hg x hx)
     | some r =>
      obtain ⟨b2, v2, g1, g2⟩ := DReps.get ks t3 hg
      rw [hf] at g1; cases g1
      exact kk F3 H3 _ (E1.trans E13) (by rw [hg]; exact g2)
    ·exact kk F3 H3 _ (E1.trans E13) (by rw [getD_none t3 hn]; exact R3)
   | exn f h n =>
    exfalso
    cases hdd
    cases fl
   | _ => cases hdd
  ·rw [if_neg fl] at q; cases q
 ·cases q
end
end DC
namespace DL
open PySem PySem.Spec PySem.SeqAt PyProof.Rows L2 CL
theorem StOk.putOwn2 {K : PySem.W.Frag} {F : Addr -> Prop} {H H₀ : Hp} {σ : L2.St} {ρ : List Sl} (S : StOk K F H H₀ σ ρ) {i : Nat} {ds : List D} {vs : List V} {p : Addr} (hp : H p = some (.lst vs)) (nf : ¬ F p) (h0 : H₀ p = none) (r : Reps K F H ds vs)
  (sep : ∀ (m : Nat) (es : List D), ρ[m]? = some (.own es) -> σ[m]? ≠ some (some (.ref p))) : StOk K F H H₀ (σ.set i (some (.ref p))) (ρ.set i (.own ds)) := by
 refine ⟨by simp [S.len], fun j s h => ?_, fun j k a ds' es hjk h1 h2 h3 h4 => ?_, S.fz⟩
 ·by_cases hij : i = j
  ·subst hij
   have hl : i < ρ.length := by simpa using (Qe.mp h).1
   rw [QA hl] at h
   cases h
   exact ⟨some (.ref p), by rw [QA (by rw [S.len]; exact hl)], p, vs, rfl, hp, nf, h0, r⟩
  ·rw [Qu hij] at h
   obtain ⟨o, q, w⟩ := S.sl j s h
   exact ⟨o, by rw [Qu hij]; exact q, w⟩
 ·by_cases hij : i = j
  ·subst hij
   have hl : i < ρ.length := by simpa using (Qe.mp h1).1
   rw [QA (by rw [S.len]; exact hl)] at h3
   cases h3
   rw [Qu hjk] at h2 h4
   exact sep k es h2 h4
  ·by_cases hik : i = k
   ·subst hik
    have hl : i < ρ.length := by simpa using (Qe.mp h2).1
    rw [QA (by rw [S.len]; exact hl)] at h4
    cases h4
    rw [Qu hij] at h1 h3
    exact sep j ds' h1 h3
   ·rw [Qu hij] at h1 h3
    rw [Qu hik] at h2 h4
    exact S.sep j k a ds' es hjk h1 h2 h3 h4
section
variable {X : Cx} {elt tg iter : Expr} {ifs : List Expr} {scope : Scope} {pos : Pos} {N' : List Str} {inner : List (Option Nat)} {gi : Rho -> Option (List D)} {s : D -> Rho -> Option Rho} {t : Rho -> Option Bool} {ge : Rho -> Option D}
theorem zKK {i : Nat} {y : Str} {py spos : Pos} (hN : X.N.Nodup) (hc : X.calm = true) (CS : zBB X N' scope inner) (kp : zCr s) (hi : DI X tg iter gi) (hg : ∀ cl C fp s' H, DG (inCx X N' scope cl C fp s' H) tg s) (ht : ∀ cl C fp s' H, DTs (inCx X N' scope cl C fp s' H) ifs t) (he : ∀ cl C fp s' H, DE (inCx X N' scope cl C fp s' H) elt ge)
  (hsw : swapsWith (.ListComp elt [⟨tg, iter, ifs, 0⟩] scope pos) (some (.Name y py)) spos.line X.env = pure true := by rfl) (hy : X.N[i]? = some y := by rfl) (hx : L2.Loc X.env.scope y := by first | exact Or.inl rfl | exact Or.inr rfl) (hf : X.fn y = true ∨ X.env.scope.names.lookup y = some .local := by first | exact .inl rfl | exact .inr rfl | assumption)
  (hs : ∀ x, foldedSetIterable iter X.env x = pure x := by intro _; rfl) : DS X (.Assign [.Name y py] (.ListComp elt [⟨tg, iter, ifs, 0⟩] scope pos) spos) (sOwn i (zAx gi s t ge inner)) :=
 ps_mono (zIF (g := tDG X.K s) (ti := tDT X.K t) (te := tD X.K ge) hN hc CS hi (fun cl C fp s' H => hg cl C fp s' H) (fun cl C fp s' H => ht cl C fp s' H) (fun cl C fp s' H => he cl C fp s' H) hsw hy hx hf hs) fun W σ H zz => by
  obtain ⟨F₀, H₀, F, ρ, o, E, S, q, k⟩ := zz
  obtain ⟨out, e2, q⟩ := bnd q
  by_cases hl : out.length <= 1000
  ·rw [if_pos hl] at q
   cases q
   refine zDD kp S e2 fun F' H' D' vs E' T' h1 h2 h3 h4 h5 => ?_
   refine k _ H' _ (E.trans E') T' (h5.putOwn2 h2 h3 (E.same.free h1) h4 fun m es g1 g2 => ?_)
   obtain ⟨b, us, q1, q2, _⟩ := S.own g1
   rw [q1] at g2; cases g2
   rw [h1] at q2; cases q2
  ·rw [if_neg hl] at q; cases q
end
end DL
namespace My
open PySem PySem.Spec PySem.SeqAt PyProof.Rows L2 CL DL SD ZL SL EL DC
noncomputable def top (i : Nat) : Stmt := PySem.Challenge.pw_lampfloor_k31_whole_solid.main.body.getD i (.Pass ⟨0, 0, 0, 0⟩)
structure Fo (K : PySem.W.Frag) (mg : Str -> Option Value) (n : Str) (st : Stmt) (ps : List Str) (a : Addr) (d : FuncData) : Prop where
 F : Fun K n n st a d
 m : mg n = some (.ref a)
 b : L2.Binds K d ps []
theorem fsc {N P : List Str} {sc : Scope} (h : (sc.kind, sc.isCoroutine, sc.isGenerator, N.take P.length) = (.function, false, false, P)) (q : N.Nodup /\ (∀ x ∈ P, sc.names.lookup x = some .local ∨ sc.names.lookup x = some .cell) /\ ∀ y ∈ sc.names, y.2 ≠ .free) : zAq N P sc := by
 injection h with h1 h
 injection h with h2 h
 injection h with h3 h4
 exact ⟨h1, h2, h3, q.1, h4, q.2.1, q.2.2⟩
theorem dac {X : Cx} {e : Expr} {es : List Expr} {ga : Rho -> Option D} {gr : Rho -> Option (List D)} (ha : DE X e ga) (hr : DA X es gr) (h : zFS e = true) : DA X (e :: es) (zAc ga gr) := zKq ha hr h
theorem dtp {X : Cx} {es : List Expr} {gr : Rho -> Option (List D)} {x1 pos} (h : DA X es gr) : DE X (.Tuple es x1 pos) (eTup gr) := zKv h
theorem dcl {X : Cx} {e : Expr} {es : List Expr} {gr : Rho -> Option (List D)} {p pos : Pos} {k m n : Nat} {f : Addr} {fd : FuncData} {ps : List Str} {st : Stmt} {x : Str} {G : List D -> Option D} (F : Fo X.K X.mg x st ps f fd) (Gx : FnOk X.prog X.w X.K X.mg X.base CX0 k f fd ps (spD X.K n G)) (hr : Room m X.A) (hg : Gl X x)
  (ha : DA X (e :: es) gr) (hln : ∀ ρ ds, gr ρ = some ds -> ds.length = n) (hkm : k <= m := by decide) (hdb : (x == ("__debug__" : Str)) = false := by decide) (he : starEach (e :: es) X.env = (false, eval e X.env) :: starEach es X.env := by rfl) (hpl : (backTo pos (starEach es X.env)).any (·.1) = false := by rfl) : DE X (.Call (.Name x p) (e :: es) [] pos) (zAf G gr) := zKr Gx (hr.mono hkm) hg F.m F.F.kp F.b ha hln hdb he hpl
theorem ln0 : ∀ (ρ : Rho) (ds : List D), eNil ρ = some ds -> ds.length = 0 := fun _ _ h => zKS h
section
variable {a b c d e f : Rho -> Option D}
theorem ln1 : ∀ (ρ : Rho) (ds : List D), zAc a eNil ρ = some ds -> ds.length = 1 := zDK ln0
theorem ln2 : ∀ (ρ : Rho) (ds : List D), zAc a (zAc b eNil) ρ = some ds -> ds.length = 2 := zDK ln1
theorem ln3 : ∀ (ρ : Rho) (ds : List D), zAc a (zAc b (zAc c eNil)) ρ = some ds -> ds.length = 3 := zDK ln2
theorem ln4 : ∀ (ρ : Rho) (ds : List D), zAc a (zAc b (zAc c (zAc d eNil))) ρ = some ds -> ds.length = 4 := zDK ln3
end
abbrev s_ql : Stmt := top 6
abbrev s_qi : Stmt := top 12
abbrev s_qs : Stmt := top 14
abbrev s_qp : Stmt := top 18
abbrev s_q3 : Stmt := top 19
abbrev s_q6 : Stmt := top 30
abbrev s_qh : Stmt := top 33
abbrev s_qd : Stmt := top 36
abbrev s_q1 : Stmt := top 7
abbrev s_qc : Stmt := top 13
abbrev s_qr : Stmt := top 20
abbrev s_qf : Stmt := top 22
abbrev s_qm : Stmt := top 28
abbrev s_qa : Stmt := top 34
abbrev s_qj : Stmt := top 37
abbrev s_qq : Stmt := top 8
abbrev s_q7 : Stmt := top 23
abbrev s_qb : Stmt := top 31
abbrev s_qg : Stmt := top 35
abbrev s_qe : Stmt := top 39
abbrev s_q0 : Stmt := top 9
abbrev s_qn : Stmt := top 10
abbrev s_q9 : Stmt := top 15
abbrev s_q4 : Stmt := top 16
abbrev s_q2 : Stmt := top 11
abbrev s_q5 : Stmt := top 24
abbrev s_qo : Stmt := top 29
abbrev s_qk : Stmt := top 25
abbrev s_q8 : Stmt := top 26
abbrev s_qt : Stmt := top 40
noncomputable def N_ql : List Str := ["thing"]
theorem sc_ql : zAq N_ql ["thing"] (zAh s_ql) := fsc rfl (by decide +kernel)
noncomputable def zHy : Rho -> Option Out :=
  (sRet (zCC (eIs "int" (eV 0)) (zG7 (eIs "bool" (eV 0)))))
noncomputable def zCn : List D -> Option D := fnD 1 zHy
noncomputable def N_qi : List Str := ["floor", "cells", "x"]
theorem zF6 : zAq N_qi ["floor"] (zAh s_qi) := fsc rfl (by decide +kernel)
noncomputable def zGs : List Str := ["y", "x"]
theorem zL9 : zGs.Nodup := by decide +kernel
noncomputable def zFb : Rho -> Option Out :=
  (sSeq (sOwn 1 eNil)
  (sSeq (sFor (zBb (zAc (eOp dIx (eV 0) (eC (.int 0))) eNil)) (zAo 2) (sExt 1 (eLc (zAx (zBb (zAc (eOp dIx (eV 0) (eC (.int 1))) eNil)) (zAo 0) eT (eTup (zAc (eV 1) (zAc (eV 0) eNil))) [none, some 2]))))
  (sRet (eV 1))))
noncomputable def zCS : List D -> Option D := fnD 3 zFb
noncomputable def N_qs : List Str := ["things"]
theorem sc_qs : zAq N_qs ["things"] (zAh s_qs) := fsc rfl (by decide +kernel)
noncomputable def zGv : List Str := ["thing"]
theorem zMc : zGv.Nodup := by decide +kernel
noncomputable def zHA : Rho -> Option Out :=
  (sRet (zAf zEE (zAc (eLc (zAx (iSeq (eV 0)) (zAo 0) eT (eTup (zAc (eV 0) (zAc (eC (.bool true)) eNil))) [none])) eNil)))
noncomputable def zA8 : List D -> Option D := fnD 1 zHA
noncomputable def N_qp : List Str := ["one", "other", "far_x", "far_y", "way_x", "way_y", "gone_x", "gone_y", "cells", "border_x", "border_y"]
theorem zBm : zAq N_qp ["one", "other"] (zAh s_qp) := fsc rfl (by decide +kernel)
noncomputable def zFf : Rho -> Option Out :=
  (sSeq (sSet 2 (zAf dAbs (zAc (eOp dSub (eOp dIx (eV 1) (eC (.int 0))) (eOp dIx (eV 0) (eC (.int 0)))) eNil)))
  (sSeq (sSet 3 (zAf dAbs (zAc (eOp dSub (eOp dIx (eV 1) (eC (.int 1))) (eOp dIx (eV 0) (eC (.int 1)))) eNil)))
  (sSeq (sSet 4 (eIf (eB (eOp dGt (eOp dIx (eV 1) (eC (.int 0))) (eOp dIx (eV 0) (eC (.int 0))))) (eC (.int 1)) (eUn dNeg (eC (.int 1)))))
  (sSeq (sSet 5 (eIf (eB (eOp dGt (eOp dIx (eV 1) (eC (.int 1))) (eOp dIx (eV 0) (eC (.int 1))))) (eC (.int 1)) (eUn dNeg (eC (.int 1)))))
  (sSeq (sSet 6 (eC (.int 0)))
  (sSeq (sSet 7 (eC (.int 0)))
  (sSeq (sOwn 8 (zAc (eV 0) eNil))
  (sSeq (zB0 (eOr (eB (eOp dLt2 (eV 6) (eV 2))) (eB (eOp dLt2 (eV 7) (eV 3)))) (sSeq (sSet 9 (eOp zAt (eOp zAy (eOp zAt (eC (.int 2)) (eV 6)) (eC (.int 1))) (eV 3)))
  (sSeq (sSet 10 (eOp zAt (eOp zAy (eOp zAt (eC (.int 2)) (eV 7)) (eC (.int 1))) (eV 2)))
  (sSeq (sIf (eB (eOp dLe (eV 9) (eV 10))) (sSet 6 (eOp zAy (eV 6) (eC (.int 1)))) zAG)
  (sSeq (sIf (eB (eOp dLe (eV 10) (eV 9))) (sSet 7 (eOp zAy (eV 7) (eC (.int 1)))) zAG)
  (sApp 8 (eTup (zAc (eOp zAy (eOp dIx (eV 0) (eC (.int 0))) (eOp zAt (eV 4) (eV 6))) (zAc (eOp zAy (eOp dIx (eV 0) (eC (.int 1))) (eOp zAt (eV 5) (eV 7))) eNil)))))))) 900)
  (sRet (eV 8))))))))))
noncomputable def zBn : List D -> Option D := fnD 11 zFf
noncomputable def N_q3 : List Str := ["cells", "couples", "here", "there"]
theorem zEb : zAq N_q3 ["cells"] (zAh s_q3) := fsc rfl (by decide +kernel)
noncomputable def zFd : Rho -> Option Out :=
  (sSeq (sOwn 1 eNil)
  (sSeq (sFor (iZip (zAc (eV 0) (zAc (eSl2 (eV 0) (oE (eC (.int 1))) oNo) eNil))) (uTup 2 (zBM (zAo 2) (zBM (zAo 3) uNil))) (sIf (eAnd (eB (eOp dNe (eOp dIx (eV 2) (eC (.int 0))) (eOp dIx (eV 3) (eC (.int 0))))) (eB (eOp dNe (eOp dIx (eV 2) (eC (.int 1))) (eOp dIx (eV 3) (eC (.int 1)))))) (sApp 1 (zAf zCv (zAc (zAf zBE (zAc (eLst (zAc (eTup (zAc (eOp dIx (eV 2) (eC (.int 0))) (zAc (eOp dIx (eV 3) (eC (.int 1))) eNil))) (zAc (eTup (zAc (eOp dIx (eV 3) (eC (.int 0))) (zAc (eOp dIx (eV 2) (eC (.int 1))) eNil))) eNil))) eNil)) eNil))) zAG))
  (sRet (eV 1))))
noncomputable def zBv : List D -> Option D := fnD 4 zFd
noncomputable def N_q6 : List Str := ["cells", "couples", "number", "one"]
theorem zEc : zAq N_q6 ["cells"] (zAh s_q6) := fsc rfl (by decide +kernel)
noncomputable def zGk : List Str := ["other", "one"]
theorem zL0 : zGk.Nodup := by decide +kernel
noncomputable def zFc : Rho -> Option Out :=
  (sSeq (sOwn 1 eNil)
  (sSeq (sFor (zDb (zAc (eV 0) eNil)) (uTup 2 (zBM (zAo 2) (zBM (zAo 3) uNil))) (sExt 1 (eLc (zAx (iSeq (eSl2 (eV 0) (oE (eOp zAy (eV 2) (eC (.int 1)))) oNo)) (zAo 0) eT (eTup (zAc (eV 1) (zAc (eV 0) eNil))) [none, some 3]))))
  (sRet (eV 1))))
noncomputable def zCT : List D -> Option D := fnD 4 zFc
noncomputable def N_qh : List Str := ["_law_script", "_law_k"]
theorem sc_qh : zAq N_qh ["_law_script", "_law_k"] (zAh s_qh) := fsc rfl (by decide +kernel)
noncomputable def zHs : Rho -> Option Out :=
  (sSeq (sIf (eB (eOp dEq (eV 0) (eLst eNil))) (sRet (eOp zAt (eC (.int 7)) (eV 1))) zAG)
  (sRet (eOp zAy (eOp dIx (eV 0) (eOp dMod (eV 1) (zAf dLen (zAc (eV 0) eNil)))) (eOp zAt (eC (.int 6553)) (eOp zBD (eV 1) (zAf dLen (zAc (eV 0) eNil)))))))
noncomputable def zCQ : List D -> Option D := fnD 2 zHs
noncomputable def N_qd : List Str := ["_law_floor_here"]
theorem sc_qd : zAq N_qd ["_law_floor_here"] (zAh s_qd) := fsc rfl (by decide +kernel)
noncomputable def zGo : List Str := ["_law_at", "_law_floor_here"]
theorem zL5 : zGo.Nodup := by decide +kernel
noncomputable def zHt : Rho -> Option Out :=
  (sRet (eLc (zAx (zBb (zAc (eOp zAt (eOp dIx (eV 0) (eC (.int 0))) (eOp dIx (eV 0) (eC (.int 1)))) eNil)) (zAo 0) eT (eTup (zAc (eOp zBD (eV 0) (eOp dIx (eV 1) (eC (.int 1)))) (zAc (eOp dMod (eV 0) (eOp dIx (eV 1) (eC (.int 1)))) eNil))) [none, some 0])))
noncomputable def zB1 : List D -> Option D := fnD 1 zHt
noncomputable def N_q1 : List Str := ["thing"]
theorem sc_q1 : zAq N_q1 ["thing"] (zAh s_q1) := fsc rfl (by decide +kernel)
noncomputable def zHz : Rho -> Option Out :=
  (sSeq (sIf (eOr (eNot (eB (eIs "tuple" (eV 0)))) (eB (eOp dNe (zAf dLen (zAc (eV 0) eNil)) (eC (.int 2))))) (sRet (eC (.bool false))) zAG)
  (sRet (zCC (zAf zCn (zAc (eOp dIx (eV 0) (eC (.int 0))) eNil)) (zAf zCn (zAc (eOp dIx (eV 0) (eC (.int 1))) eNil)))))
noncomputable def zCX : List D -> Option D := fnD 1 zHz
noncomputable def N_qc : List Str := ["floor"]
theorem sc_qc : zAq N_qc ["floor"] (zAh s_qc) := fsc rfl (by decide +kernel)
noncomputable def zHC : Rho -> Option Out :=
  (sRet (zCa (zEV (eSet (zAc (zAf zCS (zAc (eV 0) eNil)) eNil)) (eSet (zAc (eOp dIx (eV 0) (eC (.int 2))) eNil)))))
noncomputable def zBo : List D -> Option D := fnD 1 zHC
noncomputable def N_qr : List Str := ["one", "other"]
theorem sc_qr : zAq N_qr ["one", "other"] (zAh s_qr) := fsc rfl (by decide +kernel)
noncomputable def zHD : Rho -> Option Out :=
  (sRet (zAf zBv (zAc (zAf zBn (zAc (eV 0) (zAc (eV 1) eNil))) eNil)))
noncomputable def zCY : List D -> Option D := fnD 2 zHD
noncomputable def N_qf : List Str := ["solids", "one", "other", "cells", "groups", "couple"]
theorem zEd : zAq N_qf ["solids", "one", "other"] (zAh s_qf) := fsc rfl (by decide +kernel)
noncomputable def zGq : List Str := ["cell", "solids"]
theorem zL7 : zGq.Nodup := by decide +kernel
noncomputable def zFi : Rho -> Option Out :=
  (sSeq (sSet 3 (zAf zBn (zAc (eV 1) (zAc (eV 2) eNil))))
  (sSeq (sOwn 4 (zAx (iSeq (eV 3)) (zAo 0) (eB (eOp (dIn2 false) (eV 0) (eV 1))) (eTup (zAc (eV 0) eNil)) [none, some 0]))
  (sSeq (sFor (iSeq (zAf zBv (zAc (eV 3) eNil))) (zAo 5) (sIf (eAnd (eB (eOp (dIn2 false) (eOp dIx (eV 5) (eC (.int 0))) (eV 0))) (eB (eOp (dIn2 false) (eOp dIx (eV 5) (eC (.int 1))) (eV 0)))) (sApp 4 (eV 5)) zAG))
  (sRet (eV 4)))))
noncomputable def zCU : List D -> Option D := fnD 6 zFi
noncomputable def N_qm : List Str := ["solids", "one", "other", "cells", "cell", "first", "second"]
theorem zDu : zAq N_qm ["solids", "one", "other"] (zAh s_qm) := fsc rfl (by decide +kernel)
noncomputable def zFk : Rho -> Option Out :=
  (sSeq (sSet 3 (zAf zBn (zAc (eV 1) (zAc (eV 2) eNil))))
  (sSeq (sFor (iSeq (eSl2 (eV 3) oNo (oE (eUn dNeg (eC (.int 1)))))) (zAo 4) (sIf (eB (eOp (dIn2 false) (eV 4) (eV 0))) (sRet (eC (.bool false))) zAG))
  (sSeq (sFor (iSeq (zAf zBv (zAc (eV 3) eNil))) (uTup 2 (zBM (zAo 5) (zBM (zAo 6) uNil))) (sIf (eAnd (eB (eOp (dIn2 false) (eV 5) (eV 0))) (eB (eOp (dIn2 false) (eV 6) (eV 0)))) (sRet (eC (.bool false))) zAG))
  (sRet (eC (.bool true))))))
noncomputable def zB3 : List D -> Option D := fnD 7 zFk
noncomputable def N_qa : List Str := ["_law_script", "_law_k", "_law_many", "_law_cell_here"]
theorem zF5 : zAq N_qa ["_law_script", "_law_k", "_law_many"] (zAh s_qa) := fsc rfl (by decide +kernel)
noncomputable def zHu : Rho -> Option Out :=
  (sSeq (sSet 3 (eOp dMod (eOp zAy (eOp zAt (eOp dMod (zAf zCQ (zAc (eV 0) (zAc (eV 1) eNil))) (eC (.int 2147483563))) (eC (.int 69069))) (eOp zAt (eC (.int 104723)) (eOp zAy (eV 1) (eC (.int 1))))) (eC (.int 2147483563))))
  (sSeq (sSet 3 (eOp dMod (eOp zAy (eOp zAt (eV 3) (eV 3)) (eOp zBD (eV 3) (eC (.int 3)))) (eC (.int 2147483399))))
  (sRet (eOp dMod (eOp zBD (eOp dMod (eOp zAy (eOp zAt (eV 3) (eV 3)) (eOp zBD (eV 3) (eC (.int 7)))) (eC (.int 2147483647))) (eC (.int 11))) (eV 2)))))
noncomputable def zAZ : List D -> Option D := fnD 4 zHu
noncomputable def N_qj : List Str := ["_law_floor_here"]
theorem sc_qj : zAq N_qj ["_law_floor_here"] (zAh s_qj) := fsc rfl (by decide +kernel)
noncomputable def zGt : List Str := ["_law_cell_here", "_law_floor_here"]
theorem zMa : zGt.Nodup := by decide +kernel
noncomputable def zHv : Rho -> Option Out :=
  (sRet (eLc (zAx (iSeq (zAf zB1 (zAc (eV 0) eNil))) (zAo 0) (eB (eOp (dIn true) (eV 0) (eOp dIx (eV 1) (eC (.int 2))))) (eV 0) [none, some 0])))
noncomputable def zCR : List D -> Option D := fnD 1 zHv
noncomputable def N_qq : List Str := ["floor", "thing"]
theorem sc_qq : zAq N_qq ["floor", "thing"] (zAh s_qq) := fsc rfl (by decide +kernel)
noncomputable def zHw : Rho -> Option Out :=
  (sSeq (sIf (eNot (eB (zAf zCX (zAc (eV 1) eNil)))) (sRet (eC (.bool false))) zAG)
  (sRet (zCC (zDJ dLe dLt2 (eC (.int 0)) (eOp dIx (eV 1) (eC (.int 0))) (eOp dIx (eV 0) (eC (.int 0)))) (zDJ dLe dLt2 (eC (.int 0)) (eOp dIx (eV 1) (eC (.int 1))) (eOp dIx (eV 0) (eC (.int 1)))))))
noncomputable def zCW : List D -> Option D := fnD 2 zHw
noncomputable def N_q7 : List Str := ["solids", "one", "other", "groups"]
theorem zIT : zAq N_q7 ["solids", "one", "other"] (zAh s_q7) := fsc rfl (by decide +kernel)
noncomputable def zEt : List Str := ["wall", "groups"]
theorem zL1 : zEt.Nodup := by decide +kernel
noncomputable def zGl : List Str := ["group", "wall"]
theorem zL2 : zGl.Nodup := by decide +kernel
noncomputable def zFp : Rho -> Option Out :=
  (sSeq (sSet 3 (zAf zCU (zAc (eV 0) (zAc (eV 1) (zAc (eV 2) eNil)))))
  (sSeq (sIf (eB (eOp dEq (eV 3) (eLst eNil))) (sRet (eLst eNil)) zAG)
  (sRet (eLc (zAx (iSeq (eOp dIx (eV 3) (eC (.int 0)))) (zAo 0) (eB (zAf dAll (zAc (eLc (zAx (iSeq (eV 1)) (zAo 0) eT (eOp (dIn false) (eV 1) (eV 0)) [none, some 0])) eNil))) (eV 0) [none, some 3])))))
noncomputable def zCo : List D -> Option D := fnD 4 zFp
noncomputable def N_qb : List Str := ["floor", "solids"]
theorem zIV : zAq N_qb ["floor"] (zAh s_qb) := fsc rfl (by decide +kernel)
noncomputable def zGn : List Str := ["couple", "solids"]
theorem zL4 : zGn.Nodup := by decide +kernel
noncomputable def zFe : Rho -> Option Out :=
  (sSeq (sSet 1 (zAf zA8 (zAc (eOp dIx (eV 0) (eC (.int 2))) eNil)))
  (sRet (eLc (zAx (iSeq (zAf zCT (zAc (zAf zBo (zAc (eV 0) eNil)) eNil))) (zAo 0) (eB (zAf zB3 (zAc (eV 1) (zAc (eOp dIx (eV 0) (eC (.int 0))) (zAc (eOp dIx (eV 0) (eC (.int 1))) eNil))))) (eV 0) [none, some 1]))))
noncomputable def zBw : List D -> Option D := fnD 2 zFe
noncomputable def N_qg : List Str := ["_law_script", "_law_at", "_law_most", "_law_wide", "_law_high", "_law_rate", "_law_shuts", "_law_x"]
theorem zCM : zAq N_qg ["_law_script", "_law_at", "_law_most"] (zAh s_qg) := fsc rfl (by decide +kernel)
noncomputable def zGr : List Str := ["_law_y", "_law_x", "_law_script", "_law_rate", "_law_at"]
theorem zL8 : zGr.Nodup := by decide +kernel
noncomputable def zE9 : Rho -> Option Out :=
  (sSeq (sSet 3 (eOp zAy (eC (.int 1)) (zAf zAZ (zAc (eV 0) (zAc (eV 1) (zAc (eV 2) eNil))))))
  (sSeq (sSet 4 (eOp zAy (eC (.int 1)) (zAf zAZ (zAc (eV 0) (zAc (eOp zAy (eV 1) (eC (.int 1))) (zAc (eV 2) eNil))))))
  (sSeq (sSet 5 (eOp dIx (eLst (zAc (eC (.int 2)) (zAc (eC (.int 3)) (zAc (eC (.int 3)) (zAc (eC (.int 5)) (zAc (eC (.int 9)) eNil)))))) (zAf zAZ (zAc (eV 0) (zAc (eOp zAy (eV 1) (eC (.int 2))) (zAc (eC (.int 5)) eNil))))))
  (sSeq (sOwn 6 eNil)
  (sSeq (sFor (zBb (zAc (eV 3) eNil)) (zAo 7) (sExt 6 (eLc (zAx (zBb (zAc (eV 4) eNil)) (zAo 0) (eB (eOp dEq (zAf zAZ (zAc (eV 2) (zAc (eOp zAy (eOp zAy (eOp zAy (eV 4) (eC (.int 3))) (eOp zAt (eC (.int 8)) (eV 1))) (eV 0)) (zAc (eV 3) eNil)))) (eC (.int 0)))) (eTup (zAc (eV 1) (zAc (eV 0) eNil))) [none, some 7, some 0, some 5, some 1]))))
  (sRet (eTup (zAc (eV 3) (zAc (eV 4) (zAc (zAf zCv (zAc (eV 6) eNil)) eNil))))))))))
noncomputable def zCk : List D -> Option D := fnD 8 zE9
noncomputable def N_qe : List Str := ["_law_couple", "_law_cell_here"]
theorem sc_qe : zAq N_qe ["_law_couple", "_law_cell_here"] (zAh s_qe) := fsc rfl (by decide +kernel)
noncomputable def zGp : List Str := ["_law_both", "_law_cell_here"]
theorem zL6 : zGp.Nodup := by decide +kernel
noncomputable def zFa : Rho -> Option Out :=
  (sSeq (sIf (eB (eOp (dIn false) (eV 1) (zAf zBn (zAc (eOp dIx (eV 0) (eC (.int 0))) (zAc (eOp dIx (eV 0) (eC (.int 1))) eNil))))) (sRet (eC (.bool true))) zAG)
  (sRet (eOp dNe (eLc (zAx (iSeq (zAf zCY (zAc (eOp dIx (eV 0) (eC (.int 0))) (zAc (eOp dIx (eV 0) (eC (.int 1))) eNil)))) (zAo 0) (eB (eOp (dIn false) (eV 1) (eV 0))) (eV 0) [none, some 1])) (eLst eNil))))
noncomputable def zCl : List D -> Option D := fnD 2 zFa
noncomputable def N_q0 : List Str := ["floor", "cell"]
theorem sc_q0 : zAq N_q0 ["floor", "cell"] (zAh s_q0) := fsc rfl (by decide +kernel)
noncomputable def zHF : Rho -> Option Out :=
  (sIf (eNot (eB (zAf zCW (zAc (eV 0) (zAc (eV 1) eNil))))) (fun _ => none) zAG)
noncomputable def zBC : List D -> Option D := fnD 2 zHF
noncomputable def N_qn : List Str := ["floor", "cell"]
theorem sc_qn : zAq N_qn ["floor", "cell"] (zAh s_qn) := fsc rfl (by decide +kernel)
noncomputable def zHx : Rho -> Option Out :=
  (sSeq (zBY (zAf zBC (zAc (eV 0) (zAc (eV 1) eNil))))
  (sRet (eOp (dIn false) (eV 1) (eOp dIx (eV 0) (eC (.int 2))))))
noncomputable def zBO : List D -> Option D := fnD 2 zHx
noncomputable def N_q9 : List Str := ["floor", "cell"]
theorem sc_q9 : zAq N_q9 ["floor", "cell"] (zAh s_q9) := fsc rfl (by decide +kernel)
noncomputable def zFq : Rho -> Option Out :=
  (sSeq (zBY (zAf zBC (zAc (eV 0) (zAc (eV 1) eNil))))
  (sRet (eTup (zAc (eOp dIx (eV 0) (eC (.int 0))) (zAc (eOp dIx (eV 0) (eC (.int 1))) (zAc (zAf zCv (zAc (zCa (eSet (zAc (eOp zAy (eOp dIx (eV 0) (eC (.int 2))) (eTup (zAc (eV 1) eNil))) eNil))) eNil)) eNil))))))
noncomputable def zCZ : List D -> Option D := fnD 2 zFq
noncomputable def N_q4 : List Str := ["floor", "cell"]
theorem sc_q4 : zAq N_q4 ["floor", "cell"] (zAh s_q4) := fsc rfl (by decide +kernel)
noncomputable def zGj : List Str := ["wall", "cell"]
theorem zLZ : zGj.Nodup := by decide +kernel
noncomputable def zFr : Rho -> Option Out :=
  (sSeq (zBY (zAf zBC (zAc (eV 0) (zAc (eV 1) eNil))))
  (sRet (eTup (zAc (eOp dIx (eV 0) (eC (.int 0))) (zAc (eOp dIx (eV 0) (eC (.int 1))) (zAc (zAf zCv (zAc (eLc (zAx (iSeq (eOp dIx (eV 0) (eC (.int 2)))) (zAo 0) (eB (eOp dNe (eV 0) (eV 1))) (eV 0) [none, some 1])) eNil)) eNil))))))
noncomputable def zCp : List D -> Option D := fnD 2 zFr
noncomputable def N_q2 : List Str := ["floor", "cell"]
theorem sc_q2 : zAq N_q2 ["floor", "cell"] (zAh s_q2) := fsc rfl (by decide +kernel)
noncomputable def zHE : Rho -> Option Out :=
  (sIf (eB (zAf zBO (zAc (eV 0) (zAc (eV 1) eNil)))) (fun _ => none) zAG)
noncomputable def zB4 : List D -> Option D := fnD 2 zHE
noncomputable def N_q5 : List Str := ["floor", "cell", "solids", "shadows", "other", "wall"]
theorem zDt : zAq N_q5 ["floor", "cell"] (zAh s_q5) := fsc rfl (by decide +kernel)
noncomputable def zFo : Rho -> Option Out :=
  (sSeq (zBY (zAf zB4 (zAc (eV 0) (zAc (eV 1) eNil))))
  (sSeq (sSet 2 (zAf zA8 (zAc (eOp dIx (eV 0) (eC (.int 2))) eNil)))
  (sSeq (zIR 3)
  (sSeq (sFor (iSeq (zAf zBo (zAc (eV 0) eNil))) (zAo 4) (sFor (iSeq (zAf zCo (zAc (eV 2) (zAc (eV 1) (zAc (eV 4) eNil))))) (zAo 5) (zDs 3 (eV 5) (eV 4))))
  (zF4 3)))))
noncomputable def zB5 : List D -> Option D := fnD 6 zFo
noncomputable def N_qo : List Str := ["floor", "cell", "solids"]
theorem zIX : zAq N_qo ["floor", "cell"] (zAh s_qo) := fsc rfl (by decide +kernel)
noncomputable def zGu : List Str := ["other", "solids", "cell"]
theorem zMb : zGu.Nodup := by decide +kernel
noncomputable def zFg : Rho -> Option Out :=
  (sSeq (zBY (zAf zB4 (zAc (eV 0) (zAc (eV 1) eNil))))
  (sSeq (sSet 2 (zAf zA8 (zAc (eOp dIx (eV 0) (eC (.int 2))) eNil)))
  (sRet (eLc (zAx (iSeq (zAf zBo (zAc (eV 0) eNil))) (zAo 0) (eB (zAf zB3 (zAc (eV 1) (zAc (eV 2) (zAc (eV 0) eNil))))) (eV 0) [none, some 2, some 1])))))
noncomputable def zCm : List D -> Option D := fnD 3 zFg
noncomputable def N_qk : List Str := ["floor", "cell", "wall", "shadows"]
theorem zIW : zAq N_qk ["floor", "cell", "wall"] (zAh s_qk) := fsc rfl (by decide +kernel)
noncomputable def zFh : Rho -> Option Out :=
  (sSeq (sSet 3 (zAf zB5 (zAc (eV 0) (zAc (eV 1) eNil))))
  (sSeq (sIf (eNot (eB (zAf zBO (zAc (eV 0) (zAc (eV 2) eNil))))) (fun _ => none) zAG)
  (sRet (eGet (eV 3) (eV 2) (eLst eNil)))))
noncomputable def zB2 : List D -> Option D := fnD 4 zFh
noncomputable def N_q8 : List Str := ["floor", "cell", "shadows"]
theorem zIU : zAq N_q8 ["floor", "cell"] (zAh s_q8) := fsc rfl (by decide +kernel)
noncomputable def zGm : List Str := ["wall", "shadows"]
theorem zL3 : zGm.Nodup := by decide +kernel
noncomputable def zFj : Rho -> Option Out :=
  (sSeq (sSet 2 (zAf zB5 (zAc (eV 0) (zAc (eV 1) eNil))))
  (sRet (eLc (zAx (iSeq (eOp dIx (eV 0) (eC (.int 2)))) (zAo 0) (eB (eOp (dIn2 true) (eV 0) (eV 1))) (eV 0) [none, some 2]))))
noncomputable def zCV : List D -> Option D := fnD 3 zFj
noncomputable def N_qt : List Str := ["_law_script", "_law_floor_here", "_law_before", "_law_cells_here", "_law_cell_here", "_law_behind", "_law_bare", "_law_some", "_law_one", "_law_idle", "_law_shut", "_law_hidden", "_law_there", "_law_seen", "_law_back"]
theorem zA4 : zAq N_qt ["_law_script"] (zAh s_qt) := fsc rfl (by decide +kernel)
noncomputable def zGw : List Str := ["_law_couple", "_law_before"]
theorem zMd : zGw.Nodup := by decide +kernel
noncomputable def zGx : List Str := ["_law_couple", "_law_bare"]
theorem zMe : zGx.Nodup := by decide +kernel
noncomputable def zGy : List Str := ["_law_couple", "_law_behind", "_law_cell_here"]
theorem zMf : zGy.Nodup := by decide +kernel
noncomputable def zGz : List Str := ["_law_k", "_law_cells_here", "_law_script"]
theorem zMg : zGz.Nodup := by decide +kernel
noncomputable def zGA : List Str := ["_law_other", "_law_shut"]
theorem zMh : zGA.Nodup := by decide +kernel
noncomputable def zGB : List Str := ["_law_other", "_law_one", "_law_floor_here", "_law_shut"]
theorem zMi : zGB.Nodup := by decide +kernel
noncomputable def glaw : Rho -> Option Out :=
  (sSeq (sSet 1 (zAf zCk (zAc (eV 0) (zAc (eC (.int 0)) (zAc (eC (.int 4)) eNil)))))
  (sSeq (sSet 2 (zAf zBw (zAc (eV 1) eNil)))
  (sSeq (sSet 3 (zAf zCR (zAc (eV 1) eNil)))
  (sSeq (sSet 4 (eOp dIx (zAf zB1 (zAc (eV 1) eNil)) (zAf zAZ (zAc (eV 0) (zAc (eC (.int 60)) (zAc (eOp zAt (eOp dIx (eV 1) (eC (.int 0))) (eOp dIx (eV 1) (eC (.int 1)))) eNil))))))
  (sSeq (sSet 5 (zAf zBw (zAc (zAf zCZ (zAc (eV 1) (zAc (eV 4) eNil))) eNil)))
  (sSeq (sSet 6 (zAf zBw (zAc (zAf zCp (zAc (eV 1) (zAc (eV 4) eNil))) eNil)))
  (sSeq (sIf (eB (eOp dNe (eLc (zAx (iSeq (eV 5)) (zAo 0) (eB (eOp (dIn true) (eV 0) (eV 1))) (eV 0) [none, some 2])) (eLst eNil))) (sRet (eC (.bool false))) zAG)
  (sSeq (sIf (eB (eOp dNe (eLc (zAx (iSeq (eV 2)) (zAo 0) (eB (eOp (dIn true) (eV 0) (eV 1))) (eV 0) [none, some 6])) (eLst eNil))) (sRet (eC (.bool false))) zAG)
  (sSeq (sIf (eB (eOp dNe (eLc (zAx (iSeq (eV 6)) (zAo 0) (eAnd (eB (eOp (dIn true) (eV 0) (eV 1))) (eNot (eB (zAf zCl (zAc (eV 0) (zAc (eV 2) eNil)))))) (eV 0) [none, some 5, some 4])) (eLst eNil))) (sRet (eC (.bool false))) zAG)
  (sSeq (sSet 7 (eLc (zAx (zBb (zAc (eOp zAt (eC (.int 2)) (zAf dInt (zAc (eOp dNe (eV 3) (eLst eNil)) eNil))) eNil)) (zAo 0) eT (eOp dIx (eV 1) (zAf zAZ (zAc (eV 2) (zAc (eOp zAy (eC (.int 61)) (eV 0)) (zAc (zAf dLen (zAc (eV 1) eNil)) eNil))))) [none, some 3, some 0])))
  (sSeq (sFor (iSeq (eV 7)) (zAo 8) (sSeq (sSet 9 (zAf zCV (zAc (eV 1) (zAc (eV 8) eNil))))
  (sFor (iSeq (eOp dIx (eV 1) (eC (.int 2)))) (zAo 10) (sSeq (sSet 11 (zAf zB2 (zAc (eV 1) (zAc (eV 8) (zAc (eV 10) eNil)))))
  (sSeq (sSet 12 (zAf zCm (zAc (zAf zCp (zAc (eV 1) (zAc (eV 10) eNil))) (zAc (eV 8) eNil))))
  (sSeq (sSet 13 (zAf zCm (zAc (eV 1) (zAc (eV 8) eNil))))
  (sSeq (sIf (eB (eOp dNe (eLc (zAx (iSeq (eV 12)) (zAo 0) (eB (eOp dNe (eV 0) (eV 1))) (eV 0) [none, some 10])) (zAf zBE (zAc (eOp zAy (eV 13) (eV 11)) eNil)))) (sRet (eC (.bool false))) zAG)
  (sSeq (sIf (eB (eOp dNe (eOp (dIn false) (eV 10) (eV 9)) (eOp dEq (eV 11) (eLst eNil)))) (sRet (eC (.bool false))) zAG)
  (sSeq (sSet 14 (eLc (zAx (iSeq (eV 11)) (zAo 0) (eB (eOp (dIn true) (eV 1) (zAf zB2 (zAc (eV 2) (zAc (eV 0) (zAc (eV 3) eNil)))))) (eV 0) [none, some 8, some 1, some 10])))
  (sIf (eB (eOp dNe (eV 14) (eLst eNil))) (sRet (eC (.bool false))) zAG))))))))))
  (sRet (eC (.bool true))))))))))))))
noncomputable def Glaw : List D -> Option D := fnD 15 glaw
structure Txt (K : PySem.W.Frag) (mg : Str -> Option Value) (a : Nat -> Addr) (d : Nat -> FuncData) : Prop where
 F_ql : Fo K mg "is_whole" s_ql ["thing"] (a 0) (d 0)
 F_qi : Fo K mg "all_cells" s_qi ["floor"] (a 1) (d 1)
 F_qs : Fo K mg "marked" s_qs ["things"] (a 2) (d 2)
 F_qp : Fo K mg "crossed" s_qp ["one", "other"] (a 3) (d 3)
 F_q3 : Fo K mg "couples_beside" s_q3 ["cells"] (a 4) (d 4)
 F_q6 : Fo K mg "all_couples" s_q6 ["cells"] (a 5) (d 5)
 F_qh : Fo K mg "_law_cell" s_qh ["_law_script", "_law_k"] (a 6) (d 6)
 F_qd : Fo K mg "_law_cells" s_qd ["_law_floor_here"] (a 7) (d 7)
 F_q1 : Fo K mg "is_whole_couple" s_q1 ["thing"] (a 8) (d 8)
 F_qc : Fo K mg "open_cells" s_qc ["floor"] (a 9) (d 9)
 F_qr : Fo K mg "pinched" s_qr ["one", "other"] (a 10) (d 10)
 F_qf : Fo K mg "hindrances" s_qf ["solids", "one", "other"] (a 11) (d 11)
 F_qm : Fo K mg "lets_see" s_qm ["solids", "one", "other"] (a 12) (d 12)
 F_qa : Fo K mg "_law_drawn" s_qa ["_law_script", "_law_k", "_law_many"] (a 13) (d 13)
 F_qj : Fo K mg "_law_open" s_qj ["_law_floor_here"] (a 14) (d 14)
 F_qq : Fo K mg "is_cell" s_qq ["floor", "thing"] (a 15) (d 15)
 F_q7 : Fo K mg "sole_hiders" s_q7 ["solids", "one", "other"] (a 16) (d 16)
 F_qb : Fo K mg "couples_of" s_qb ["floor"] (a 17) (d 17)
 F_qg : Fo K mg "_law_floor" s_qg ["_law_script", "_law_at", "_law_most"] (a 18) (d 18)
 F_qe : Fo K mg "_law_meets" s_qe ["_law_couple", "_law_cell_here"] (a 19) (d 19)
 F_q0 : Fo K mg "refuse_off_floor" s_q0 ["floor", "cell"] (a 20) (d 20)
 F_qn : Fo K mg "is_solid" s_qn ["floor", "cell"] (a 21) (d 21)
 F_q9 : Fo K mg "with_solid" s_q9 ["floor", "cell"] (a 22) (d 22)
 F_q4 : Fo K mg "without_solid" s_q4 ["floor", "cell"] (a 23) (d 23)
 F_q2 : Fo K mg "refuse_not_open" s_q2 ["floor", "cell"] (a 24) (d 24)
 F_q5 : Fo K mg "shadows_from" s_q5 ["floor", "cell"] (a 25) (d 25)
 F_qo : Fo K mg "field_of" s_qo ["floor", "cell"] (a 26) (d 26)
 F_qk : Fo K mg "hidden_by" s_qk ["floor", "cell", "wall"] (a 27) (d 27)
 F_q8 : Fo K mg "idle_solids" s_q8 ["floor", "cell"] (a 28) (d 28)
 F_qt : Fo K mg "law" s_qt ["_law_script"] (a 29) (d 29)
 z_isinstance : mg "isinstance" = none
 z_int : mg "int" = none
 z_bool : mg "bool" = none
 z_range : mg "range" = none
 z_dict : mg "dict" = none
 z_abs : mg "abs" = none
 z_zip : mg "zip" = none
 z_sorted : mg "sorted" = none
 z_tuple : mg "tuple" = none
 z_enumerate : mg "enumerate" = none
 z_len : mg "len" = none
 z_set : mg "set" = none
 z_all : mg "all" = none
section
variable {P : Program} {w : World} {K : PySem.W.Frag} {mg : Str -> Option Value} {base : Heap} {a : Nat -> Addr} {d : Nat -> FuncData} (T : Txt K mg a d)
include T
theorem ok_ql  : FnOk P w K mg base CX0 1 (a 0) (d 0) ["thing"] (spD K 1 zCn) := by
 refine zAz (g := zHy) (G := zCn) (N := N_ql) (k := 0) rfl rfl rfl T.F_ql.F sc_ql fun cdv A outer s H E hr => ?_
 exact (zAl (zAp (zEH (zEI (T := "int") (.inr (.inr (.inl rfl))) rfl T.z_isinstance rfl T.z_int boot_int (by decide) (zAb 0)) (zEJ (zKu (zEI (T := "bool") (.inr (.inr (.inr (.inl rfl)))) rfl T.z_isinstance rfl T.z_bool boot_bool (by decide) (zAb 0)))))))
theorem ok_qi  : FnOk P w K mg base CX0 1 (a 1) (d 1) ["floor"] (spD K 1 zCS) := by
 refine zAz (g := zFb) (G := zCS) (N := N_qi) (k := 0) rfl rfl rfl T.F_qi.F zF6 fun cdv A outer s H E hr => ?_
 exact (zAi (zC6 (i := 1) zF6.nd zAd)
  (zAi (zBp Yh rfl (zCA rfl T.z_range (dac (zAm ixd (zAb 0) zAe) zAd rfl)) (zAr (i := 2) zF6.nd) (zAl (zES (i := 1) (zAV rfl (zAS (N' := zGs) (inner := [none, some 2]) (zAh s_qi) N_qi rfl rfl (by decide +kernel)) (zAP 0) (zCA rfl T.z_range (dac (zAm ixd (zAb 0) zAe) zAd rfl)) (fun _ _ _ _ _ => (zAr (i := 0) zL9)) (fun _ _ _ _ _ => zCB) (fun _ _ _ _ _ => (dtp (dac (zAb 1) (dac (zAb 0) zAd rfl) rfl)))))))
  (zAl (zAp (zAb 1)))))
theorem ok_qs  : FnOk P w K mg base CX0 1 (a 2) (d 2) ["things"] (spD K 1 zA8) := by
 refine zAz (g := zHA) (G := zA8) (N := N_qs) (k := 0) rfl rfl rfl T.F_qs.F sc_qs fun cdv A outer s H E hr => ?_
 exact (zAl (zAp (zCw (zJ4 rfl (u66 hr)) rfl T.z_dict DC.boot_dict (dac (zAV rfl (zAS (N' := zGv) (inner := [none]) (zAh s_qs) N_qs rfl rfl (by decide +kernel)) (zAP 0) (zAH (zAb 0)) (fun _ _ _ _ _ => (zAr (i := 0) zMc)) (fun _ _ _ _ _ => zCB) (fun _ _ _ _ _ => (dtp (dac (zAb 0) (dac zA5 zAd rfl) rfl)))) zAd rfl))))
theorem ok_qp  : FnOk P w K mg base CX0 1 (a 3) (d 3) ["one", "other"] (spD K 2 zBn) := by
 refine zAz (g := zFf) (G := zBn) (N := N_qp) (k := 0) rfl rfl rfl T.F_qp.F zBm fun cdv A outer s H E hr => ?_
 exact (zAi (zAu (i := 2) zBm.nd (zBF zGN rfl T.z_abs boot_abs (dac (zAn zIq (zAm ixd (zAb 1) zAe) (zAm ixd (zAb 0) zAe)) zAd rfl)))
  (zAi (zAu (i := 3) zBm.nd (zBF zGN rfl T.z_abs boot_abs (dac (zAn zIq (zAm ixd (zAb 1) zAe) (zAm ixd (zAb 0) zAe)) zAd rfl)))
  (zAi (zAu (i := 4) zBm.nd (zGZ (zAs zIp (zAm ixd (zAb 1) zAe) (zAm ixd (zAb 0) zAe) (zAI _)) zAe (zEL zGe zAe)))
  (zAi (zAu (i := 5) zBm.nd (zGZ (zAs zIp (zAm ixd (zAb 1) zAe) (zAm ixd (zAb 0) zAe) (zAI _)) zAe (zEL zGe zAe)))
  (zAi (zAu (i := 6) zBm.nd zAe)
  (zAi (zAu (i := 7) zBm.nd zAe)
  (zAi (zC6 (i := 8) zBm.nd (dac (zAb 0) zAd rfl))
  (zAi (zKO 900 Yh (dw_t (zG5 (zAs (zD2 (u64 hr)) (zAb 6) (zAb 2) (zAI _)) (zG6 (zAs (zD2 (u64 hr)) (zAb 7) (zAb 3) (zAI _))))) (zAi (zAu (i := 9) zBm.nd (zAn zAX (zAn zAK (zAn zAX zAe (zAb 6)) zAe) (zAb 3)))
  (zAi (zAu (i := 10) zBm.nd (zAn zAX (zAn zAK (zAn zAX zAe (zAb 7)) zAe) (zAb 2)))
  (zAi (zAM (zAs zD1 (zAb 9) (zAb 10) (zAI _)) (zAl (zAu (i := 6) zBm.nd (zAn zAK (zAb 6) zAe))) zAN)
  (zAi (zAM (zAs zD1 (zAb 10) (zAb 9) (zAI _)) (zAl (zAu (i := 7) zBm.nd (zAn zAK (zAb 7) zAe))) zAN)
  (zAl (zER (i := 8) (dtp (dac (zAn zAK (zAm ixd (zAb 0) zAe) (zAn zAX (zAb 4) (zAb 6))) (dac (zAn zAK (zAm ixd (zAb 0) zAe) (zAn zAX (zAb 5) (zAb 7))) zAd rfl) rfl)))))))))
  (zAl (zAp (zAb 8)))))))))))
theorem ok_q3  : FnOk P w K mg base CX0 1 (a 4) (d 4) ["cells"] (spD K 1 zBv) := by
 refine zAz (g := zFd) (G := zBv) (N := N_q3) (k := 0) rfl rfl rfl T.F_q3.F zEb fun cdv A outer s H E hr => ?_
 exact (zAi (zC6 (i := 1) zEb.nd zAd)
  (zAi (zBp Yh rfl (zKz rfl T.z_zip (dac (zAb 0) (dac (zEK (zAb 0) (zEQ zAe) zEP) zAd rfl) rfl)) (zEN rfl (zCz (zAr (i := 2) zEb.nd) (zCz (zAr (i := 3) zEb.nd) zEO))) (zAl (zAM (dw_t (zDH (zAs (zBe (u64 hr)) (zAm ixd (zAb 2) zAe) (zAm ixd (zAb 3) zAe) (zAI _)) (zDI (zAs (zBe (u64 hr)) (zAm ixd (zAb 2) zAe) (zAm ixd (zAb 3) zAe) (zAI _))))) (zAl (zER (i := 1) (zCw zDC rfl T.z_tuple boot_tuple (dac (zBF (zGO (u66 hr)) rfl T.z_sorted boot_sorted (dac (@zBa _ _ _ _ (dac (dtp (dac (zAm ixd (zAb 2) zAe) (dac (zAm ixd (zAb 3) zAe) zAd rfl) rfl)) (dac (dtp (dac (zAm ixd (zAb 3) zAe) (dac (zAm ixd (zAb 2) zAe) zAd rfl) rfl)) zAd rfl) rfl)) zAd rfl)) zAd rfl)))) zAN)))
  (zAl (zAp (zAb 1)))))
theorem ok_q6  : FnOk P w K mg base CX0 1 (a 5) (d 5) ["cells"] (spD K 1 zCT) := by
 refine zAz (g := zFc) (G := zCT) (N := N_q6) (k := 0) rfl rfl rfl T.F_q6.F zEc fun cdv A outer s H E hr => ?_
 exact (zAi (zC6 (i := 1) zEc.nd zAd)
  (zAi (zBp Yh rfl (zKy rfl T.z_enumerate (dac (zAb 0) zAd rfl)) (zEN rfl (zCz (zAr (i := 2) zEc.nd) (zCz (zAr (i := 3) zEc.nd) zEO))) (zAl (zES (i := 1) (zAV rfl (zAS (N' := zGk) (inner := [none, some 3]) (zAh s_q6) N_q6 rfl rfl (by decide +kernel)) (zAP 0) (zAH (zEK (zAb 0) (zEQ (zAn zAK (zAb 2) zAe)) zEP)) (fun _ _ _ _ _ => (zAr (i := 0) zL0)) (fun _ _ _ _ _ => zCB) (fun _ _ _ _ _ => (dtp (dac (zAb 1) (dac (zAb 0) zAd rfl) rfl)))))))
  (zAl (zAp (zAb 1)))))
theorem ok_qh  : FnOk P w K mg base CX0 1 (a 6) (d 6) ["_law_script", "_law_k"] (spD K 2 zCQ) := by
 refine zAz (g := zHs) (G := zCQ) (N := N_qh) (k := 0) rfl rfl rfl T.F_qh.F sc_qh fun cdv A outer s H E hr => ?_
 exact (zAi (zAM (zAs (zD0 (u64 hr)) (zAb 0) (@zBa _ _ _ _ zAd) (zAI _)) (zAl (zAp (zAn zAX zAe (zAb 1)))) zAN)
  (zAl (zAp (zAn zAK (zAm ixd (zAb 0) (zAn zCe (zAb 1) (zBF zDB rfl T.z_len PySem.boot_len (dac (zAb 0) zAd rfl)))) (zAn zAX zAe (zAn zDi (zAb 1) (zBF zDB rfl T.z_len PySem.boot_len (dac (zAb 0) zAd rfl))))))))
theorem ok_qd  : FnOk P w K mg base CX0 1 (a 7) (d 7) ["_law_floor_here"] (spD K 1 zB1) := by
 refine zAz (g := zHt) (G := zB1) (N := N_qd) (k := 0) rfl rfl rfl T.F_qd.F sc_qd fun cdv A outer s H E hr => ?_
 exact (zAl (zAp (zAV rfl (zAS (N' := zGo) (inner := [none, some 0]) (zAh s_qd) N_qd rfl rfl (by decide +kernel)) (zAP 0) (zCA rfl T.z_range (dac (zAn zAX (zAm ixd (zAb 0) zAe) (zAm ixd (zAb 0) zAe)) zAd rfl)) (fun _ _ _ _ _ => (zAr (i := 0) zL5)) (fun _ _ _ _ _ => zCB) (fun _ _ _ _ _ => (dtp (dac (zAn zDi (zAb 0) (zAm ixd (zAb 1) zAe)) (dac (zAn zCe (zAb 0) (zAm ixd (zAb 1) zAe)) zAd rfl) rfl))))))
theorem ok_q1 (G_ql : FnOk P w K mg base CX0 1 (a 0) (d 0) ["thing"] (spD K 1 zCn)) : FnOk P w K mg base CX0 2 (a 8) (d 8) ["thing"] (spD K 1 zCX) := by
 refine zAz (g := zHz) (G := zCX) (N := N_q1) (k := 1) rfl rfl rfl T.F_q1.F sc_q1 fun cdv A outer s H E hr => ?_
 exact (zAi (zAM (dw_t (zG5 (zC7 (zBG (zEI (T := "tuple") (.inr (.inl rfl)) rfl T.z_isinstance rfl T.z_tuple boot_tuple (by decide) (zAb 0)))) (zG6 (zAs (zBe (u64 hr)) (zBF zDB rfl T.z_len PySem.boot_len (dac (zAb 0) zAd rfl)) zAe (zAI _))))) (zAl (zAp zA5)) zAN)
  (zAl (zAp (zEH (dcl T.F_ql G_ql hr rfl (dac (zAm ixd (zAb 0) zAe) zAd rfl) ln1) (zEJ (dcl T.F_ql G_ql hr rfl (dac (zAm ixd (zAb 0) zAe) zAd rfl) ln1))))))
theorem ok_qc (G_qi : FnOk P w K mg base CX0 1 (a 1) (d 1) ["floor"] (spD K 1 zCS)) : FnOk P w K mg base CX0 2 (a 9) (d 9) ["floor"] (spD K 1 zBo) := by
 refine zAz (g := zHC) (G := zBo) (N := N_qc) (k := 1) rfl rfl rfl T.F_qc.F sc_qc fun cdv A outer s H E hr => ?_
 exact (zAl (zAp (zG1 rfl (u66 hr) rfl T.z_sorted boot_sorted (zKP rfl (u66 hr) (zEU rfl (u64 hr) rfl T.z_set boot_set (dac (dcl T.F_qi G_qi hr rfl (dac (zAb 0) zAd rfl) ln1) zAd rfl)) (zEU rfl (u64 hr) rfl T.z_set boot_set (dac (zAm ixd (zAb 0) zAe) zAd rfl))))))
theorem ok_qr (G_q3 : FnOk P w K mg base CX0 1 (a 4) (d 4) ["cells"] (spD K 1 zBv)) (G_qp : FnOk P w K mg base CX0 1 (a 3) (d 3) ["one", "other"] (spD K 2 zBn)) : FnOk P w K mg base CX0 2 (a 10) (d 10) ["one", "other"] (spD K 2 zCY) := by
 refine zAz (g := zHD) (G := zCY) (N := N_qr) (k := 1) rfl rfl rfl T.F_qr.F sc_qr fun cdv A outer s H E hr => ?_
 exact (zAl (zAp (dcl T.F_q3 G_q3 hr rfl (dac (dcl T.F_qp G_qp hr rfl (dac (zAb 0) (dac (zAb 1) zAd rfl) rfl) ln2) zAd rfl) ln1)))
theorem ok_qf (G_qp : FnOk P w K mg base CX0 1 (a 3) (d 3) ["one", "other"] (spD K 2 zBn)) (G_q3 : FnOk P w K mg base CX0 1 (a 4) (d 4) ["cells"] (spD K 1 zBv)) : FnOk P w K mg base CX0 2 (a 11) (d 11) ["solids", "one", "other"] (spD K 3 zCU) := by
 refine zAz (g := zFi) (G := zCU) (N := N_qf) (k := 1) rfl rfl rfl T.F_qf.F zEd fun cdv A outer s H E hr => ?_
 exact (zAi (zAu (i := 3) zEd.nd (dcl T.F_qp G_qp hr rfl (dac (zAb 1) (dac (zAb 2) zAd rfl) rfl) ln2))
  (zAi (zKK (i := 4) zEd.nd rfl (zAS (N' := zGq) (inner := [none, some 0]) (zAh s_qf) N_qf rfl rfl (by decide +kernel)) (zAP 0) (zAH (zAb 3)) (fun _ _ _ _ _ => (zAr (i := 0) zL7)) (fun _ _ _ _ _ => (zA6 (zAs (zCH (u65 hr)) (zAb 0) (zAb 1) (by with_unfolding_all rfl)))) (fun _ _ _ _ _ => (dtp (dac (zAb 0) zAd rfl))))
  (zAi (zBp Yh rfl (zAH (dcl T.F_q3 G_q3 hr rfl (dac (zAb 3) zAd rfl) ln1)) (zAr (i := 5) zEd.nd) (zAl (zAM (dw_t (zDH (zAs (zCH (u65 hr)) (zAm ixd (zAb 5) zAe) (zAb 0) (by with_unfolding_all rfl)) (zDI (zAs (zCH (u65 hr)) (zAm ixd (zAb 5) zAe) (zAb 0) (by with_unfolding_all rfl))))) (zAl (zER (i := 4) (zAb 5))) zAN)))
  (zAl (zAp (zAb 4))))))
theorem ok_qm (G_qp : FnOk P w K mg base CX0 1 (a 3) (d 3) ["one", "other"] (spD K 2 zBn)) (G_q3 : FnOk P w K mg base CX0 1 (a 4) (d 4) ["cells"] (spD K 1 zBv)) : FnOk P w K mg base CX0 2 (a 12) (d 12) ["solids", "one", "other"] (spD K 3 zB3) := by
 refine zAz (g := zFk) (G := zB3) (N := N_qm) (k := 1) rfl rfl rfl T.F_qm.F zDu fun cdv A outer s H E hr => ?_
 exact (zAi (zAu (i := 3) zDu.nd (dcl T.F_qp G_qp hr rfl (dac (zAb 1) (dac (zAb 2) zAd rfl) rfl) ln2))
  (zAi (zBp Yh rfl (zAH (zEK (zAb 3) zEP (zEQ (zEL zGe zAe)))) (zAr (i := 4) zDu.nd) (zAl (zAM (zAs (zCH (u65 hr)) (zAb 4) (zAb 0) (by with_unfolding_all rfl)) (zAl (zAp zA5)) zAN)))
  (zAi (zBp Yh rfl (zAH (dcl T.F_q3 G_q3 hr rfl (dac (zAb 3) zAd rfl) ln1)) (zEN rfl (zCz (zAr (i := 5) zDu.nd) (zCz (zAr (i := 6) zDu.nd) zEO))) (zAl (zAM (dw_t (zDH (zAs (zCH (u65 hr)) (zAb 5) (zAb 0) (by with_unfolding_all rfl)) (zDI (zAs (zCH (u65 hr)) (zAb 6) (zAb 0) (by with_unfolding_all rfl))))) (zAl (zAp zA5)) zAN)))
  (zAl (zAp zA5)))))
theorem ok_qa (G_qh : FnOk P w K mg base CX0 1 (a 6) (d 6) ["_law_script", "_law_k"] (spD K 2 zCQ)) : FnOk P w K mg base CX0 2 (a 13) (d 13) ["_law_script", "_law_k", "_law_many"] (spD K 3 zAZ) := by
 refine zAz (g := zHu) (G := zAZ) (N := N_qa) (k := 1) rfl rfl rfl T.F_qa.F zF5 fun cdv A outer s H E hr => ?_
 exact (zAi (zAu (i := 3) zF5.nd (zAn zCe (zAn zAK (zAn zAX (zAn zCe (dcl T.F_qh G_qh hr rfl (dac (zAb 0) (dac (zAb 1) zAd rfl) rfl) ln2) zAe) zAe) (zAn zAX zAe (zAn zAK (zAb 1) zAe))) zAe))
  (zAi (zAu (i := 3) zF5.nd (zAn zCe (zAn zAK (zAn zAX (zAb 3) (zAb 3)) (zAn zDi (zAb 3) zAe)) zAe))
  (zAl (zAp (zAn zCe (zAn zDi (zAn zCe (zAn zAK (zAn zAX (zAb 3) (zAb 3)) (zAn zDi (zAb 3) zAe)) zAe) zAe) (zAb 2))))))
theorem ok_qj (G_qd : FnOk P w K mg base CX0 1 (a 7) (d 7) ["_law_floor_here"] (spD K 1 zB1)) : FnOk P w K mg base CX0 2 (a 14) (d 14) ["_law_floor_here"] (spD K 1 zCR) := by
 refine zAz (g := zHv) (G := zCR) (N := N_qj) (k := 1) rfl rfl rfl T.F_qj.F sc_qj fun cdv A outer s H E hr => ?_
 exact (zAl (zAp (zAV rfl (zAS (N' := zGt) (inner := [none, some 0]) (zAh s_qj) N_qj rfl rfl (by decide +kernel)) (zAP 0) (zAH (dcl T.F_qd G_qd hr rfl (dac (zAb 0) zAd rfl) ln1)) (fun _ _ _ _ _ => (zAr (i := 0) zMa)) (fun _ _ _ _ _ => (zA6 (zAs (zCf (u65 hr)) (zAb 0) (zAm ixd (zAb 1) zAe) (by with_unfolding_all rfl)))) (fun _ _ _ _ _ => (zAb 0)))))
theorem ok_qq (G_q1 : FnOk P w K mg base CX0 2 (a 8) (d 8) ["thing"] (spD K 1 zCX)) : FnOk P w K mg base CX0 3 (a 15) (d 15) ["floor", "thing"] (spD K 2 zCW) := by
 refine zAz (g := zHw) (G := zCW) (N := N_qq) (k := 2) rfl rfl rfl T.F_qq.F sc_qq fun cdv A outer s H E hr => ?_
 exact (zAi (zAM (zC7 (zBG (dcl T.F_q1 G_q1 hr rfl (dac (zAb 1) zAd rfl) ln1))) (zAl (zAp zA5)) zAN)
  (zAl (zAp (zEH (zGY zD1 (zD2 (u64 hr)) zAe (zAm ixd (zAb 1) zAe) (zAm ixd (zAb 0) zAe)) (zEJ (zGY zD1 (zD2 (u64 hr)) zAe (zAm ixd (zAb 1) zAe) (zAm ixd (zAb 0) zAe)))))))
theorem ok_q7 (G_qf : FnOk P w K mg base CX0 2 (a 11) (d 11) ["solids", "one", "other"] (spD K 3 zCU)) : FnOk P w K mg base CX0 3 (a 16) (d 16) ["solids", "one", "other"] (spD K 3 zCo) := by
 refine zAz (g := zFp) (G := zCo) (N := N_q7) (k := 2) rfl rfl rfl T.F_q7.F zIT fun cdv A outer s H E hr => ?_
 exact (zAi (zAu (i := 3) zIT.nd (dcl T.F_qf G_qf hr rfl (dac (zAb 0) (dac (zAb 1) (dac (zAb 2) zAd rfl) rfl) rfl) ln3))
  (zAi (zAM (zAs (zD0 (u64 hr)) (zAb 3) (@zBa _ _ _ _ zAd) (zAI _)) (zAl (zAp (@zBa _ _ _ _ zAd))) zAN)
  (zAl (zAp (zKs rfl (zKa (N' := zEt) (inner := [none, some 3]) (x0 := "wall") (zAh s_q7) N_q7 rfl rfl (by decide +kernel) (fun _ _ => rfl) (fun _ => rfl)) (zAP 0) (zAH (zAm ixd (zAb 3) zAe)) (fun _ _ _ _ _ => (zAr (i := 0) zL1)) (fun _ _ _ _ _ => (zA6 (zBG (zBF (zJ3 rfl) rfl T.z_all SL.boot_all (dac (zAV rfl (zKb (N2 := zGl) (inner2 := [none, some 0]) (zAh s_q7) zEt rfl rfl (by decide +kernel)) (zAP 0) (zAH (zAb 1)) (fun _ _ _ _ _ => (zAr (i := 0) zL2)) (fun _ _ _ _ _ => zCB) (fun _ _ _ _ _ => (zCx (zCd (u65 hr)) (zAb 1) (zAb 0) (by with_unfolding_all rfl)))) zAd rfl))))) (fun _ _ _ _ _ => (zAb 0)))))))
theorem ok_qb (G_qs : FnOk P w K mg base CX0 1 (a 2) (d 2) ["things"] (spD K 1 zA8)) (G_q6 : FnOk P w K mg base CX0 1 (a 5) (d 5) ["cells"] (spD K 1 zCT)) (G_qm : FnOk P w K mg base CX0 2 (a 12) (d 12) ["solids", "one", "other"] (spD K 3 zB3)) (G_qc : FnOk P w K mg base CX0 2 (a 9) (d 9) ["floor"] (spD K 1 zBo)) : FnOk P w K mg base CX0 3 (a 17) (d 17) ["floor"] (spD K 1 zBw) := by
 refine zAz (g := zFe) (G := zBw) (N := N_qb) (k := 2) rfl rfl rfl T.F_qb.F zIV fun cdv A outer s H E hr => ?_
 exact (zAi (zAu (i := 1) zIV.nd (dcl T.F_qs G_qs hr rfl (dac (zAm ixd (zAb 0) zAe) zAd rfl) ln1))
  (zAl (zAp (zAV rfl (zAS (N' := zGn) (inner := [none, some 1]) (zAh s_qb) N_qb rfl rfl (by decide +kernel)) (zAP 0) (zAH (dcl T.F_q6 G_q6 hr rfl (dac (dcl T.F_qc G_qc hr rfl (dac (zAb 0) zAd rfl) ln1) zAd rfl) ln1)) (fun _ _ _ _ _ => (zAr (i := 0) zL4)) (fun _ _ _ _ _ => (zA6 (zBG (dcl T.F_qm G_qm hr rfl (dac (zAb 1) (dac (zAm ixd (zAb 0) zAe) (dac (zAm ixd (zAb 0) zAe) zAd rfl) rfl) rfl) ln3)))) (fun _ _ _ _ _ => (zAb 0))))))
theorem ok_qg (G_qa : FnOk P w K mg base CX0 2 (a 13) (d 13) ["_law_script", "_law_k", "_law_many"] (spD K 3 zAZ)) : FnOk P w K mg base CX0 3 (a 18) (d 18) ["_law_script", "_law_at", "_law_most"] (spD K 3 zCk) := by
 refine zAz (g := zE9) (G := zCk) (N := N_qg) (k := 2) rfl rfl rfl T.F_qg.F zCM fun cdv A outer s H E hr => ?_
 exact (zAi (zAu (i := 3) zCM.nd (zAn zAK zAe (dcl T.F_qa G_qa hr rfl (dac (zAb 0) (dac (zAb 1) (dac (zAb 2) zAd rfl) rfl) rfl) ln3)))
  (zAi (zAu (i := 4) zCM.nd (zAn zAK zAe (dcl T.F_qa G_qa hr rfl (dac (zAb 0) (dac (zAn zAK (zAb 1) zAe) (dac (zAb 2) zAd rfl) rfl) rfl) ln3)))
  (zAi (zAu (i := 5) zCM.nd (zAm ixd (@zBa _ _ _ _ (dac zAe (dac zAe (dac zAe (dac zAe (dac zAe zAd rfl) rfl) rfl) rfl) rfl)) (dcl T.F_qa G_qa hr rfl (dac (zAb 0) (dac (zAn zAK (zAb 1) zAe) (dac zAe zAd rfl) rfl) rfl) ln3)))
  (zAi (zC6 (i := 6) zCM.nd zAd)
  (zAi (zBp Yh rfl (zCA rfl T.z_range (dac (zAb 3) zAd rfl)) (zAr (i := 7) zCM.nd) (zAl (zES (i := 6) (zAV rfl (zAS (N' := zGr) (inner := [none, some 7, some 0, some 5, some 1]) (zAh s_qg) N_qg rfl rfl (by decide +kernel)) (zAP 0) (zCA rfl T.z_range (dac (zAb 4) zAd rfl)) (fun _ _ _ _ _ => (zAr (i := 0) zL8)) (fun _ _ _ _ _ => (zA6 (zAs (zD0 (u64 hr)) (dcl T.F_qa G_qa hr rfl (dac (zAb 2) (dac (zAn zAK (zAn zAK (zAn zAK (zAb 4) zAe) (zAn zAX zAe (zAb 1))) (zAb 0)) (dac (zAb 3) zAd rfl) rfl) rfl) ln3) zAe (zAI _)))) (fun _ _ _ _ _ => (dtp (dac (zAb 1) (dac (zAb 0) zAd rfl) rfl)))))))
  (zAl (zAp (dtp (dac (zAb 3) (dac (zAb 4) (dac (zCw zDC rfl T.z_tuple boot_tuple (dac (zAb 6) zAd rfl)) zAd rfl) rfl) rfl)))))))))
theorem ok_qe (G_qp : FnOk P w K mg base CX0 1 (a 3) (d 3) ["one", "other"] (spD K 2 zBn)) (G_qr : FnOk P w K mg base CX0 2 (a 10) (d 10) ["one", "other"] (spD K 2 zCY)) : FnOk P w K mg base CX0 3 (a 19) (d 19) ["_law_couple", "_law_cell_here"] (spD K 2 zCl) := by
 refine zAz (g := zFa) (G := zCl) (N := N_qe) (k := 2) rfl rfl rfl T.F_qe.F sc_qe fun cdv A outer s H E hr => ?_
 exact (zAi (zAM (zAs (zCd (u65 hr)) (zAb 1) (dcl T.F_qp G_qp hr rfl (dac (zAm ixd (zAb 0) zAe) (dac (zAm ixd (zAb 0) zAe) zAd rfl) rfl) ln2) (by with_unfolding_all rfl)) (zAl (zAp zA5)) zAN)
  (zAl (zAp (zCx (zBe (u64 hr)) (zAV rfl (zAS (N' := zGp) (inner := [none, some 1]) (zAh s_qe) N_qe rfl rfl (by decide +kernel)) (zAP 0) (zAH (dcl T.F_qr G_qr hr rfl (dac (zAm ixd (zAb 0) zAe) (dac (zAm ixd (zAb 0) zAe) zAd rfl) rfl) ln2)) (fun _ _ _ _ _ => (zAr (i := 0) zL6)) (fun _ _ _ _ _ => (zA6 (zAs (zCd (u65 hr)) (zAb 1) (zAb 0) (by with_unfolding_all rfl)))) (fun _ _ _ _ _ => (zAb 0))) (@zBa _ _ _ _ zAd) (zAI _)))))
theorem ok_q0 (G_qq : FnOk P w K mg base CX0 3 (a 15) (d 15) ["floor", "thing"] (spD K 2 zCW)) : FnOk P w K mg base CX0 4 (a 20) (d 20) ["floor", "cell"] (spD K 2 zBC) := by
 refine zAz (g := zHF) (G := zBC) (N := N_q0) (k := 3) rfl rfl rfl T.F_q0.F sc_q0 fun cdv A outer s H E hr => ?_
 exact (zAl (zAM (zC7 (zBG (dcl T.F_qq G_qq hr rfl (dac (zAb 0) (dac (zAb 1) zAd rfl) rfl) ln2))) (zAl zET) zAN))
theorem ok_qn (G_q0 : FnOk P w K mg base CX0 4 (a 20) (d 20) ["floor", "cell"] (spD K 2 zBC)) : FnOk P w K mg base CX0 5 (a 21) (d 21) ["floor", "cell"] (spD K 2 zBO) := by
 refine zAz (g := zHx) (G := zBO) (N := N_qn) (k := 4) rfl rfl rfl T.F_qn.F sc_qn fun cdv A outer s H E hr => ?_
 exact (zAi (zC5 (dcl T.F_q0 G_q0 hr rfl (dac (zAb 0) (dac (zAb 1) zAd rfl) rfl) ln2))
  (zAl (zAp (zCx (zCd (u65 hr)) (zAb 1) (zAm ixd (zAb 0) zAe) (by with_unfolding_all rfl)))))
theorem ok_q9 (G_q0 : FnOk P w K mg base CX0 4 (a 20) (d 20) ["floor", "cell"] (spD K 2 zBC)) : FnOk P w K mg base CX0 5 (a 22) (d 22) ["floor", "cell"] (spD K 2 zCZ) := by
 refine zAz (g := zFq) (G := zCZ) (N := N_q9) (k := 4) rfl rfl rfl T.F_q9.F sc_q9 fun cdv A outer s H E hr => ?_
 exact (zAi (zC5 (dcl T.F_q0 G_q0 hr rfl (dac (zAb 0) (dac (zAb 1) zAd rfl) rfl) ln2))
  (zAl (zAp (dtp (dac (zAm ixd (zAb 0) zAe) (dac (zAm ixd (zAb 0) zAe) (dac (zCw zDC rfl T.z_tuple boot_tuple (dac (zG1 rfl (u66 hr) rfl T.z_sorted boot_sorted (zKQ (zEU rfl (u64 hr) rfl T.z_set boot_set (dac (zAn zAK (zAm ixd (zAb 0) zAe) (dtp (dac (zAb 1) zAd rfl))) zAd rfl)))) zAd rfl)) zAd rfl) rfl) rfl)))))
theorem ok_q4 (G_q0 : FnOk P w K mg base CX0 4 (a 20) (d 20) ["floor", "cell"] (spD K 2 zBC)) : FnOk P w K mg base CX0 5 (a 23) (d 23) ["floor", "cell"] (spD K 2 zCp) := by
 refine zAz (g := zFr) (G := zCp) (N := N_q4) (k := 4) rfl rfl rfl T.F_q4.F sc_q4 fun cdv A outer s H E hr => ?_
 exact (zAi (zC5 (dcl T.F_q0 G_q0 hr rfl (dac (zAb 0) (dac (zAb 1) zAd rfl) rfl) ln2))
  (zAl (zAp (dtp (dac (zAm ixd (zAb 0) zAe) (dac (zAm ixd (zAb 0) zAe) (dac (zCw zDC rfl T.z_tuple boot_tuple (dac (zAV rfl (zAS (N' := zGj) (inner := [none, some 1]) (zAh s_q4) N_q4 rfl rfl (by decide +kernel)) (zAP 0) (zAH (zAm ixd (zAb 0) zAe)) (fun _ _ _ _ _ => (zAr (i := 0) zLZ)) (fun _ _ _ _ _ => (zA6 (zAs (zBe (u64 hr)) (zAb 0) (zAb 1) (zAI _)))) (fun _ _ _ _ _ => (zAb 0))) zAd rfl)) zAd rfl) rfl) rfl)))))
theorem ok_q2 (G_qn : FnOk P w K mg base CX0 5 (a 21) (d 21) ["floor", "cell"] (spD K 2 zBO)) : FnOk P w K mg base CX0 6 (a 24) (d 24) ["floor", "cell"] (spD K 2 zB4) := by
 refine zAz (g := zHE) (G := zB4) (N := N_q2) (k := 5) rfl rfl rfl T.F_q2.F sc_q2 fun cdv A outer s H E hr => ?_
 exact (zAl (zAM (zBG (dcl T.F_qn G_qn hr rfl (dac (zAb 0) (dac (zAb 1) zAd rfl) rfl) ln2)) (zAl zET) zAN))
theorem ok_q5 (G_q2 : FnOk P w K mg base CX0 6 (a 24) (d 24) ["floor", "cell"] (spD K 2 zB4)) (G_qs : FnOk P w K mg base CX0 1 (a 2) (d 2) ["things"] (spD K 1 zA8)) (G_qc : FnOk P w K mg base CX0 2 (a 9) (d 9) ["floor"] (spD K 1 zBo)) (G_q7 : FnOk P w K mg base CX0 3 (a 16) (d 16) ["solids", "one", "other"] (spD K 3 zCo)) : FnOk P w K mg base CX0 7 (a 25) (d 25) ["floor", "cell"] (spD K 2 zB5) := by
 refine zAz (g := zFo) (G := zB5) (N := N_q5) (k := 6) rfl rfl rfl T.F_q5.F zDt fun cdv A outer s H E hr => ?_
 exact (zAi (zC5 (dcl T.F_q2 G_q2 hr rfl (dac (zAb 0) (dac (zAb 1) zAd rfl) rfl) ln2))
  (zAi (zAu (i := 2) zDt.nd (dcl T.F_qs G_qs hr rfl (dac (zAm ixd (zAb 0) zAe) zAd rfl) ln1))
  (zAi (zKM (i := 3) zDt.nd)
  (zAi (zBp Yh rfl (zAH (dcl T.F_qc G_qc hr rfl (dac (zAb 0) zAd rfl) ln1)) (zAr (i := 4) zDt.nd) (zAl (zBp Yh rfl (zAH (dcl T.F_q7 G_q7 hr rfl (dac (zAb 2) (dac (zAb 1) (dac (zAb 4) zAd rfl) rfl) rfl) ln3)) (zAr (i := 5) zDt.nd) (zAl (zKL (i := 3) (u65 hr) (zAb 5) (zAb 4))))))
  (zAl (zKN (i := 3)))))))
theorem ok_qo (G_q2 : FnOk P w K mg base CX0 6 (a 24) (d 24) ["floor", "cell"] (spD K 2 zB4)) (G_qs : FnOk P w K mg base CX0 1 (a 2) (d 2) ["things"] (spD K 1 zA8)) (G_qc : FnOk P w K mg base CX0 2 (a 9) (d 9) ["floor"] (spD K 1 zBo)) (G_qm : FnOk P w K mg base CX0 2 (a 12) (d 12) ["solids", "one", "other"] (spD K 3 zB3)) : FnOk P w K mg base CX0 7 (a 26) (d 26) ["floor", "cell"] (spD K 2 zCm) := by
 refine zAz (g := zFg) (G := zCm) (N := N_qo) (k := 6) rfl rfl rfl T.F_qo.F zIX fun cdv A outer s H E hr => ?_
 exact (zAi (zC5 (dcl T.F_q2 G_q2 hr rfl (dac (zAb 0) (dac (zAb 1) zAd rfl) rfl) ln2))
  (zAi (zAu (i := 2) zIX.nd (dcl T.F_qs G_qs hr rfl (dac (zAm ixd (zAb 0) zAe) zAd rfl) ln1))
  (zAl (zAp (zAV rfl (zAS (N' := zGu) (inner := [none, some 2, some 1]) (zAh s_qo) N_qo rfl rfl (by decide +kernel)) (zAP 0) (zAH (dcl T.F_qc G_qc hr rfl (dac (zAb 0) zAd rfl) ln1)) (fun _ _ _ _ _ => (zAr (i := 0) zMb)) (fun _ _ _ _ _ => (zA6 (zBG (dcl T.F_qm G_qm hr rfl (dac (zAb 1) (dac (zAb 2) (dac (zAb 0) zAd rfl) rfl) rfl) ln3)))) (fun _ _ _ _ _ => (zAb 0)))))))
theorem ok_qk (G_q5 : FnOk P w K mg base CX0 7 (a 25) (d 25) ["floor", "cell"] (spD K 2 zB5)) (G_qn : FnOk P w K mg base CX0 5 (a 21) (d 21) ["floor", "cell"] (spD K 2 zBO)) : FnOk P w K mg base CX0 8 (a 27) (d 27) ["floor", "cell", "wall"] (spD K 3 zB2) := by
 refine zAz (g := zFh) (G := zB2) (N := N_qk) (k := 7) rfl rfl rfl T.F_qk.F zIW fun cdv A outer s H E hr => ?_
 exact (zAi (zAu (i := 3) zIW.nd (dcl T.F_q5 G_q5 hr rfl (dac (zAb 0) (dac (zAb 1) zAd rfl) rfl) ln2))
  (zAi (zAM (zC7 (zBG (dcl T.F_qn G_qn hr rfl (dac (zAb 0) (dac (zAb 2) zAd rfl) rfl) ln2))) (zAl zET) zAN)
  (zAl (zAp (zKt (u65 hr) (zAb 3) (zAb 2) (@zBa _ _ _ _ zAd))))))
theorem ok_q8 (G_q5 : FnOk P w K mg base CX0 7 (a 25) (d 25) ["floor", "cell"] (spD K 2 zB5)) : FnOk P w K mg base CX0 8 (a 28) (d 28) ["floor", "cell"] (spD K 2 zCV) := by
 refine zAz (g := zFj) (G := zCV) (N := N_q8) (k := 7) rfl rfl rfl T.F_q8.F zIU fun cdv A outer s H E hr => ?_
 exact (zAi (zAu (i := 2) zIU.nd (dcl T.F_q5 G_q5 hr rfl (dac (zAb 0) (dac (zAb 1) zAd rfl) rfl) ln2))
  (zAl (zAp (zAV rfl (zAS (N' := zGm) (inner := [none, some 2]) (zAh s_q8) N_q8 rfl rfl (by decide +kernel)) (zAP 0) (zAH (zAm ixd (zAb 0) zAe)) (fun _ _ _ _ _ => (zAr (i := 0) zL3)) (fun _ _ _ _ _ => (zA6 (zAs (zMD (u65 hr)) (zAb 0) (zAb 1) (by with_unfolding_all rfl)))) (fun _ _ _ _ _ => (zAb 0))))))
theorem ok_qt (G_qg : FnOk P w K mg base CX0 3 (a 18) (d 18) ["_law_script", "_law_at", "_law_most"] (spD K 3 zCk)) (G_qb : FnOk P w K mg base CX0 3 (a 17) (d 17) ["floor"] (spD K 1 zBw)) (G_qj : FnOk P w K mg base CX0 2 (a 14) (d 14) ["_law_floor_here"] (spD K 1 zCR)) (G_qd : FnOk P w K mg base CX0 1 (a 7) (d 7) ["_law_floor_here"] (spD K 1 zB1)) (G_qa : FnOk P w K mg base CX0 2 (a 13) (d 13) ["_law_script", "_law_k", "_law_many"] (spD K 3 zAZ)) (G_q9 : FnOk P w K mg base CX0 5 (a 22) (d 22) ["floor", "cell"] (spD K 2 zCZ)) (G_q4 : FnOk P w K mg base CX0 5 (a 23) (d 23) ["floor", "cell"] (spD K 2 zCp)) (G_q8 : FnOk P w K mg base CX0 8 (a 28) (d 28) ["floor", "cell"] (spD K 2 zCV)) (G_qk : FnOk P w K mg base CX0 8 (a 27) (d 27) ["floor", "cell", "wall"] (spD K 3 zB2)) (G_qo : FnOk P w K mg base CX0 7 (a 26) (d 26) ["floor", "cell"] (spD K 2 zCm)) (G_qe : FnOk P w K mg base CX0 3 (a 19) (d 19) ["_law_couple", "_law_cell_here"] (spD K 2 zCl)) : FnOk P w K mg base CX0 9 (a 29) (d 29) ["_law_script"] (spD K 1 Glaw) := by
 refine zAz (g := glaw) (G := Glaw) (N := N_qt) (k := 8) rfl rfl rfl T.F_qt.F zA4 fun cdv A outer s H E hr => ?_
 exact (zAi (zAu (i := 1) zA4.nd (dcl T.F_qg G_qg hr rfl (dac (zAb 0) (dac zAe (dac zAe zAd rfl) rfl) rfl) ln3))
  (zAi (zAu (i := 2) zA4.nd (dcl T.F_qb G_qb hr rfl (dac (zAb 1) zAd rfl) ln1))
  (zAi (zAu (i := 3) zA4.nd (dcl T.F_qj G_qj hr rfl (dac (zAb 1) zAd rfl) ln1))
  (zAi (zAu (i := 4) zA4.nd (zAm ixd (dcl T.F_qd G_qd hr rfl (dac (zAb 1) zAd rfl) ln1) (dcl T.F_qa G_qa hr rfl (dac (zAb 0) (dac zAe (dac (zAn zAX (zAm ixd (zAb 1) zAe) (zAm ixd (zAb 1) zAe)) zAd rfl) rfl) rfl) ln3)))
  (zAi (zAu (i := 5) zA4.nd (dcl T.F_qb G_qb hr rfl (dac (dcl T.F_q9 G_q9 hr rfl (dac (zAb 1) (dac (zAb 4) zAd rfl) rfl) ln2) zAd rfl) ln1))
  (zAi (zAu (i := 6) zA4.nd (dcl T.F_qb G_qb hr rfl (dac (dcl T.F_q4 G_q4 hr rfl (dac (zAb 1) (dac (zAb 4) zAd rfl) rfl) ln2) zAd rfl) ln1))
  (zAi (zAM (zAs (zBe (u64 hr)) (zAV rfl (zAS (N' := zGw) (inner := [none, some 2]) (zAh s_qt) N_qt rfl rfl (by decide +kernel)) (zAP 0) (zAH (zAb 5)) (fun _ _ _ _ _ => (zAr (i := 0) zMd)) (fun _ _ _ _ _ => (zA6 (zAs (zCf (u65 hr)) (zAb 0) (zAb 1) (by with_unfolding_all rfl)))) (fun _ _ _ _ _ => (zAb 0))) (@zBa _ _ _ _ zAd) (zAI _)) (zAl (zAp zA5)) zAN)
  (zAi (zAM (zAs (zBe (u64 hr)) (zAV rfl (zAS (N' := zGx) (inner := [none, some 6]) (zAh s_qt) N_qt rfl rfl (by decide +kernel)) (zAP 0) (zAH (zAb 2)) (fun _ _ _ _ _ => (zAr (i := 0) zMe)) (fun _ _ _ _ _ => (zA6 (zAs (zCf (u65 hr)) (zAb 0) (zAb 1) (by with_unfolding_all rfl)))) (fun _ _ _ _ _ => (zAb 0))) (@zBa _ _ _ _ zAd) (zAI _)) (zAl (zAp zA5)) zAN)
  (zAi (zAM (zAs (zBe (u64 hr)) (zAV rfl (zAS (N' := zGy) (inner := [none, some 5, some 4]) (zAh s_qt) N_qt rfl rfl (by decide +kernel)) (zAP 0) (zAH (zAb 6)) (fun _ _ _ _ _ => (zAr (i := 0) zMf)) (fun _ _ _ _ _ => (zA6 (dw_t (zDH (zAs (zCf (u65 hr)) (zAb 0) (zAb 1) (by with_unfolding_all rfl)) (zDI (zC7 (zBG (dcl T.F_qe G_qe hr rfl (dac (zAb 0) (dac (zAb 2) zAd rfl) rfl) ln2)))))))) (fun _ _ _ _ _ => (zAb 0))) (@zBa _ _ _ _ zAd) (zAI _)) (zAl (zAp zA5)) zAN)
  (zAi (zG4 (i := 7) zA4.nd rfl (zAS (N' := zGz) (inner := [none, some 3, some 0]) (zAh s_qt) N_qt rfl rfl (by decide +kernel)) (zAP 0) (zCA rfl T.z_range (dac (zAn zAX zAe (zCw zJ5 rfl T.z_int zJP (dac (zCx (zBe (u64 hr)) (zAb 3) (@zBa _ _ _ _ zAd) (zAI _)) zAd rfl))) zAd rfl)) (fun _ _ _ _ _ => (zAr (i := 0) zMg)) (fun _ _ _ _ _ => zCB) (fun _ _ _ _ _ => (zAm ixd (zAb 1) (dcl T.F_qa G_qa hr rfl (dac (zAb 2) (dac (zAn zAK zAe (zAb 0)) (dac (zBF zDB rfl T.z_len PySem.boot_len (dac (zAb 1) zAd rfl)) zAd rfl) rfl) rfl) ln3))))
  (zAi (zBp Yh rfl (zAH (zAb 7)) (zAr (i := 8) zA4.nd) (zAi (zAu (i := 9) zA4.nd (dcl T.F_q8 G_q8 hr rfl (dac (zAb 1) (dac (zAb 8) zAd rfl) rfl) ln2))
  (zAl (zBp Yh rfl (zAH (zAm ixd (zAb 1) zAe)) (zAr (i := 10) zA4.nd) (zAi (zAu (i := 11) zA4.nd (dcl T.F_qk G_qk hr rfl (dac (zAb 1) (dac (zAb 8) (dac (zAb 10) zAd rfl) rfl) rfl) ln3))
  (zAi (zAu (i := 12) zA4.nd (dcl T.F_qo G_qo hr rfl (dac (dcl T.F_q4 G_q4 hr rfl (dac (zAb 1) (dac (zAb 10) zAd rfl) rfl) ln2) (dac (zAb 8) zAd rfl) rfl) ln2))
  (zAi (zAu (i := 13) zA4.nd (dcl T.F_qo G_qo hr rfl (dac (zAb 1) (dac (zAb 8) zAd rfl) rfl) ln2))
  (zAi (zAM (zAs (zBe (u64 hr)) (zAV rfl (zAS (N' := zGA) (inner := [none, some 10]) (zAh s_qt) N_qt rfl rfl (by decide +kernel)) (zAP 0) (zAH (zAb 12)) (fun _ _ _ _ _ => (zAr (i := 0) zMh)) (fun _ _ _ _ _ => (zA6 (zAs (zBe (u64 hr)) (zAb 0) (zAb 1) (zAI _)))) (fun _ _ _ _ _ => (zAb 0))) (zBF (zGO (u66 hr)) rfl T.z_sorted boot_sorted (dac (zAn zAK (zAb 13) (zAb 11)) zAd rfl)) (zAI _)) (zAl (zAp zA5)) zAN)
  (zAi (zAM (zAs (zBe (u64 hr)) (zCx (zCd (u65 hr)) (zAb 10) (zAb 9) (by with_unfolding_all rfl)) (zCx (zD0 (u64 hr)) (zAb 11) (@zBa _ _ _ _ zAd) (zAI _)) (zAI _)) (zAl (zAp zA5)) zAN)
  (zAi (zG4 (i := 14) zA4.nd rfl (zAS (N' := zGB) (inner := [none, some 8, some 1, some 10]) (zAh s_qt) N_qt rfl rfl (by decide +kernel)) (zAP 0) (zAH (zAb 11)) (fun _ _ _ _ _ => (zAr (i := 0) zMi)) (fun _ _ _ _ _ => (zA6 (zAs (zCf (u65 hr)) (zAb 1) (dcl T.F_qk G_qk hr rfl (dac (zAb 2) (dac (zAb 0) (dac (zAb 3) zAd rfl) rfl) rfl) ln3) (by with_unfolding_all rfl)))) (fun _ _ _ _ _ => (zAb 0)))
  (zAl (zAM (zAs (zBe (u64 hr)) (zAb 14) (@zBa _ _ _ _ zAd) (zAI _)) (zAl (zAp zA5)) zAN))))))))))))
  (zAl (zAp zA5)))))))))))))
end
end My
namespace My
open PySem PySem.SeqAt L2 DL SD SL EL DC
abbrev C := Int × Int
noncomputable def zAa (c : C) : D := .tuple [.int c.1, .int c.2]
theorem ix0 (a : D) (r : List D) : dIx (.tuple (a :: r)) (.int 0) = some a := by
 show L2.atI (a :: r) 0 = some a
 unfold L2.atI L2.ixN
 rw [if_pos (by lia), if_pos (by rw [QM]; lia)]
 rfl
theorem ix0L (a : D) (r : List D) : dIx (.list (a :: r)) (.int 0) = some a := ix0 a r
theorem len_L (l : List D) : dLen [.list l] = some (.int l.length) := id rfl
theorem zBs {i j : Int} (h : zBJ i j = true) : zAt (.int i) (.int j) = some (.int (i * j)) := by
 show (if zBJ i j = true then _ else _) = _
 rw [if_pos h]
theorem zE1 {i j : Int} (h : zCG i j = true) : zBD (.int i) (.int j) = some (.int (i / j)) := by
 show (if zCG i j = true then _ else _) = _
 rw [if_pos h]
theorem zCc {i j : Int} (h : 0 < j) : dMod (.int i) (.int j) = some (.int (i % j)) := by
 show (if decide (0 < j) = true then _ else _) = _
 rw [if_pos (decide_eq_true h)]
theorem okS {i j : Int} (h1 : -18446744073709551616 < i) (h2 : i < 18446744073709551616) : zBJ i j = true := by
 unfold zBJ
 rw [decide_eq_true h1, decide_eq_true h2]
 rfl
theorem okT {i j : Int} (h1 : -18446744073709551616 < j) (h2 : j < 18446744073709551616) : zBJ i j = true := by
 unfold zBJ
 rw [decide_eq_true h1, decide_eq_true h2]
 simp
theorem okD {i j : Int} (h1 : 0 < j) (h2 : j < 1073741824) : zCG i j = true := by
 unfold zCG
 rw [decide_eq_true h1, decide_eq_true h2]
 rfl
section
variable {α β : Type}
theorem zC3 {s : D -> Rho -> Option Rho} {t : Rho -> Option Bool} {ge : Rho -> Option D} (item : α -> D) (p : α -> Bool) (f : α -> D) (I : Rho -> Prop) : ∀ {xs : List α} {ρ : Rho}, I ρ ->
  (∀ a ∈ xs, ∀ ρ, I ρ -> ∃ ρ', s (item a) ρ = some ρ' /\ I ρ' /\ t ρ' = some (p a) /\ (p a = true -> ge ρ' = some (f a))) -> zCu s t ge (xs.map item) ρ = some ((xs.filter p).map f)
 | [], _, _, _ => rfl
 | x :: xs, ρ, h0, h => by
  obtain ⟨ρ', e1, i1, e2, e3⟩ := h x Qf ρ h0
  have ih := zC3 item p f I i1 fun y hy => h y (Qd _ hy)
  rw [Ql]
  unfold zCu
  rw [e1, Qv, e2, Qv]
  cases q : p x with
  | true => rw [if_pos rfl, e3 q, Qv, ih, List.filter_cons_of_pos q]; rfl
  | false => rw [if_neg Qs, ih, List.filter_cons_of_neg (by rw [q]; exact Qs)]
theorem zH2 {gi : Rho -> Option (List D)} {s : D -> Rho -> Option Rho} {t : Rho -> Option Bool} {ge : Rho -> Option D} {inner : List (Option Nat)} {ρ : Rho} {xs : List α} (item : α -> D) (p : α -> Bool) (f : α -> D) (I : Rho -> Prop) (h1 : gi ρ = some (xs.map item)) (hl : xs.length <= 1000) (h0 : I (zBk inner ρ))
  (h : ∀ a ∈ xs, ∀ ρ, I ρ -> ∃ ρ', s (item a) ρ = some ρ' /\ I ρ' /\ t ρ' = some (p a) /\ (p a = true -> ge ρ' = some (f a))) : eLc (zAx gi s t ge inner) ρ = some (.list ((xs.filter p).map f)) := by
 have q := zC3 item p f I h0 h
 unfold eLc zAx
 rw [h1, Qv, q, Qv, if_pos (by rw [Qg]; exact Qt (QP _ _) hl)]
 rfl
theorem zAT {gi : Rho -> Option (List D)} {s : D -> Rho -> Option Rho} {t : Rho -> Option Bool} {ge : Rho -> Option D} {inner : List (Option Nat)} {ρ : Rho} {xs : List α} {out : List D} (item : α -> D) (p : α -> Bool) (f : α -> D) (I : Rho -> Prop) (h1 : gi ρ = some (xs.map item)) (hl : xs.length <= 1000) (h0 : I (zBk inner ρ))
  (h : ∀ a ∈ xs, ∀ ρ, I ρ -> ∃ ρ', s (item a) ρ = some ρ' /\ I ρ' /\ t ρ' = some (p a) /\ (p a = true -> ge ρ' = some (f a))) (ho : (xs.filter p).map f = out) : eLc (zAx gi s t ge inner) ρ = some (.list out) := by
 rw [<- ho]
 exact zH2 item p f I h1 hl h0 h
theorem zCD (l : List α) : l.filter (fun _ => true) = l := by induction l with
 | nil => rfl
 | cons a l ih => simp [ih]
theorem zBS {s : D -> Rho -> Option Rho} {g : Rho -> Option Out} (item : α -> D) (env : β -> Rho) (step : β -> α -> β) (P : Nat -> β -> Prop) (n : Nat) : ∀ (xs : List α) (i : Nat) (b : β), i + xs.length <= n -> P i b ->
  (∀ a ∈ xs, ∀ i b, i < n -> P i b -> (∃ ρ1, s (item a) (env b) = some ρ1 /\ g ρ1 = some (.nx (env (step b a)))) /\ P (i + 1) (step b a)) -> forN s g (xs.map item) (env b) = some (.nx (env (xs.foldl step b)))
 | [], _, b, _, _, _ => rfl
 | x :: xs, i, b, hi, hp, h => by
  rw [QM] at hi
  obtain ⟨⟨ρ1, e1, e2⟩, p2⟩ := h x Qf i b (by lia) hp
  rw [Ql]
  unfold forN
  rw [e1, Qv, e2, Qv]
  exact zBS item env step P n xs (i + 1) _ (by lia) p2 fun a ha => h a (Qd _ ha)
theorem zE6 {s : D -> Rho -> Option Rho} {g : Rho -> Option Out} (item : α -> D) (I : Rho -> Prop) (p : α -> Bool) (d : D) : ∀ (xs : List α) (ρ : Rho), I ρ ->
  (∀ a ∈ xs, ∀ ρ, I ρ -> ∃ ρ1, s (item a) ρ = some ρ1 /\ if p a = true then g ρ1 = some (.rt d) else ∃ ρ2, g ρ1 = some (.nx ρ2) /\ I ρ2) ->
  if xs.any p = true then forN s g (xs.map item) ρ = some (.rt d) else ∃ ρ', forN s g (xs.map item) ρ = some (.nx ρ') /\ I ρ'
 | [], ρ, h0, _ => by rw [if_neg (by simp)]; exact ⟨ρ, rfl, h0⟩
 | x :: xs, ρ, h0, h => by
  obtain ⟨ρ1, e1, e2⟩ := h x Qf ρ h0
  rw [Ql, YX]
  unfold forN
  rw [e1, Qv]
  cases q : p x with
  | true =>
   rw [q, if_pos rfl] at e2
   rw [Bool.true_or, if_pos rfl, e2]
   rfl
  | false =>
   rw [q, if_neg Qs] at e2
   obtain ⟨ρ2, e2, i2⟩ := e2
   rw [Bool.false_or, e2, Qv]
   exact zE6 item I p d xs ρ2 i2 fun a ha => h a (Qd _ ha)
theorem zE7 {s : D -> Rho -> Option Rho} {g : Rho -> Option Out} (item : α -> D) (I : Rho -> Prop) : ∀ (xs : List α) (ρ : Rho), I ρ ->
  (∀ a ∈ xs, ∀ ρ, I ρ -> ∃ ρ1 ρ2, s (item a) ρ = some ρ1 /\ g ρ1 = some (.nx ρ2) /\ I ρ2) -> ∃ ρ', forN s g (xs.map item) ρ = some (.nx ρ') /\ I ρ'
 | [], ρ, h0, _ => ⟨ρ, rfl, h0⟩
 | x :: xs, ρ, h0, h => by
  obtain ⟨ρ1, ρ2, e1, e2, i2⟩ := h x Qf ρ h0
  rw [Ql]
  unfold forN
  rw [e1, Qv, e2, Qv]
  exact zE7 item I xs ρ2 i2 fun a ha => h a (Qd _ ha)
end
theorem zIM (h : Nat) (h2 : h < 1000) : rng1 [.int h] = some ((List.range h).map fun (k : Nat) => .int (k : Int)) := by
 show (if -4611686018427387904 <= (h : Int) /\ (h : Int) < 4611686018427387904 then some ((List.range (h : Int).toNat).map fun (k : Nat) => PyData.int (0 + (k : Int))) else none) = _
 rw [if_pos ⟨by lia, by lia⟩, Jp]
 congr 2
 funext k
 rw [Int.zero_add]
section
variable {g g1 g2 : Rho -> Option Out} {t u : Rho -> Option Bool} {ga gb gc : Rho -> Option D} {gr : Rho -> Option (List D)} {ρ : Rho} {d : D}
theorem ap_op (f : D -> D -> Option D) : eOp f ga gb ρ = (ga ρ).bind fun x => (gb ρ).bind fun y => f x y := id rfl
theorem ap_B : eB ga ρ = (ga ρ).bind asB := id rfl
theorem asB_b (b : Bool) : asB (.bool b) = some b := id rfl
end
section
variable {α β : Type} (a : α) (l m : List α) (n : Nat) (f : α -> β)
theorem O_bs (k : α -> Option β) : (some a).bind k = k a := id rfl
end
noncomputable def zDd {β : Type} (cond : β -> Bool) (step : β -> β) : Nat -> β -> Option β
 | 0, _ => none
 | n + 1, b => if cond b = true then zDd cond step n (step b) else some b
theorem zJB {β : Type} {t : Rho -> Option Bool} {g : Rho -> Option Out} (env : β -> Rho) (cond : β -> Bool) (step : β -> β) (P : Nat -> β -> Prop) (hT : ∀ n b, P n b -> t ((env b).map frz) = some (cond b))
  (hB : ∀ n b, P (n + 1) b -> cond b = true -> g (env b) = some (.nx (env (step b))) /\ P n (step b)) : ∀ n b b', P n b -> zDd cond step n b = some b' -> zB0 t g n (env b) = some (.nx (env b'))
 | 0, _, _, _, h => by cases h
 | n + 1, b, b', p, h => by
  unfold zDd at h
  unfold zB0
  rw [hT _ b p, Qv]
  by_cases c : cond b = true
  ·rw [if_pos c] at h ⊢
   obtain ⟨h1, h2⟩ := hB n b p c
   rw [h1, Qv]
   exact zJB env cond step P hT hB n _ b' h2 h
  ·rw [if_neg c] at h ⊢
   cases h
   rfl
theorem zAk {g1 g2 : Rho -> Option Out} {ρ ρ' : Rho} {r : Option Out} (h : g1 ρ = some (.nx ρ')) (h2 : g2 ρ' = r) : sSeq g1 g2 ρ = r := by
 unfold sSeq
 rw [h]
 exact h2
theorem zDr {g1 g2 : Rho -> Option Out} {ρ : Rho} {d : D} (h : g1 ρ = some (.rt d)) : sSeq g1 g2 ρ = some (.rt d) := by
 unfold sSeq
 rw [h]
 rfl
theorem zAB {n : Nat} {g : Rho -> Option Out} {ds : List D} {d : D} (h : g (zAD n ds) = some (.rt d)) : fnD n g ds = some d := by
 unfold fnD
 rw [h]
theorem zBu {gi : Rho -> Option (List D)} {s : D -> Rho -> Option Rho} {g : Rho -> Option Out} {ρ : Rho} {xs : List D} {r : Option Out} (h1 : gi ρ = some xs) (h2 : forN s g xs ρ = r) : sFor gi s g ρ = r := by
 unfold sFor
 rw [h1]
 exact h2
theorem zBL {t : Rho -> Option Bool} {g1 g2 : Rho -> Option Out} {ρ : Rho} {b : Bool} {r : Option Out} (h : t (ρ.map frz) = some b) (h1 : b = true -> g1 ρ = r) (h2 : b = false -> g2 ρ = r) : sIf t g1 g2 ρ = r := by
 unfold sIf
 rw [h]
 cases b with
 | true => exact h1 rfl
 | false => exact h2 rfl
theorem zAA {ga : Rho -> Option D} {ρ : Rho} {d : D} (h : ga (ρ.map frz) = some d) : sRet ga ρ = some (.rt d) := by
 unfold sRet
 rw [h]
 rfl
theorem zAv {i : Nat} {ga : Rho -> Option D} {ρ : Rho} {d : D} (h : ga ρ = some d) : sSet i ga ρ = some (.nx (ρ.set i (.dat d))) := by
 unfold sSet
 rw [h]
 rfl
theorem zAj {G : List D -> Option D} {gr : Rho -> Option (List D)} {ρ : Rho} {ds : List D} {r : Option D} (h : gr ρ = some ds) (h2 : G ds = r) : zAf G gr ρ = r := by
 unfold zAf
 rw [h]
 exact h2
theorem zIQ {gr : Rho -> Option (List D)} {s : D -> Rho -> Option Rho} {g : Rho -> Option Out} {ρ : Rho} {n : Nat} {r : Option Out} (h1 : gr ρ = some [.int (n : Nat)]) (hn : n < 1000) (h2 : forN s g ((List.range n).map fun (k : Nat) => .int (k : Int)) ρ = r) : sFor (zBb gr) s g ρ = r := by
 show ((gr ρ).bind rng1).bind (fun xs => forN s g xs ρ) = r
 rw [h1, Qv, zIM n hn, Qv]
 exact h2
theorem zDR {gr : Rho -> Option (List D)} {ρ : Rho} {n : Nat} (h1 : gr ρ = some [.int (n : Nat)]) (hn : n < 1000) : zBb gr ρ = some ((List.range n).map fun (k : Nat) => .int (k : Int)) := by
 show (gr ρ).bind rng1 = _
 rw [h1, Qv, zIM n hn]
theorem oo {f : D -> D -> Option D} {ga gb : Rho -> Option D} {ρ : Rho} {x y : D} {r : Option D} (h1 : ga ρ = some x) (h2 : gb ρ = some y) (h3 : f x y = r) : eOp f ga gb ρ = r := by
 unfold eOp
 rw [h1, Qv, h2]
 exact h3
theorem oB {ga : Rho -> Option D} {ρ : Rho} {b : Bool} (h : ga ρ = some (.bool b)) : eB ga ρ = some b := by
 unfold eB
 rw [h]
 rfl
theorem zF3 {i : Nat} {ga : Rho -> Option D} {ρ : Rho} {ds : List D} {d : D} (h1 : ρ[i]? = some (.own ds)) (h2 : ga ρ = some d) (h3 : ds.length < 1000) : sApp i ga ρ = some (.nx (ρ.set i (.own (ds ++ [d])))) := by
 unfold sApp
 rw [h1]
 show (ga ρ).bind _ = _
 rw [h2, Qv, if_pos h3]
theorem zDq {ga : Rho -> Option D} {ρ : Rho} {d : D} (h : ga ρ = some d) : zBY ga ρ = some (.nx ρ) := by
 unfold zBY
 rw [h]
 rfl
theorem zAw {ga : Rho -> Option D} {gr : Rho -> Option (List D)} {ρ : Rho} {d : D} {ds : List D} (h : ga ρ = some d) (h2 : gr ρ = some ds) : zAc ga gr ρ = some (d :: ds) := by
 unfold zAc
 rw [h, Qv, h2]
 rfl
theorem zAJ {t : Rho -> Option Bool} {g1 : Rho -> Option Out} {ρ : Rho} (h : t (ρ.map frz) = some false) : sIf t g1 zAG ρ = some (.nx ρ) := by
 unfold sIf
 rw [h]
 rfl
theorem oN {t : Rho -> Option Bool} {ρ : Rho} {b : Bool} (h : t ρ = some b) : eNot t ρ = some (!b) := by
 unfold eNot
 rw [h]
 rfl
theorem oA1 {t u : Rho -> Option Bool} {ρ : Rho} {r : Option Bool} (h : t ρ = some true) (h2 : u ρ = r) : eAnd t u ρ = r := by
 unfold eAnd
 rw [h]
 exact h2
theorem oA0 {t u : Rho -> Option Bool} {ρ : Rho} (h : t ρ = some false) : eAnd t u ρ = some false := by
 unfold eAnd
 rw [h]
 rfl
theorem zHk {n : Nat} {g : Rho -> Option Out} {ds : List D} {ρ : Rho} (h : g (zAD n ds) = some (.nx ρ)) : fnD n g ds = some .none := by
 unfold fnD
 rw [h]
theorem oAV {ga gb : Rho -> Option D} {ρ : Rho} {r : Option D} (h : ga ρ = some (.bool true)) (h2 : gb ρ = r) : zCC ga gb ρ = r := by
 unfold zCC
 rw [h]
 exact h2
theorem oT2 {ga gb : Rho -> Option D} {ρ : Rho} {x y : D} (h1 : ga ρ = some x) (h2 : gb ρ = some y) : eTup (zAc ga (zAc gb eNil)) ρ = some (.tuple [x, y]) := by
 unfold eTup
 rw [zAw h1 (zAw h2 rfl)]
 rfl
theorem oT1 {ga : Rho -> Option D} {ρ : Rho} {x : D} (h1 : ga ρ = some x) : eTup (zAc ga eNil) ρ = some (.tuple [x]) := by
 unfold eTup
 rw [zAw h1 rfl]
 rfl
theorem oT3 {ga gb gc : Rho -> Option D} {ρ : Rho} {x y z : D} (h1 : ga ρ = some x) (h2 : gb ρ = some y) (h3 : gc ρ = some z) : eTup (zAc ga (zAc gb (zAc gc eNil))) ρ = some (.tuple [x, y, z]) := by
 unfold eTup
 rw [zAw h1 (zAw h2 (zAw h3 rfl))]
 rfl
theorem zAO {ga : Rho -> Option D} {ρ : Rho} {d : D} {l : List D} (h1 : ga ρ = some d) (h2 : seqD d = some l) : iSeq ga ρ = some l := by
 show (ga ρ).bind seqD = _
 rw [h1, Qv, h2]
end My
namespace My
open PySem PySem.SeqAt L2 DL SD SL EL DC
abbrev Row := List Int
noncomputable def insL (p : Row) : List Row -> List Row
 | [] => [p]
 | q :: r => if HT.lexLt q p = true then q :: insL p r else p :: q :: r
noncomputable def zBg : List Row -> List Row
 | [] => []
 | p :: r => insL p (zBg r)
noncomputable def fK (k : Row) : KD := (k, tupI k)
theorem zHP (p : Row) : ∀ l : List Row, insK (fK p) (l.map fK) = (insL p l).map fK
 | [] => rfl
 | q :: r => by
  show (if HT.lexLt q p = true then fK q :: insK (fK p) (r.map fK) else fK p :: fK q :: r.map fK) = (if HT.lexLt q p = true then q :: insL p r else p :: q :: r).map fK
  split
  ·rw [zHP p r]; rfl
  ·rfl
theorem zGa : ∀ l : List Row, zAU (l.map fK) = (zBg l).map fK
 | [] => rfl
 | p :: r => by
  show insK (fK p) (zAU (r.map fK)) = (insL p (zBg r)).map fK
  rw [zGa r, zHP]
theorem zHQ (p : Row) : ∀ l : List Row, (insL p l).Perm (p :: l)
 | [] => .refl _
 | q :: r => by
  unfold insL
  split
  ·exact ((zHQ p r).cons q).trans (.swap _ _ _)
  ·exact .refl _
theorem zGb : ∀ l : List Row, (zBg l).Perm l
 | [] => .refl _
 | p :: r => (zHQ p (zBg r)).trans ((zGb r).cons p)
theorem zNV (l : List Row) : (zBg l).Pairwise fun a b => HT.lexLt b a = false := by
 have := zDw (l.map fK)
 rw [zGa, Q6] at this
 exact this
theorem zGX : ∀ l : List Row, l.Nodup -> dd l = l
 | [], _ => rfl
 | k :: r, h => by
  obtain ⟨h1, h2⟩ := Q5.mp h
  unfold dd
  rw [if_neg h1, zGX r h2]
theorem zH6 : ∀ {k m : Row}, k.length = m.length -> zA7 (k.map PyData.int) (m.map PyData.int) = true
 | [], [], _ => rfl
 | x :: k, y :: m, h => by
  show (zBl (.int x) (.int y) && zA7 (k.map PyData.int) (m.map PyData.int)) = true
  rw [zH6 (by simpa using h)]
  rfl
 | [], _ :: _, h => by cases h
 | _ :: _, [], h => by cases h
theorem zHi : ∀ k : Row, zBj (k.map PyData.int) = some k
 | [] => rfl
 | x :: k => by
  have := zHi k
  simp [zBj, zBR, this]
theorem zIP {d0 : Row} (h0 : d0 ≠ []) : ∀ {l : List Row}, (∀ k ∈ l, k.length = d0.length) -> zAY (d0.map PyData.int) (l.map tupI) = some (l.map fK)
 | [], _ => rfl
 | k :: l, h => by
  have hk := h k Qf
  have e1 : rowK (d0.map PyData.int) (tupI k) = some k := by
   cases k with
   | nil => exact absurd (Jh hk.symm) h0
   | cons x k =>
    show (if zA7 (d0.map PyData.int) ((x :: k).map PyData.int) = true then zBj ((x :: k).map PyData.int) else none) = _
    rw [if_pos (zH6 hk.symm), zHi]
  show (rowK (d0.map PyData.int) (tupI k)).bind _ = _
  rw [e1, Qv, zIP h0 fun k hk => h k (Qd _ hk)]
  rfl
theorem zDx {l : List Row} (h : ∀ k ∈ l, k.length = 2) (hl : l.length <= 63) : zBE [.list (l.map tupI)] = some (.list ((zBg l).map tupI)) := by
 cases l with
 | nil => rfl
 | cons k0 kr =>
  have h0 : k0.length = 2 := h k0 Qf
  have e2 := zIP (d0 := k0) (fun q => by rw [q] at h0; cases h0) (l := k0 :: kr) fun k hk => (h k hk).trans h0.symm
  show (if (kr.map tupI).length < 63 then (zAY (k0.map PyData.int) ((k0 :: kr).map tupI)).bind fun l => some (PyData.list ((zAU l).map (·.2))) else none) = _
  rw [if_pos (by rw [Qg]; simp only [QM] at hl; lia), e2]
  show some (PyData.list ((zAU ((k0 :: kr).map fK)).map (·.2))) = _
  rw [zGa, QV]
  rfl
noncomputable def row (c : C) : Row := [c.1, c.2]
noncomputable def ltC (a b : C) : Bool := HT.lexLt (row a) (row b)
theorem zBV (a b : C) : ltC a b = true ↔ a.1 < b.1 ∨ (a.1 = b.1 /\ a.2 < b.2) := by
 unfold ltC row
 rw [HT.lexLt_cons]
 by_cases h : a.1 = b.1
 ·rw [if_pos h, HT.lexLt_cons]
  by_cases h' : a.2 = b.2
  ·rw [if_pos h']; simp [HT.lexLt]; lia
  ·rw [if_neg h']; simp; lia
 ·rw [if_neg h]; simp; lia
noncomputable def Up (l : List C) : Prop := l.Pairwise fun a b => ltC a b = true
theorem zGf : ∀ {l m : List C}, Up l -> Up m -> (∀ c, c ∈ l ↔ c ∈ m) -> l = m
 | [], [], _, _, _ => rfl
 | [], b :: m, _, _, h => nomatch (h b).mpr Qf
 | a :: l, [], _, _, h => nomatch (h a).mp Qf
 | a :: l, b :: m, h1, h2, h => by
  obtain ⟨a1, a2⟩ := Q3.mp h1
  obtain ⟨b1, b2⟩ := Q3.mp h2
  have irr : ∀ c : C, ltC c c = true -> False := fun c q => by rw [zBV] at q; lia
  have e : a = b := by
   rcases Qh.mp ((h a).mp Qf) with q | q
   ·exact q
   ·rcases Qh.mp ((h b).mpr Qf) with r | r
    ·exact r.symm
    ·have x := b1 a q
     have y := a1 b r
     rw [zBV] at x y
     lia
  subst e
  congr 1
  refine zGf a2 b2 fun c => ⟨fun q => ?_, fun q => ?_⟩
  ·rcases Qh.mp ((h c).mp (Qd _ q)) with r | r
   ·subst r; exact (irr _ (a1 _ q)).elim
   ·exact r
  ·rcases Qh.mp ((h c).mpr (Qd _ q)) with r | r
   ·subst r; exact (irr _ (b1 _ q)).elim
   ·exact r
theorem zDz {l : List C} (h : Up l) : l.Nodup := h.imp fun {a b} q e => by subst e; rw [zBV] at q; lia
theorem zNU {l : List C} (hn : l.Nodup) : ∃ m : List C, zBg (l.map row) = m.map row /\ Up m /\ ∀ c, c ∈ m ↔ c ∈ l := by
 obtain ⟨m, hm⟩ : ∃ m : List C, m = (zBg (l.map row)).map fun r => (r.getD 0 0, r.getD 1 0) := ⟨_, rfl⟩
 have mem : ∀ r, r ∈ zBg (l.map row) ↔ r ∈ l.map row := fun r => (zGb _).mem_iff
 have e : zBg (l.map row) = m.map row := by
  rw [hm, QV]
  conv => lhs; rw [<- List.map_id (zBg (l.map row))]
  refine Yt fun r hr => ?_
  obtain ⟨c, _, rfl⟩ := Qr.mp ((mem r).mp hr)
  rfl
 have inj : ∀ a b : C, row a = row b -> a = b := fun a b q => by
  unfold row at q
  injection q with q1 q2
  injection q2 with q2 _
  exact Jn q1 q2
 have mm : ∀ c, c ∈ m ↔ c ∈ l := fun c => by
  constructor
  ·intro h
   have : row c ∈ l.map row := (mem _).mp (by rw [e]; exact List.mem_map_of_mem h)
   obtain ⟨d, hd, q⟩ := Qr.mp this
   rw [<- inj _ _ q]; exact hd
  ·intro h
   have : row c ∈ m.map row := by rw [<- e]; exact (mem _).mpr (List.mem_map_of_mem h)
   obtain ⟨d, hd, q⟩ := Qr.mp this
   rw [<- inj _ _ q]; exact hd
 refine ⟨m, e, ?_, mm⟩
 have s := zNV (l.map row)
 have n : (zBg (l.map row)).Nodup := (zGb _).nodup_iff.mpr (by
  rw [List.Nodup, Q6]
  exact hn.imp fun {a b} q r => q (inj _ _ r))
 rw [e] at s n
 rw [Q6] at s
 rw [List.Nodup, Q6] at n
 refine (s.and n).imp fun {a b} h => ?_
 cases q : ltC a b with
 | true => rfl
 | false => exact absurd (zDe _ _ q h.1) h.2
theorem zD8 (l : List C) : (l.map row).map tupI = l.map zAa := by rw [QV]; rfl
theorem zGd {l m : List C} (hn : l.Nodup) (hl : l.length <= 63) (hm : Up m) (h : ∀ c, c ∈ m ↔ c ∈ l) : zBE [.list (l.map zAa)] = some (.list (m.map zAa)) := by
 rw [<- zD8 l, zDx (fun k hk => by obtain ⟨c, _, rfl⟩ := Qr.mp hk; rfl) (by rw [Qg]; exact hl)]
 obtain ⟨m', e1, e2, e3⟩ := zNU hn
 rw [e1, zD8, zGf e2 hm fun c => (e3 c).trans (h c).symm]
noncomputable def cells (w h : Nat) : List C := (List.range w).flatMap fun (x : Nat) => (List.range h).map fun (y : Nat) => ((x : Int), (y : Int))
noncomputable def inR (w h : Nat) (c : C) : Bool := decide (0 <= c.1) && decide (c.1 < w) && decide (0 <= c.2) && decide (c.2 < h)
theorem zDN {w h : Nat} {c : C} : inR w h c = true ↔ 0 <= c.1 /\ c.1 < w /\ 0 <= c.2 /\ c.2 < h := by
 unfold inR
 simp only [Qw, decide_eq_true_eq]
 constructor
 ·intro q; exact ⟨q.1.1.1, q.1.1.2, q.1.2, q.2⟩
 ·intro q; exact ⟨⟨⟨q.1, q.2.1⟩, q.2.2.1⟩, q.2.2.2⟩
theorem zBr {w h : Nat} {c : C} : c ∈ cells w h ↔ inR w h c = true := by
 unfold cells
 rw [List.mem_flatMap, zDN]
 constructor
 ·rintro ⟨x, hx, hc⟩
  obtain ⟨y, hy, rfl⟩ := Qr.mp hc
  exact ⟨YH _, YU.mpr (QL.mp hx), YH _, YU.mpr (QL.mp hy)⟩
 ·rintro ⟨q1, q2, q3, q4⟩
  exact ⟨c.1.toNat, QL.mpr ((Int.toNat_lt q1).mpr q2), Qr.mpr ⟨c.2.toNat, QL.mpr ((Int.toNat_lt q3).mpr q4), Jn (Jx q1) (Jx q3)⟩⟩
theorem zOk (h : Nat) (x : Nat) : Up ((List.range h).map fun (y : Nat) => ((x : Int), (y : Int))) := by
 unfold Up
 rw [Q6]
 refine List.pairwise_lt_range.imp fun {a b} q => ?_
 rw [zBV]
 dsimp only
 lia
theorem zCj (w h : Nat) : Up (cells w h) := by
 unfold Up cells
 rw [List.pairwise_flatMap]
 refine ⟨fun x _ => zOk h x, List.pairwise_lt_range.imp fun {a b} q c hc d hd => ?_⟩
 obtain ⟨y, _, rfl⟩ := Qr.mp hc
 obtain ⟨z, _, rfl⟩ := Qr.mp hd
 rw [zBV]
 dsimp only
 lia
theorem zBZ {l : List C} (h : Up l) (p : C -> Bool) : Up (l.filter p) := List.Pairwise.filter p h
theorem zJj (h : Nat) : ∀ l : List Nat, (l.map fun _ => h).sum = l.length * h
 | [] => by simp
 | _ :: l => by rw [Ql, List.sum_cons, zJj h l, QM, Nat.succ_mul, Nat.add_comm]
theorem zB8 (w h : Nat) : (cells w h).length = w * h := by
 unfold cells
 rw [List.length_flatMap]
 simp only [Qg, QW]
 rw [zJj, QW]
end My
namespace My
open PySem PySem.SeqAt L2 DL SD SL EL DC
noncomputable def zEr (fx fy : Int) : Nat -> Int -> Int -> Option (List C)
 | 0, _, _ => none
 | n + 1, gx, gy => if gx < fx ∨ gy < fy then
   (zEr fx fy n (if (2 * gx + 1) * fy <= (2 * gy + 1) * fx then gx + 1 else gx) (if (2 * gy + 1) * fx <= (2 * gx + 1) * fy then gy + 1 else gy)).bind fun r =>
    some ((if (2 * gx + 1) * fy <= (2 * gy + 1) * fx then gx + 1 else gx, if (2 * gy + 1) * fx <= (2 * gx + 1) * fy then gy + 1 else gy) :: r)
  else some []
noncomputable def iabs (i : Int) : Int := if i < 0 then -i else i
noncomputable def sgn (a : Int) : Int := if 0 < a then 1 else -1
noncomputable def rel (a b : Int) : Option (List C) := (zEr (iabs a) (iabs b) 900 0 0).bind fun st => some ((0, 0) :: st.map fun g => (sgn a * g.1, sgn b * g.2))
noncomputable def relT (a b : Int) : List C := (rel a b).getD []
noncomputable def sub (d : C) (g : C) : C := (g.1 - d.1, g.2 - d.2)
noncomputable def add (d : C) (g : C) : C := (d.1 + g.1, d.2 + g.2)
noncomputable def eqL : List C -> List C -> Bool
 | [], [] => true
 | a :: l, b :: m => a.1 == b.1 && a.2 == b.2 && eqL l m
 | _, _ => false
theorem zC8 : ∀ {l m : List C}, eqL l m = true -> l = m
 | [], [], _ => rfl
 | a :: l, b :: m, h => by
  unfold eqL at h
  simp only [Qw, beq_iff_eq] at h
  rw [zC8 h.2, Jn h.1.1 h.1.2]
 | [], _ :: _, h => by cases h
 | _ :: _, [], h => by cases h
noncomputable def chk (a b : Int) : Bool := match rel a b with
 | some ((0, 0) :: st) => decide (st.length <= 8) && eqL (relT (-a) (-b)) ((((0, 0) :: st).reverse).map (sub (a, b))) && eqL (relT (-a) b) (((0, 0) :: st).map fun g => (-g.1, g.2)) && eqL (relT b a) (((0, 0) :: st).map fun g => (g.2, g.1))
   && eqL ((((0, 0) :: st).dropLast ++ [(a, b)])) ((0, 0) :: st) && ((0, 0) :: st).all (fun g => decide (0 <= sgn a * g.1) && decide (sgn a * g.1 <= iabs a) && decide (0 <= sgn b * g.2) && decide (sgn b * g.2 <= iabs b))
 | _ => false
noncomputable def rng4 : List Int := [-4, -3, -2, -1, 0, 1, 2, 3, 4]
theorem zJ8 : (rng4.all fun a => rng4.all fun b => chk a b) = true := by decide +kernel
theorem zIb {a : Int} (h : -4 <= a) (h' : a <= 4) : a ∈ rng4 := by
 have k : ∀ n : Fin 9, ((n.val : Int) - 4) ∈ rng4 := by decide
 have e : (((a + 4).toNat : Nat) : Int) - 4 = a := by lia
 have := k ⟨(a + 4).toNat, by lia⟩
 rw [e] at this
 exact this
structure zGi (a b : Int) : Prop where
 some : rel a b = some (relT a b)
 len : (relT a b).length <= 9
 first : ∃ st, relT a b = (0, 0) :: st
 back : relT (-a) (-b) = (relT a b).reverse.map (sub (a, b))
 mir : relT (-a) b = (relT a b).map fun g => (-g.1, g.2)
 flip : relT b a = (relT a b).map fun g => (g.2, g.1)
 last : (relT a b).dropLast ++ [(a, b)] = relT a b
 box : ∀ g ∈ relT a b, 0 <= sgn a * g.1 /\ sgn a * g.1 <= iabs a /\ 0 <= sgn b * g.2 /\ sgn b * g.2 <= iabs b
theorem zLJ {a b : Int} (ha : -4 <= a) (ha' : a <= 4) (hb : -4 <= b) (hb' : b <= 4) : zGi a b := by
 have c := QF.mp (QF.mp zJ8 a (zIb ha ha')) b (zIb hb hb')
 unfold chk at c
 split at c
 ·rename_i st e
  have r : relT a b = (0, 0) :: st := by unfold relT; rw [e]; rfl
  simp only [Qw, decide_eq_true_eq] at c
  obtain ⟨⟨⟨⟨⟨c1, c2⟩, c3⟩, c4⟩, c5⟩, c6⟩ := c
  refine ⟨by rw [e, r], by rw [r, QM]; lia, ⟨st, r⟩, by rw [r]; exact zC8 c2, by rw [r]; exact zC8 c3, by rw [r]; exact zC8 c4, by rw [r]; exact zC8 c5, fun g hg => ?_⟩
  rw [r] at hg
  have := QF.mp c6 g hg
  simp only [Qw, decide_eq_true_eq] at this
  exact ⟨this.1.1.1, this.1.1.2, this.1.2, this.2⟩
 ·cases c
noncomputable def diag (g h : C) : Bool := !(g.1 == h.1) && !(g.2 == h.2)
noncomputable def zA3 (S : C -> Bool) : List C -> Bool
 | g :: h :: r => (!diag g h || !(S (g.1, h.2) && S (h.1, g.2))) && zA3 S (h :: r)
 | _ => true
theorem zDl (S : C -> Bool) (g h : C) (r : List C) : zA3 S (g :: h :: r) = ((!diag g h || !(S (g.1, h.2) && S (h.1, g.2))) && zA3 S (h :: r)) := rfl
theorem zIB (S : C -> Bool) : ∀ (l : List C) (g h : C), zA3 S (l ++ [g, h]) = (zA3 S (l ++ [g]) && zA3 S [g, h])
 | [], g, h => by simp [zA3]
 | [a], g, h => by simp [zA3]
 | a :: b :: l, g, h => by
  have ih := zIB S (b :: l) g h
  rw [YI, YI] at ih
  rw [YI, YI, YI, YI, zDl, zDl, ih, Bool.and_assoc]
theorem zKD (g h : C) : diag g h = diag h g := by
 unfold diag
 rw [Yg]
 simp only [Qw, YN, beq_eq_false_iff_ne, ne_eq]
 constructor <;> (rintro ⟨a, b⟩; exact ⟨fun q => a q.symm, fun q => b q.symm⟩)
theorem zID (S : C -> Bool) : ∀ l : List C, zA3 S l.reverse = zA3 S l
 | [] => rfl
 | [a] => rfl
 | a :: b :: l => by
  have ih := zID S (b :: l)
  rw [List.reverse_cons] at ih
  rw [List.reverse_cons, List.reverse_cons, Q1, List.singleton_append, zIB, ih, zDl, Jz]
  congr 1
  show ((!diag b a || !(S (b.1, a.2) && S (a.1, b.2))) && true) = _
  rw [Bool.and_true, zKD b a, Jz (S (b.1, a.2))]
noncomputable def line (a b : C) : List C := (relT (b.1 - a.1) (b.2 - a.2)).map (add a)
noncomputable def clear (S : C -> Bool) (a b : C) : Bool := (line a b).dropLast.all (fun c => !S c) && zA3 S (line a b)
noncomputable def seeB (S : C -> Bool) (a b : C) : Bool := !S b && clear S a b
structure Near (a b : C) : Prop where
 x0 : -4 <= b.1 - a.1
 x1 : b.1 - a.1 <= 4
 y0 : -4 <= b.2 - a.2
 y1 : b.2 - a.2 <= 4
theorem Near.ok {a b : C} (n : Near a b) : zGi (b.1 - a.1) (b.2 - a.2) := zLJ n.x0 n.x1 n.y0 n.y1
theorem Near.symm {a b : C} (n : Near a b) : Near b a := by
 obtain ⟨h1, h2, h3, h4⟩ := n
 exact ⟨by lia, by lia, by lia, by lia⟩
theorem zFB {a b : C} (n : Near a b) : (line a b).dropLast ++ [b] = line a b := by
 have := n.ok.last
 unfold line
 conv => rhs; rw [<- this, QS]
 rw [List.map_dropLast.symm]
 congr 1
 show [b] = [(a.1 + (b.1 - a.1), a.2 + (b.2 - a.2))]
 congr 1
 exact Jn (by dsimp only; lia) (by dsimp only; lia)
theorem zLI {a b : C} (n : Near a b) : ∃ st, line a b = a :: st := by
 obtain ⟨st, e⟩ := n.ok.first
 unfold line
 rw [e]
 exact ⟨st.map (add a), by rw [Ql]; congr 1; exact Jn (by show a.1 + 0 = a.1; lia) (by show a.2 + 0 = a.2; lia)⟩
theorem zF7 {S : C -> Bool} {a b : C} (n : Near a b) : seeB S a b = ((line a b).all (fun c => !S c) && zA3 S (line a b)) := by
 unfold seeB clear
 conv => rhs; rw [<- zFB n, List.all_append, zFB n]
 simp only [List.all_cons, List.all_nil, Bool.and_true]
 rw [<- Bool.and_assoc, Jz (!S b)]
theorem zLK {a b : C} (n : Near a b) : line b a = (line a b).reverse := by
 unfold line
 have e1 : a.1 - b.1 = -(b.1 - a.1) := by lia
 have e2 : a.2 - b.2 = -(b.2 - a.2) := by lia
 rw [e1, e2, n.ok.back, QV, List.map_reverse]
 congr 1
 refine Yt fun g _ => ?_
 exact Jn (by show b.1 + (g.1 - (b.1 - a.1)) = a.1 + g.1; lia) (by show b.2 + (g.2 - (b.2 - a.2)) = a.2 + g.2; lia)
theorem zIZ {S : C -> Bool} {a b : C} (n : Near a b) : seeB S a b = seeB S b a := by
 rw [zF7 n, zF7 n.symm, zLK n, zID, List.all_reverse]
theorem zIC {S T : C -> Bool} (h : ∀ c, T c = true -> S c = true) : ∀ l : List C, zA3 S l = true -> zA3 T l = true
 | [], _ => rfl
 | [a], _ => rfl
 | a :: b :: l, q => by
  rw [zDl, Qw] at q ⊢
  refine ⟨?_, zIC h (b :: l) q.2⟩
  have q1 := q.1
  rw [JD] at q1 ⊢
  rcases q1 with q1 | q1
  ·exact .inl q1
  ·right
   rw [YN, Bool.and_eq_false_iff] at q1 ⊢
   rcases q1 with q1 | q1
   ·left
    cases e : T (a.1, b.2) with
    | false => rfl
    | true => rw [h _ e] at q1; cases q1
   ·right
    cases e : T (b.1, a.2) with
    | false => rfl
    | true => rw [h _ e] at q1; cases q1
theorem zJ9 {S T : C -> Bool} {a b : C} (h : ∀ c, T c = true -> S c = true) (q : clear S a b = true) : clear T a b = true := by
 unfold clear at q ⊢
 rw [Qw] at q ⊢
 refine ⟨?_, zIC h _ q.2⟩
 rw [QF] at q ⊢
 intro c hc
 have := q.1 c hc
 rw [YN] at this ⊢
 cases e : T c with
 | false => rfl
 | true => rw [h _ e] at this; cases this
end My
namespace My
open PySem PySem.SeqAt L2 DL SD SL EL DC
noncomputable def scr (ns : List Int) : D := .list (ns.map PyData.int)
theorem zDT : ∀ ns : List Int, PyData.canLayAll0 (ns.map PyData.int) = true /\ PyData.depthAll (ns.map PyData.int) = 0
 | [] => ⟨rfl, rfl⟩
 | _ :: r => ⟨by simp [PyData.canLayAll0, PyData.canLay0, (zDT r).1], by simp [PyData.depthAll, PyData.depth, (zDT r).2]⟩
theorem zNM (ns : List Int) : SeqAt.shaped (scr ns) = true := by
 simp [SeqAt.shaped, scr, PyData.canLay0, PyData.depth, (zDT ns).1, (zDT ns).2]
theorem zJK {ns : List Int} {i : Int} (h0 : 0 <= i) (h1 : i < ns.length) : ∃ r, dIx (scr ns) (.int i) = some (.int r) := by
 show ∃ r, L2.atI (ns.map PyData.int) i = some (.int r)
 unfold L2.atI L2.ixN
 rw [Qg, if_pos h0, if_pos h1]
 have : i.toNat < ns.length := by lia
 exact ⟨ns[i.toNat], by simp [this]⟩
theorem zJ7 (ns : List Int) (hn : ns.length <= 63) (k : Int) : ∃ r, zCQ [scr ns, .int k] = some (.int r) := by
 cases ns with
 | nil =>
  have e : dEq (scr []) (.list []) = some (.bool true) := rfl
  have m : zAt (.int 7) (.int k) = some (.int (7 * k)) := zBs (okS (by decide) (by decide))
  exact ⟨7 * k, zAB (zDr (zBL (b := true) rfl (fun _ => zAA (oo rfl rfl m)) fun z => by cases z))⟩
 | cons n ns =>
  have hl : (0 : Int) < ((n :: ns).length : Int) := by rw [QM]; lia
  have e : dEq (scr (n :: ns)) (.list []) = some (.bool false) := by
   unfold dEq
   rw [zNM]
   rfl
  have ln : dLen [scr (n :: ns)] = some (.int ((n :: ns).length : Int)) := by
   show some (PyData.int (((n :: ns).map PyData.int).length : Int)) = _
   rw [Qg]
  obtain ⟨r, hr⟩ := zJK (ns := n :: ns) (i := k % ((n :: ns).length : Int)) (Int.emod_nonneg _ (by lia)) (Jj _ hl)
  have hl' : ((n :: ns).length : Int) < 1073741824 := by lia
  generalize ((n :: ns).length : Int) = L at *
  generalize scr (n :: ns) = S at *
  have m1 := zCc (i := k) hl
  have m2 := zE1 (i := k) (okD hl hl')
  have m3 : zAt (.int 6553) (.int (k / L)) = some (.int (6553 * (k / L))) := zBs (okS (by decide) (by decide))
  exact ⟨r + 6553 * (k / L), zAB (zAk (zAJ (oB (oo rfl rfl e))) (zAA (oo (oo rfl (oo rfl (zAj rfl ln) m1) hr) (oo rfl (oo rfl (zAj rfl ln) m2) m3) rfl)))⟩
noncomputable def dr (ns : List Int) (k m : Int) : Int := match zAZ [scr ns, .int k, .int m] with
 | some (.int r) => r
 | _ => 0
theorem zB9 (ns : List Int) (hn : ns.length <= 63) (k m : Int) (hm : 0 < m) : zAZ [scr ns, .int k, .int m] = some (.int (dr ns k m)) /\ 0 <= dr ns k m /\ dr ns k m < m := by
 have key : ∃ r, zAZ [scr ns, .int k, .int m] = some (.int r) /\ 0 <= r /\ r < m := by
  obtain ⟨c, hc⟩ := zJ7 ns hn k
  obtain ⟨u, hu⟩ : ∃ u, u = ((c % 2147483563) * 69069 + 104723 * (k + 1)) % 2147483563 := ⟨_, rfl⟩
  have u0 : 0 <= u := by rw [hu]; exact Int.emod_nonneg _ (by decide)
  have u1 : u < 2147483563 := by rw [hu]; exact Jj _ (by decide)
  obtain ⟨v, hv⟩ : ∃ v, v = (u * u + u / 3) % 2147483399 := ⟨_, rfl⟩
  have v0 : 0 <= v := by rw [hv]; exact Int.emod_nonneg _ (by decide)
  have v1 : v < 2147483399 := by rw [hv]; exact Jj _ (by decide)
  have a1 : dMod (.int ((c % 2147483563) * 69069 + 104723 * (k + 1))) (.int 2147483563) = some (.int u) := by rw [hu]; exact zCc (by decide)
  have a0 : dMod (.int c) (.int 2147483563) = some (.int (c % 2147483563)) := zCc (by decide)
  have a2 : zAt (.int (c % 2147483563)) (.int 69069) = some (.int (c % 2147483563 * 69069)) := zBs (okT (by decide) (by decide))
  have a3 : zAt (.int 104723) (.int (k + 1)) = some (.int (104723 * (k + 1))) := zBs (okS (by decide) (by decide))
  have a4 : zAt (.int u) (.int u) = some (.int (u * u)) := zBs (okS (Int.lt_of_lt_of_le (by decide) u0) (Int.lt_trans u1 (by decide)))
  have a5 : ∀ i j : Int, 0 < j -> j < 1073741824 -> zBD (.int i) (.int j) = some (.int (i / j)) := fun i j h h2 => zE1 (okD h h2)
  have a6 : dMod (.int (u * u + u / 3)) (.int 2147483399) = some (.int v) := by rw [hv]; exact zCc (by decide)
  have a7 : zAt (.int v) (.int v) = some (.int (v * v)) := zBs (okS (Int.lt_of_lt_of_le (by decide) v0) (Int.lt_trans v1 (by decide)))
  refine ⟨(v * v + v / 7) % 2147483647 / 11 % m, ?_, Int.emod_nonneg _ (Int.ne_of_gt hm), Jj _ hm⟩
  exact zAB (zAk (zAv (oo (oo (oo (oo (zAj rfl hc) rfl a0) rfl a2) (oo rfl rfl a3) rfl) rfl a1)) (zAk (zAv (oo (oo (oo rfl rfl a4) (oo rfl rfl (a5 _ _ (by decide) (by decide))) rfl) rfl a6)) (zAA (oo (oo (oo (oo (oo rfl rfl a7) (oo rfl rfl (a5 _ _ (by decide) (by decide))) rfl) rfl (zCc (by decide))) rfl (a5 _ _ (by decide) (by decide))) rfl (zCc hm)))))
 obtain ⟨r, h1, h2, h3⟩ := key
 have : dr ns k m = r := by unfold dr; rw [h1]
 rw [this]
 exact ⟨h1, h2, h3⟩
noncomputable def zBA (w h : Nat) (W : C -> Bool) : D := .tuple (((cells w h).filter W).map zAa)
noncomputable def flD (w h : Nat) (W : C -> Bool) : D := .tuple [.int w, .int h, zBA w h W]
theorem zKX (w h : Nat) (p : Nat -> Nat -> Bool) : ((List.range w).flatMap fun (x : Nat) => ((List.range h).filter (p x)).map fun (y : Nat) => ((x : Int), (y : Int))) = (cells w h).filter fun c => p c.1.toNat c.2.toNat := by
 unfold cells
 rw [List.filter_flatMap]
 congr 1
 funext x
 rw [List.filter_map]
 rfl
theorem zE0 {i : Nat} {ga : Rho -> Option D} {ρ : Rho} {ds es : List D} (h1 : ρ[i]? = some (.own ds)) (h2 : ga ρ = some (.list es)) (h3 : ds.length + es.length <= 1000) : sExt i ga ρ = some (.nx (ρ.set i (.own (ds ++ es)))) := by
 unfold sExt
 rw [h1]
 show (ga ρ).bind _ = _
 rw [h2]
 show (if ds.length + es.length <= 1000 then _ else _) = _
 rw [if_pos h3]
theorem zE4 {α : Type} (f : Nat -> List α) : ∀ (l : List Nat) (acc : List α), l.foldl (fun a x => a ++ f x) acc = acc ++ l.flatMap f
 | [], acc => by simp
 | x :: l, acc => by rw [Yf, zE4 f l, List.flatMap_cons, Q1]
theorem zE5 {α : Type} (f : Nat -> List α) (g : Nat -> Sl) : ∀ (l : List Nat) (acc : List α) (s : Sl), l.foldl (fun (b : List α × Sl) x => (b.1 ++ f x, g x)) (acc, s) = (l.foldl (fun a x => a ++ f x) acc, l.foldl (fun _ x => g x) s)
 | [], acc, s => rfl
 | x :: l, acc, s => by rw [Yf, Yf, Yf]; exact zE5 f g l _ _
noncomputable def zFX (q : Int) : Int := if q = 0 then 2 else if q = 1 then 3 else if q = 2 then 3 else if q = 3 then 5 else 9
theorem zNw (q : Int) (h0 : 0 <= q) (h1 : q < 5) : dIx (.list [.int 2, .int 3, .int 3, .int 5, .int 9]) (.int q) = some (.int (zFX q)) /\ 0 < zFX q := by
 obtain ⟨n, rfl⟩ := Int.eq_ofNat_of_zero_le h0
 rcases n with _ | _ | _ | _ | _ | n
 ·exact ⟨rfl, by decide⟩
 ·exact ⟨rfl, by decide⟩
 ·exact ⟨rfl, by decide⟩
 ·exact ⟨rfl, by decide⟩
 ·exact ⟨rfl, by decide⟩
 ·exact absurd h1 (by lia)
theorem zKZ (ns : List Int) (hn : ns.length <= 63) (at' : Int) (m : Nat) (hm : 0 < m) (hm' : m <= 5) : ∃ (w h : Nat) (W : C -> Bool), zCk [scr ns, .int at', .int m] = some (flD w h W) /\ 1 <= w /\ w <= m /\ 1 <= h /\ h <= m := by
 have mp : (0 : Int) < m := YU.mpr hm
 obtain ⟨e1, w0, w1⟩ := zB9 ns hn at' m mp
 obtain ⟨e2, h0, h1⟩ := zB9 ns hn (at' + 1) m mp
 obtain ⟨e3, q0, q1⟩ := zB9 ns hn (at' + 2) 5 (by decide)
 obtain ⟨e4, r0⟩ := zNw _ q0 q1
 generalize dr ns at' m = dw at *
 generalize dr ns (at' + 1) m = dh at *
 generalize zFX (dr ns (at' + 2) 5) = rate at *
 have one : ∀ {x : Int}, 0 <= x -> x < m -> ∃ w : Nat, 1 + x = w /\ 1 <= w /\ w <= m := fun {x} g1 g2 => ⟨(1 + x).toNat, by lia, by lia, by lia⟩
 obtain ⟨w, hw, w2, w3⟩ := one w0 w1
 obtain ⟨h, hh, h2, h3⟩ := one h0 h1
 clear one
 have w5 : w <= 5 := Qt w3 hm'
 have h5 : h <= 5 := Qt h3 hm'
 refine ⟨w, h, fun c => dr ns (at' + 3 + 8 * (c.1.toNat : Int) + (c.2.toNat : Int)) rate == 0, ?_, w2, w3, h2, h3⟩
 refine zAB ?_
 unfold zE9
 rw [show zAD 8 [scr ns, .int at', .int m] = [.dat (scr ns), .dat (.int at'), .dat (.int m), .no, .no, .no, .no, .no] from rfl]
 refine zAk (zAv (d := .int (w : Int)) (oo rfl (zAj rfl e1) (by rw [<- hw]; rfl))) (zAk (zAv (d := .int (h : Int)) (oo rfl (zAj rfl e2) (by rw [<- hh]; rfl))) (zAk (zAv (oo rfl (zAj rfl e3) e4)) (zAk (ρ' := [.dat (scr ns), .dat (.int at'), .dat (.int m), .dat (.int w), .dat (.int h), .dat (.int rate), .own [], .no]) rfl ?_)))
 obtain ⟨f, hf⟩ : ∃ f : Nat -> List C, f = fun (x : Nat) => ((List.range h).filter fun (y : Nat) => dr ns (at' + 3 + 8 * (x : Int) + (y : Int)) rate == 0).map fun (y : Nat) => ((x : Int), (y : Int)) := ⟨_, rfl⟩
 have fl : ∀ x, (f x).length <= 5 := fun x => by
  rw [hf, Qg]
  refine Qt (QP _ _) ?_
  rw [QW]; exact h5
 refine zAk (zIQ (n := w) rfl (Q7 w5 (by decide)) (zBS (fun (k : Nat) => .int (k : Int)) (fun (b : List C × Sl) => [.dat (scr ns), .dat (.int at'), .dat (.int m), .dat (.int w), .dat (.int h), .dat (.int rate), .own (b.1.map zAa), b.2])
  (fun b x => (b.1 ++ f x, .dat (.int (x : Int)))) (fun i b => b.1.length <= 5 * i) 5 (List.range w) 0 ([], .no) (by rw [QW, Jt]; exact w5) (Qj _) fun x hx i b hi hp => ?_)) ?_
 ·obtain ⟨acc, s7⟩ := b
  have hp' : acc.length <= 5 * i := hp
  have hfx := fl x
  refine ⟨⟨[.dat (scr ns), .dat (.int at'), .dat (.int m), .dat (.int w), .dat (.int h), .dat (.int rate), .own (acc.map zAa), .dat (.int (x : Int))], rfl, ?_⟩, by show (acc ++ f x).length <= 5 * (i + 1); rw [Qm]; lia⟩
  refine (zE0 (ds := acc.map zAa) (es := (f x).map zAa) rfl ?_ (by rw [Qg, Qg]; lia)).trans ?_
  ·have := zH2 (gi := zBb (zAc (eV 4) eNil)) (s := zAo 0) (t := eB (eOp dEq (zAf zAZ (zAc (eV 2) (zAc (eOp zAy (eOp zAy (eOp zAy (eV 4) (eC (.int 3))) (eOp zAt (eC (.int 8)) (eV 1))) (eV 0)) (zAc (eV 3) eNil)))) (eC (.int 0))))
    (ge := eTup (zAc (eV 1) (zAc (eV 0) eNil))) (inner := [none, some 7, some 0, some 5, some 1]) (xs := List.range h) (ρ := [.dat (scr ns), .dat (.int at'), .dat (.int m), .dat (.int w), .dat (.int h), .dat (.int rate), .own (acc.map zAa), .dat (.int (x : Int))])
    (fun (k : Nat) => .int (k : Int)) (fun (y : Nat) => dr ns (at' + 3 + 8 * (x : Int) + (y : Int)) rate == 0) (fun (y : Nat) => zAa ((x : Int), (y : Int)))
    (fun ρ => ∃ s0, ρ = [s0, .dat (.int (x : Int)), .dat (scr ns), .dat (.int rate), .dat (.int at')]) (zDR (n := h) rfl (Q7 h5 (by decide))) (by rw [QW]; exact Qt h5 (by decide)) ⟨.no, rfl⟩ (by
     rintro y hy ρ ⟨s0, rfl⟩
     have e := (zB9 ns hn (at' + 3 + 8 * (x : Int) + (y : Int)) rate r0).1
     have m8 : zAt (.int 8) (.int (x : Int)) = some (.int (8 * (x : Int))) := zBs (okS (by decide) (by decide))
     exact ⟨[.dat (.int (y : Int)), .dat (.int (x : Int)), .dat (scr ns), .dat (.int rate), .dat (.int at')], rfl, ⟨_, rfl⟩, oB (oo (zAj (zAw rfl (zAw (oo (oo rfl (oo rfl rfl m8) rfl) rfl rfl) rfl)) e) rfl rfl), fun _ => rfl⟩)
   refine this.trans ?_
   rw [hf, QV]
   rfl
  ·show some (Out.nx _) = some (Out.nx _)
   rw [QS]
   rfl
 ·refine zAA ?_
  rw [zE5, zE4]
  have ff : (List.range w).flatMap f = (cells w h).filter fun c => dr ns (at' + 3 + 8 * (c.1.toNat : Int) + (c.2.toNat : Int)) rate == 0 := by
   rw [hf]
   exact zKX w h fun x y => dr ns (at' + 3 + 8 * (x : Int) + (y : Int)) rate == 0
  rw [List.nil_append, ff]
  rfl
end My
namespace My
open PySem PySem.SeqAt L2 DL SD SL EL DC
theorem zDS : ∀ l : List C, PyData.canLayAll0 (l.map zAa) = true /\ PyData.depthAll (l.map zAa) <= 1
 | [] => ⟨rfl, QY _⟩
 | c :: l => by
  obtain ⟨h1, h2⟩ := zDS l
  refine ⟨by rw [Ql, PyData.canLayAll0, h1]; rfl, ?_⟩
  rw [Ql, PyData.depthAll]
  exact Nat.max_le.mpr ⟨Qj _, h2⟩
theorem zDv (l : List C) : SeqAt.shaped (.list (l.map zAa)) = true := by
 obtain ⟨h1, h2⟩ := zDS l
 have : PyData.depth (.list (l.map zAa)) <= 64 := by show PyData.depthAll (l.map zAa) + 1 <= 64; lia
 simp [SeqAt.shaped, PyData.canLay0, h1, this]
theorem zI4 (l : List C) : SeqAt.shaped (.tuple (l.map zAa)) = true := by
 obtain ⟨h1, h2⟩ := zDS l
 have : PyData.depth (.tuple (l.map zAa)) <= 64 := by show PyData.depthAll (l.map zAa) + 1 <= 64; lia
 simp [SeqAt.shaped, PyData.canLay0, h1, this]
theorem zEe (c : C) : SeqAt.shaped (zAa c) = true := id rfl
theorem zEX (a b : C) : PyData.eqv (zAa a) (zAa b) = (a == b) := by
 show ((a.1 == b.1) && ((a.2 == b.2) && true)) = _
 rw [Bool.and_true]
 obtain ⟨x, y⟩ := a
 obtain ⟨u, v⟩ := b
 rfl
theorem zDL : ∀ l m : List C, PyData.eqvAll (l.map zAa) (m.map zAa) = decide (l = m)
 | [], [] => rfl
 | [], _ :: _ => rfl
 | _ :: _, [] => rfl
 | a :: l, b :: m => by
  show (PyData.eqv (zAa a) (zAa b) && PyData.eqvAll (l.map zAa) (m.map zAa)) = _
  rw [zDL l m, zEX]
  by_cases h1 : a = b <;> by_cases h2 : l = m <;> simp [h1, h2]
theorem eq_Ls (l m : List C) : dEq (.list (l.map zAa)) (.list (m.map zAa)) = some (.bool (decide (l = m))) := by
 unfold dEq
 rw [zDv, zDv]
 show some (PyData.bool (PyData.eqvAll (l.map zAa) (m.map zAa))) = _
 rw [zDL]
theorem zId (l m : List C) : dNe (.list (l.map zAa)) (.list (m.map zAa)) = some (.bool (!decide (l = m))) := by
 unfold dNe
 rw [zDv, zDv]
 show some (PyData.bool (!PyData.eqvAll (l.map zAa) (m.map zAa))) = _
 rw [zDL]
theorem zGG (l : List C) (c : C) : ((l.map zAa).any fun y => PyData.eqv y (zAa c)) = l.contains c := by
 induction l with
 | nil => rfl
 | cons a l ih => rw [Ql, YX, ih, zEX, List.contains_cons, Bool.beq_comm]
theorem in_T (neg : Bool) (c : C) (l : List C) : dIn neg (zAa c) (.tuple (l.map zAa)) = some (.bool (if neg then !l.contains c else l.contains c)) := by
 show (if (SeqAt.shaped (zAa c) && SeqAt.shaped (.tuple (l.map zAa))) = true then _ else _) = _
 rw [zEe, zI4, Jo, if_pos rfl, zGG]
theorem in_L (neg : Bool) (c : C) (l : List C) : dIn neg (zAa c) (.list (l.map zAa)) = some (.bool (if neg then !l.contains c else l.contains c)) := by
 show (if (SeqAt.shaped (zAa c) && SeqAt.shaped (.list (l.map zAa))) = true then _ else _) = _
 rw [zEe, zDv, Jo, if_pos rfl, zGG]
noncomputable def sol (w h : Nat) (W : C -> Bool) (c : C) : Bool := inR w h c && W c
theorem zFu (w h : Nat) (W : C -> Bool) (c : C) : ((cells w h).filter W).contains c = sol w h W c := by
 rw [Yg, Qz, QK, zBr]
 unfold sol
 rw [Qw]
theorem in_W (neg : Bool) (c : C) (w h : Nat) (W : C -> Bool) : dIn neg (zAa c) (zBA w h W) = some (.bool (if neg then !sol w h W c else sol w h W c)) := by
 unfold zBA
 rw [in_T, zFu]
theorem zJC (i : Int) : zCn [.int i] = some (.bool true) := zAB (zAA rfl)
theorem zKe (c : C) : zCX [zAa c] = some (.bool true) := zAB (zAk (zAJ rfl) (zAA (oAV (zAj rfl (zJC c.1)) (zAj rfl (zJC c.2)))))
theorem zJ6 (w h : Nat) (W : C -> Bool) (c : C) : zCW [flD w h W, zAa c] = some (.bool (inR w h c)) := by
 refine zAB (zAk (zAJ (oN (oB (zAj rfl (zKe c))))) (zAA ?_))
 show ((if decide (0 <= c.1) = true then some (PyData.bool (decide (c.1 < w))) else some (.bool false)).bind fun x => (asB x).bind fun k => if k = true then (if decide (0 <= c.2) = true then some (PyData.bool (decide (c.2 < h))) else some (.bool false)) else some (.bool false)) = _
 unfold inR
 cases decide (0 <= c.1) <;> cases decide (c.1 < w) <;> cases decide (0 <= c.2) <;> cases decide (c.2 < h) <;> rfl
theorem zFY {w h : Nat} {W : C -> Bool} {c : C} (hc : inR w h c = true) : zBC [flD w h W, zAa c] = some .none := by
 have q := zJ6 w h W c
 rw [hc] at q
 exact zHk (zAJ (oN (oB (zAj rfl q))))
theorem zJc {w h : Nat} {W : C -> Bool} {c : C} (hc : inR w h c = true) : zBO [flD w h W, zAa c] = some (.bool (W c)) := by
 have q := in_W false c w h W
 unfold sol at q
 rw [hc, YW] at q
 exact zAB (zAk (zDq (zAj rfl (zFY hc))) (zAA (oo rfl rfl q)))
theorem zIr {w h : Nat} {W : C -> Bool} {c : C} (hc : inR w h c = true) (ho : W c = false) : zB4 [flD w h W, zAa c] = some .none := by
 have q := zJc (W := W) hc
 rw [ho] at q
 exact zHk (zAJ (oB (zAj rfl q)))
end My
namespace My
open PySem PySem.SeqAt L2 DL SD SL EL DC
theorem zNu (w h : Nat) (hh : 0 < h) : ((List.range (w * h)).map fun (i : Nat) => (((i / h : Nat) : Int), ((i % h : Nat) : Int))) = cells w h := by
 refine zGf ?_ (zCj w h) fun c => ?_
 ·unfold Up
  rw [Q6]
  refine List.pairwise_lt_range.imp fun {a b} q => ?_
  rw [zBV]
  dsimp only
  have h1 : a / h <= b / h := Nat.div_le_div_right (Yv q)
  rcases Nat.lt_or_eq_of_le h1 with h2 | h2
  ·exact .inl (YU.mpr h2)
  ·right
   have ea := Nat.div_add_mod a h
   have eb := Nat.div_add_mod b h
   rw [h2] at ea
   exact ⟨by rw [h2], YU.mpr (by lia)⟩
 ·rw [zBr, zDN, Qr]
  constructor
  ·rintro ⟨i, hi, rfl⟩
   have := QL.mp hi
   have h1 : i / h < w := (Nat.div_lt_iff_lt_mul hh).mpr this
   have h2 : i % h < h := Nat.mod_lt _ hh
   exact ⟨YH _, YU.mpr h1, YH _, YU.mpr h2⟩
  ·rintro ⟨q1, q2, q3, q4⟩
   refine ⟨c.1.toNat * h + c.2.toNat, QL.mpr ?_, ?_⟩
   ·have this : c.1.toNat + 1 <= w := (Int.toNat_lt q1).mpr q2
    have h3 := Nat.mul_le_mul_right h this
    rw [Nat.succ_mul] at h3
    exact QD (Nat.add_lt_add_left ((Int.toNat_lt q3).mpr q4) _) h3
   ·have h2 : c.2.toNat < h := (Int.toNat_lt q3).mpr q4
    have d : (c.1.toNat * h + c.2.toNat) / h = c.1.toNat := by
     rw [Nat.mul_comm, Nat.mul_add_div hh, Nat.div_eq_of_lt h2, Nat.add_zero]
    have m : (c.1.toNat * h + c.2.toNat) % h = c.2.toNat := by
     rw [Nat.mul_comm, Nat.mul_add_mod, Nat.mod_eq_of_lt h2]
    rw [d, m]
    exact Jn (Jx q1) (Jx q3)
theorem zH0 {w h : Nat} {W : C -> Bool} (hw : w <= 5) (hh : 0 < h) (hh' : h <= 5) : zB1 [flD w h W] = some (.list ((cells w h).map zAa)) := by
 have hwh : w * h <= 25 := Jf hw hh'
 have m : zAt (.int w) (.int h) = some (.int ((w * h : Nat) : Int)) := by rw [zBs (okS (Int.lt_of_lt_of_le (by decide) (YH _)) (Int.lt_of_le_of_lt (Int.ofNat_le.mpr hw) (by decide)))]; rfl
 refine zAB (zAA (zAT (xs := List.range (w * h)) (fun (k : Nat) => .int (k : Int)) (fun _ => true) (fun (i : Nat) => zAa (((i / h : Nat) : Int), ((i % h : Nat) : Int))) (fun ρ => ∃ s0, ρ = [s0, .dat (flD w h W)]) (zDR (n := w * h) ?_ (Q7 hwh (by decide))) (by rw [QW]; exact Qt hwh (by decide)) ⟨_, rfl⟩ ?_ ?_))
 ·exact zAw (oo rfl rfl m) rfl
 ·rintro i _ ρ ⟨s0, rfl⟩
  have d : zBD (.int (i : Int)) (.int h) = some (.int ((i / h : Nat) : Int)) := by rw [zE1 (okD (YU.mpr hh) (Int.lt_of_le_of_lt (Int.ofNat_le.mpr hh') (by decide)))]; rfl
  have q : dMod (.int (i : Int)) (.int h) = some (.int ((i % h : Nat) : Int)) := by rw [zCc (YU.mpr hh)]; rfl
  exact ⟨[.dat (.int (i : Int)), .dat (flD w h W)], rfl, ⟨_, rfl⟩, rfl, fun _ => oT2 (oo rfl rfl d) (oo rfl rfl q)⟩
 ·rw [zCD, <- zNu w h hh, QV]
  rfl
theorem zJH {w h : Nat} {W : C -> Bool} (hw : w <= 5) (hh' : h <= 5) : zCS [flD w h W] = some (.list ((cells w h).map zAa)) := by
 obtain ⟨f, hf⟩ : ∃ f : Nat -> List C, f = fun (x : Nat) => (List.range h).map fun (y : Nat) => ((x : Int), (y : Int)) := ⟨_, rfl⟩
 refine zAB ?_
 unfold zFb
 rw [show zAD 3 [flD w h W] = [.dat (flD w h W), .no, .no] from rfl]
 refine zAk (ρ' := [.dat (flD w h W), .own [], .no]) rfl ?_
 refine zAk (zIQ (n := w) rfl (Q7 hw (by decide)) (zBS (fun (k : Nat) => .int (k : Int)) (fun (b : List C × Sl) => [.dat (flD w h W), .own (b.1.map zAa), b.2])
  (fun b x => (b.1 ++ f x, .dat (.int (x : Int)))) (fun i b => b.1.length <= 5 * i) 5 (List.range w) 0 ([], .no) (by rw [QW, Jt]; exact hw) (Qj _) fun x hx i b hi hp => ?_)) ?_
 ·obtain ⟨acc, s7⟩ := b
  have hp' : acc.length <= 5 * i := hp
  have hfx : (f x).length <= 5 := by rw [hf, Qg, QW]; exact hh'
  refine ⟨⟨[.dat (flD w h W), .own (acc.map zAa), .dat (.int (x : Int))], rfl, ?_⟩, by show (acc ++ f x).length <= 5 * (i + 1); rw [Qm]; exact Nat.add_le_add hp' hfx⟩
  refine (zE0 (ds := acc.map zAa) (es := (f x).map zAa) rfl (zAT (xs := List.range h) (fun (k : Nat) => .int (k : Int)) (fun _ => true) (fun (y : Nat) => zAa ((x : Int), (y : Int))) (fun ρ => ∃ s0, ρ = [s0, .dat (.int (x : Int))]) (zDR (n := h) rfl (Q7 hh' (by decide))) (by rw [QW]; exact Qt hh' (by decide)) ⟨.no, rfl⟩ ?_ ?_) (by rw [Qg, Qg]; lia)).trans ?_
  ·rintro y hy ρ ⟨s0, rfl⟩
   exact ⟨[.dat (.int (y : Int)), .dat (.int (x : Int))], rfl, ⟨_, rfl⟩, rfl, fun _ => rfl⟩
  ·rw [zCD, hf, QV]
   rfl
  ·show some (Out.nx _) = some (Out.nx _)
   rw [QS]
   rfl
 ·refine zAA ?_
  rw [zE5, zE4, List.nil_append, hf]
  rfl
theorem zD7 : ∀ l : List C, zCK (l.map zAa) = some (l.map row)
 | [] => rfl
 | c :: l => by
  show (zAE [.int c.1, .int c.2]).bind (fun is => (zCK (l.map zAa)).bind fun rs => some (is :: rs)) = _
  rw [zD7 l]
  rfl
theorem zBK {a b : C} (q : row a = row b) : a = b := by
 unfold row at q
 injection q with q1 q2
 injection q2 with q2 _
 exact Jn q1 q2
theorem zMo {l : List C} (h : l.Nodup) : (l.map row).Nodup := by
 rw [List.Nodup, Q6]
 exact h.imp fun {a b} q r => q (zBK r)
theorem zHJ (l : List C) (c : C) : (l.map row).contains (row c) = l.contains c := by
 rw [Yg, Qz, Qz, Qr]
 constructor
 ·rintro ⟨d, hd, e⟩; rw [<- zBK e]; exact hd
 ·intro h; exact ⟨c, h, rfl⟩
theorem zFN {w h : Nat} {W : C -> Bool} (hw : w <= 5) (hh' : h <= 5) : zBo [flD w h W] = some (.list (((cells w h).filter fun c => !W c).map zAa)) := by
 have hwh : (cells w h).length <= 25 := by rw [zB8]; exact Jf hw hh'
 have lf := QP W (cells w h)
 have lg := QP (fun c => !W c) (cells w h)
 have s1 : setD [.list ((cells w h).map zAa)] = some ((cells w h).map row) := by
  show (if _ then _ else _) = _
  rw [if_pos (by rw [Qg]; lia), zD7]
 have s2 : setD [zBA w h W] = some (((cells w h).filter W).map row) := by
  show (if _ then _ else _) = _
  rw [if_pos (by rw [Qg]; lia), zD7]
 have fe : ((cells w h).map row).filter (fun k => !(((cells w h).filter W).map row).contains k) = ((cells w h).filter fun c => !W c).map row := by
  rw [List.filter_map]
  congr 1
  refine Y8 fun c hc => ?_
  show (!(((cells w h).filter W).map row).contains (row c)) = _
  rw [zHJ, zFu]
  unfold sol
  rw [zBr.mp hc, YW]
 have up := zBZ (zCj w h) fun c => !W c
 refine zAB (zAA ?_)
 unfold zCa zEV eSet
 rw [zAw (zAj rfl (zJH (W := W) hw hh')) rfl, Qv, s1, Qv, show zAc (eOp dIx (eV 0) (eC (.int 2))) eNil (List.map frz (zAD 1 [flD w h W])) = some [zBA w h W] from rfl, Qv, s2, Qv]
 rw [if_pos (by rw [Qg]; lia), Qv, fe, zGX _ (zMo (zDz up)), zD8]
 exact zGd (zDz up) (by lia) up fun c => Iff.rfl
noncomputable def mkD (l : List C) : D := .dict (l.map fun c => (zAa c, .bool true))
theorem zCy (c : C) : decT (zAa c) = some (row c) := id rfl
theorem zHI (l : List C) (c : C) : hasD (l.map fun c => (zAa c, PyData.bool true)) (row c) = l.contains c := by
 unfold hasD
 rw [List.any_map]
 induction l with
 | nil => rfl
 | cons a l ih =>
  rw [YX, ih, List.contains_cons]
  congr 1
  show (decT (zAa a) == some (row c)) = _
  rw [zCy, Yg, beq_iff_eq, beq_iff_eq]
  constructor
  ·intro q; exact (zBK (QJ q)).symm
  ·intro q; rw [q]
theorem zKY (l : List C) : zA1 (l.map fun c => (zAa c, PyData.bool true)) = true := by
 unfold zA1
 rw [List.all_map, QF]
 intro c _
 rfl
theorem in_mk (neg : Bool) (c : C) (l : List C) : dIn2 neg (zAa c) (mkD l) = some (.bool (if neg then !l.contains c else l.contains c)) := by
 show (decT (zAa c)).bind (fun k => if zA1 (l.map fun c => (zAa c, PyData.bool true)) = true then some (PyData.bool (if neg then !hasD (l.map fun c => (zAa c, PyData.bool true)) k else hasD (l.map fun c => (zAa c, PyData.bool true)) k)) else none) = _
 rw [zCy, Qv, zKY, if_pos rfl, zHI]
theorem zIt : ∀ l : List C, zCJ (l.map fun c => PyData.tuple [zAa c, .bool true]) = some (l.map fun c => (row c, .bool true))
 | [] => rfl
 | c :: l => by
  show (zD4 (.tuple [zAa c, .bool true])).bind (fun p => (zCJ (l.map fun c => PyData.tuple [zAa c, .bool true])).bind fun ps => some (p :: ps)) = _
  rw [zIt l]
  rfl
theorem zNo (l : List C) (c : C) (h : c ∉ l) : putD (l.map fun c => (zAa c, PyData.bool true)) (row c) (.bool true) = (l ++ [c]).map fun c => (zAa c, PyData.bool true) := by
 unfold putD
 rw [zHI, if_neg (by rw [Qz]; exact h), QS]
 rfl
theorem zG2 : ∀ (l acc : List C), (acc ++ l).Nodup -> (l.map fun c => (row c, PyData.bool true)).foldl (fun kvs p => putD kvs p.1 p.2) (acc.map fun c => (zAa c, PyData.bool true)) = (acc ++ l).map fun c => (zAa c, PyData.bool true)
 | [], acc, _ => by rw [Yn]; rfl
 | c :: l, acc, h => by
  have hc : c ∉ acc := by
   rw [Jq] at h
   exact fun q => h.2.2 c q c Qf rfl
  rw [Ql, Yf]
  show (l.map _).foldl _ (putD _ (row c) (.bool true)) = _
  rw [zNo acc c hc, zG2 l (acc ++ [c]) (by rw [Q1]; exact h), Q1]
  rfl
theorem zLN {l : List C} {d : D} (hd : seqD d = some (l.map zAa)) (hl : l.length <= 1000) (hn : l.Nodup) : zA8 [d] = some (mkD l) := by
 refine zAB (zAA (zAj (ds := [.list (l.map fun c => PyData.tuple [zAa c, .bool true])]) ?_ ?_))
 ·have lc := zAT (gi := iSeq (eV 0)) (s := zAo 0) (t := eT) (ge := eTup (zAc (eV 0) (zAc (eC (.bool true)) eNil))) (inner := [none]) (ρ := (zAD 1 [d]).map frz) (xs := l) zAa (fun _ => true) (fun c => PyData.tuple [zAa c, .bool true]) (fun ρ => ∃ s0, ρ = [s0]) (zAO rfl hd) hl ⟨_, rfl⟩ (by
   rintro c _ ρ ⟨s0, rfl⟩
   exact ⟨[.dat (zAa c)], rfl, ⟨_, rfl⟩, rfl, fun _ => rfl⟩) (by rw [zCD])
  exact zAw lc rfl
 ·show (if _ then _ else _) = _
  rw [if_pos (by rw [Qg]; exact hl), zIt, Qv]
  have := zG2 l [] (by simpa using hn)
  rw [List.nil_append] at this
  unfold zC4 mkD
  rw [<- this]
  rfl
theorem zFD {w h : Nat} {W : C -> Bool} (hw : w <= 5) (hh' : h <= 5) : zA8 [zBA w h W] = some (mkD ((cells w h).filter W)) := by
 have hwh : (cells w h).length <= 25 := by rw [zB8]; exact Jf hw hh'
 have lf := QP W (cells w h)
 exact zLN rfl (by lia) (zDz (zBZ (zCj w h) W))
noncomputable def solD (w h : Nat) (W : C -> Bool) : D := mkD ((cells w h).filter W)
theorem zHO (neg : Bool) (c : C) (w h : Nat) (W : C -> Bool) : dIn2 neg (zAa c) (solD w h W) = some (.bool (if neg then !sol w h W c else sol w h W c)) := by
 unfold solD
 rw [in_mk, zFu]
end My
namespace My
open PySem PySem.SeqAt L2 DL SD SL EL DC
structure WS where
 gx : Int
 gy : Int
 cs : List C
 s9 : Sl
 s10 : Sl
noncomputable def envC (a b : C) (fx fy wx wy : Int) (s : WS) : Rho := [.dat (zAa a), .dat (zAa b), .dat (.int fx), .dat (.int fy), .dat (.int wx), .dat (.int wy), .dat (.int s.gx), .dat (.int s.gy), .own (s.cs.map zAa), s.s9, s.s10]
noncomputable def zDE (fx fy : Int) (s : WS) : Bool := decide (s.gx < fx) || decide (s.gy < fy)
noncomputable def nxX (fx fy : Int) (s : WS) : Int := if (2 * s.gx + 1) * fy <= (2 * s.gy + 1) * fx then s.gx + 1 else s.gx
noncomputable def nxY (fx fy : Int) (s : WS) : Int := if (2 * s.gy + 1) * fx <= (2 * s.gx + 1) * fy then s.gy + 1 else s.gy
noncomputable def zEm (a : C) (fx fy wx wy : Int) (s : WS) : WS := ⟨nxX fx fy s, nxY fx fy s, s.cs ++ [(a.1 + wx * nxX fx fy s, a.2 + wy * nxY fx fy s)], .dat (.int ((2 * s.gx + 1) * fy)), .dat (.int ((2 * s.gy + 1) * fx))⟩
theorem zHW (a : C) (fx fy wx wy : Int) : ∀ (n : Nat) (s : WS) (st : List C), zEr fx fy n s.gx s.gy = some st -> ∃ s', zDd (zDE fx fy) (zEm a fx fy wx wy) n s = some s' /\ s'.cs = s.cs ++ st.map fun g => (a.1 + wx * g.1, a.2 + wy * g.2)
 | 0, _, _, h => by cases h
 | n + 1, s, st, h => by
  unfold zEr at h
  unfold zDd
  by_cases c : s.gx < fx ∨ s.gy < fy
  ·rw [if_pos c] at h
   obtain ⟨r, e, h⟩ := bnd h
   cases h
   rw [if_pos (by unfold zDE; rw [JD, decide_eq_true_eq, decide_eq_true_eq]; exact c)]
   obtain ⟨s', e1, e2⟩ := zHW a fx fy wx wy n (zEm a fx fy wx wy s) r e
   refine ⟨s', e1, ?_⟩
   rw [e2]
   show (s.cs ++ [_]) ++ _ = _
   rw [Q1]
   rfl
  ·rw [if_neg c] at h
   cases h
   rw [if_neg (by unfold zDE; rw [JD, decide_eq_true_eq, decide_eq_true_eq]; exact c)]
   exact ⟨s, rfl, by simp⟩
theorem zED {a b : C} (n : Near a b) : zBn [zAa a, zAa b] = some (.list ((line a b).map zAa)) := by
 have O := n.ok
 obtain ⟨st, e, h⟩ := bnd O.some
 have sg : ∀ x, -100 < sgn x /\ sgn x < 100 := fun x => by unfold sgn; split <;> decide
 have sa := sg (b.1 - a.1)
 have sb := sg (b.2 - a.2)
 clear sg
 obtain ⟨n1, n2, n3, n4⟩ := n
 have ab : ∀ x, -4 <= x -> x <= 4 -> 0 <= iabs x /\ iabs x < 100 := fun x h h2 => by unfold iabs; split <;> lia
 have ia := ab _ n1 n2
 have ib := ab _ n3 n4
 clear ab
 have hlen : st.length <= 8 := by
  have := O.len
  rw [<- QJ h, QM, Qg] at this
  lia
 have ii : ∀ x y : Int, (if decide (x < y) = true then some (PyData.int 1) else some (.int (-1))) = some (.int (sgn (y - x))) := fun x y => by
  unfold sgn
  by_cases c : x < y
  ·rw [if_pos (decide_eq_true c), if_pos (by lia)]
  ·rw [if_neg (by simpa using c), if_neg (by lia)]
 have i1 := ii a.1 b.1
 have i2 := ii a.2 b.2
 clear ii
 obtain ⟨s', it, cs'⟩ := zHW a (iabs (b.1 - a.1)) (iabs (b.2 - a.2)) (sgn (b.1 - a.1)) (sgn (b.2 - a.2)) 900 ⟨0, 0, [a], .no, .no⟩ st e
 have hline : line a b = s'.cs := by
  rw [cs']
  unfold line
  rw [<- QJ h, Ql, QV]
  show _ :: _ = _ :: _
  congr 1
  exact Jn (by show a.1 + 0 = a.1; lia) (by show a.2 + 0 = a.2; lia)
 rw [hline]
 refine zAB ?_
 unfold zFf
 refine zAk (zAv (d := .int (iabs (b.1 - a.1))) rfl) (zAk (zAv (d := .int (iabs (b.2 - a.2))) rfl) (zAk (zAv i1) (zAk (zAv i2) (zAk (zAv rfl) (zAk (zAv rfl) (zAk (ρ' := envC a b (iabs (b.1 - a.1)) (iabs (b.2 - a.2)) (sgn (b.1 - a.1)) (sgn (b.2 - a.2)) ⟨0, 0, [a], .no, .no⟩) rfl ?_))))))
 generalize iabs (b.1 - a.1) = fx at *
 generalize iabs (b.2 - a.2) = fy at *
 generalize sgn (b.1 - a.1) = wx at *
 generalize sgn (b.2 - a.2) = wy at *
 clear i1 i2
 have mS : ∀ k, -100 < k /\ k < 100 -> ∀ i : Int, zAt (.int k) (.int i) = some (.int (k * i)) := fun k h i => zBs (okS (by lia) (by lia))
 have mT : ∀ k, 0 <= k /\ k < 100 -> ∀ i : Int, zAt (.int i) (.int k) = some (.int (i * k)) := fun k h i => zBs (okT (by lia) (by lia))
 refine zAk (zJB (envC a b fx fy wx wy) (zDE fx fy) (zEm a fx fy wx wy) (fun n s => s.cs.length + n <= 901) (fun n s hp => ?_) (fun n s hp hc => ⟨?_, ?_⟩) 900 ⟨0, 0, [a], .no, .no⟩ s' (by show 1 + 900 <= 901; decide) it) (zAA rfl)
 ·show (if decide (s.gx < fx) = true then some true else some (decide (s.gy < fy))) = some (decide (s.gx < fx) || decide (s.gy < fy))
  cases decide (s.gx < fx) <;> rfl
 ·have hl : (s.cs.map zAa).length < 1000 := by rw [Qg]; lia
  refine zAk (zAv (oo (oo (oo rfl rfl (mS 2 (by decide) s.gx)) rfl rfl) rfl (mT fy ib _))) (zAk (zAv (oo (oo (oo rfl rfl (mS 2 (by decide) s.gy)) rfl rfl) rfl (mT fx ia _))) ?_)
  refine zAk (ρ' := [.dat (zAa a), .dat (zAa b), .dat (.int fx), .dat (.int fy), .dat (.int wx), .dat (.int wy), .dat (.int (nxX fx fy s)), .dat (.int s.gy), .own (s.cs.map zAa), .dat (.int ((2 * s.gx + 1) * fy)), .dat (.int ((2 * s.gy + 1) * fx))]) ?_ ?_
  ·unfold nxX
   by_cases c : (2 * s.gx + 1) * fy <= (2 * s.gy + 1) * fx
   ·rw [if_pos c]
    exact zBL (b := true) (congrArg some (decide_eq_true c)) (fun _ => rfl) fun z => by cases z
   ·rw [if_neg c]
    exact zAJ (congrArg some (decide_eq_false c))
  refine zAk (ρ' := [.dat (zAa a), .dat (zAa b), .dat (.int fx), .dat (.int fy), .dat (.int wx), .dat (.int wy), .dat (.int (nxX fx fy s)), .dat (.int (nxY fx fy s)), .own (s.cs.map zAa), .dat (.int ((2 * s.gx + 1) * fy)), .dat (.int ((2 * s.gy + 1) * fx))]) ?_ ?_
  ·unfold nxY
   by_cases c : (2 * s.gy + 1) * fx <= (2 * s.gx + 1) * fy
   ·rw [if_pos c]
    exact zBL (b := true) (congrArg some (decide_eq_true c)) (fun _ => rfl) fun z => by cases z
   ·rw [if_neg c]
    exact zAJ (congrArg some (decide_eq_false c))
  refine (zF3 (ds := s.cs.map zAa) (d := zAa (a.1 + wx * nxX fx fy s, a.2 + wy * nxY fx fy s)) rfl ?_ hl).trans ?_
  ·unfold eTup
   rw [zAw (oo rfl (oo rfl rfl (mS wx sa _)) rfl) (zAw (oo rfl (oo rfl rfl (mS wy sb _)) rfl) rfl)]
   rfl
  ·unfold envC zEm
   rw [QS]
   rfl
 ·show (s.cs ++ [_]).length + n <= 901
  rw [Qm, Q0]
  lia
end My
namespace My
open PySem PySem.SeqAt L2 DL SD SL EL DC
abbrev Cp := C × C
noncomputable def cpD (p : Cp) : D := .tuple [zAa p.1, zAa p.2]
noncomputable def two (p q : C) : Cp := if ltC q p = true then (q, p) else (p, q)
noncomputable def pinC (p : Cp) : Cp := two (p.1.1, p.2.2) (p.2.1, p.1.2)
noncomputable def prs (l : List C) : List Cp := ((l.zip l.tail).filter fun p => diag p.1 p.2).map pinC
theorem zOf (S : C -> Bool) (p q : C) : (S (two p q).1 && S (two p q).2) = (S p && S q) := by
 unfold two
 split
 ·exact Jz _ _
 ·rfl
theorem zFV (S : C -> Bool) : ∀ l : List C, (prs l).all (fun p => !(S p.1 && S p.2)) = zA3 S l
 | [] => rfl
 | [a] => rfl
 | a :: b :: l => by
  have ih := zFV S (b :: l)
  unfold prs at ih ⊢
  rw [zDl]
  show ((((a, b) :: (b :: l).zip (b :: l).tail).filter fun p => diag p.1 p.2).map pinC).all _ = _
  rw [List.filter_cons]
  dsimp only
  cases diag a b with
  | true =>
   rw [if_pos rfl, Ql, List.all_cons, ih]
   congr 1
   show (!(S (two (a.1, b.2) (b.1, a.2)).1 && S (two (a.1, b.2) (b.1, a.2)).2)) = _
   rw [zOf]
   rfl
  | false => rw [if_neg Qs, ih]; rfl
theorem zNX (p q : C) : zBE [.list [zAa p, zAa q]] = some (.list [zAa (two p q).1, zAa (two p q).2]) := by
 have := zDx (l := [row p, row q]) (by intro k hk; rcases Qh.mp hk with rfl | hk; rfl; rcases Qh.mp hk with rfl | hk; rfl; cases hk) (by show 2 <= 63; decide)
 refine this.trans ?_
 show some (PyData.list ((if HT.lexLt (row q) (row p) = true then [row q, row p] else [row p, row q]).map tupI)) = _
 unfold two ltC
 split <;> rfl
theorem zJE : ∀ l m : List C, List.zipWith (fun x y => PyData.tuple [x, y]) (l.map zAa) (m.map zAa) = (l.zip m).map cpD
 | [], _ => rfl
 | _ :: _, [] => rfl
 | a :: l, b :: m => by rw [Ql, Ql, List.zipWith_cons_cons, zJE l m]; rfl
theorem zKm (l : List C) : cutD (l.map zAa) (some 1) none = l.tail.map zAa := by
 cases l with
 | nil => rfl
 | cons a l =>
  unfold DL.cutD
  have e1 : HT.sIx ((a :: l).map zAa).length 0 (some 1) = 1 := by
   have := HT.sIx_nat ((a :: l).map zAa).length 0 1
   rw [show ((1 : Nat) : Int) = 1 from rfl] at this
   rw [this, Qg, QM]
   lia
  rw [e1, HT.sIx_none]
  simp
  exact Jm (by simp)
theorem zKk (l : List C) : cutD (l.map zAa) none (some (-1)) = l.dropLast.map zAa := by
 unfold DL.cutD
 rw [HT.sIx_none]
 have e1 : HT.sIx (l.map zAa).length (l.map zAa).length (some (-1)) = l.length - 1 := by
  unfold HT.sIx
  simp
  lia
 rw [e1, List.drop_zero, Nat.sub_zero, List.dropLast_eq_take, List.map_take]
theorem zEw (l : List C) (hl : l.length <= 500) : zBv [.list (l.map zAa)] = some (.list ((prs l).map cpD)) := by
 have hz : (l.zip l.tail).length <= 500 := by rw [List.length_zip]; lia
 refine zAB ?_
 unfold zFd
 rw [show zAD 4 [.list (l.map zAa)] = [.dat (.list (l.map zAa)), .no, .no, .no] from rfl]
 refine zAk (ρ' := [.dat (.list (l.map zAa)), .own [], .no, .no]) rfl ?_
 have it : iZip (zAc (eV 0) (zAc (eSl2 (eV 0) (oE (eC (.int 1))) oNo) eNil)) [.dat (.list (l.map zAa)), .own [], .no, .no] = some ((l.zip l.tail).map cpD) := by
  show some (List.zipWith (fun x y => PyData.tuple [x, y]) (l.map zAa) (cutD (l.map zAa) (some 1) none)) = _
  rw [zKm, zJE]
 refine zAk (zBu it (zBS cpD (fun (b : List Cp × Sl × Sl) => [.dat (.list (l.map zAa)), .own (b.1.map cpD), b.2.1, b.2.2]) (fun b p => (if diag p.1 p.2 = true then b.1 ++ [pinC p] else b.1, .dat (zAa p.1), .dat (zAa p.2))) (fun i b => b.1.length <= i) 500 (l.zip l.tail) 0 ([], .no, .no) (by lia) (Qj _) fun p _ i b hi hp => ?_)) ?_
 ·obtain ⟨acc, s2, s3⟩ := b
  have hp' : acc.length <= i := hp
  have hlt : (acc.map cpD).length < 1000 := by rw [Qg]; lia
  refine ⟨⟨[.dat (.list (l.map zAa)), .own (acc.map cpD), .dat (zAa p.1), .dat (zAa p.2)], rfl, ?_⟩, ?_⟩
  ·have t : eAnd (eB (eOp dNe (eOp dIx (eV 2) (eC (.int 0))) (eOp dIx (eV 3) (eC (.int 0))))) (eB (eOp dNe (eOp dIx (eV 2) (eC (.int 1))) (eOp dIx (eV 3) (eC (.int 1))))) [.dat (.list (l.map zAa)), .dat (.list (acc.map cpD)), .dat (zAa p.1), .dat (zAa p.2)] = some (diag p.1 p.2) := by
    show (if (!(p.1.1 == p.2.1)) = true then some (!(p.1.2 == p.2.2)) else some false) = some (!(p.1.1 == p.2.1) && !(p.1.2 == p.2.2))
    cases p.1.1 == p.2.1 <;> rfl
   dsimp only
   cases q : diag p.1 p.2 with
   | true =>
    rw [q] at t
    refine (zBL (b := true) t (fun _ => zF3 (ds := acc.map cpD) (d := cpD (pinC p)) rfl (zAj (zAw (zAj rfl (zNX (p.1.1, p.2.2) (p.2.1, p.1.2))) rfl) rfl) hlt) fun z => by cases z).trans ?_
    rw [if_pos rfl, QS]
    rfl
   | false =>
    rw [q] at t
    exact zAJ t
  ·show (if diag p.1 p.2 = true then acc ++ [pinC p] else acc).length <= i + 1
   split
   ·rw [Qm, Q0]; lia
   ·lia
 ·have fold : ∀ (zs : List Cp) (b : List Cp × Sl × Sl), (zs.foldl (fun (b : List Cp × Sl × Sl) p => (if diag p.1 p.2 = true then b.1 ++ [pinC p] else b.1, Sl.dat (zAa p.1), Sl.dat (zAa p.2))) b).1 = b.1 ++ (zs.filter fun p => diag p.1 p.2).map pinC := by
   intro zs
   induction zs with
   | nil => intro b; simp
   | cons z zs ih =>
    intro b
    rw [Yf, ih, List.filter_cons]
    dsimp only
    cases diag z.1 z.2 with
    | true => rw [if_pos rfl, if_pos rfl, Ql, Q1]; rfl
    | false => rw [if_neg Qs, if_neg Qs]
  refine zAA ?_
  show some (PyData.list (((l.zip l.tail).foldl (fun (b : List Cp × Sl × Sl) p => (if diag p.1 p.2 = true then b.1 ++ [pinC p] else b.1, Sl.dat (zAa p.1), Sl.dat (zAa p.2))) ([], .no, .no)).1.map cpD)) = _
  rw [fold]
  rfl
theorem zI2 {w h : Nat} {W : C -> Bool} {a b : C} (n : Near a b) : zB3 [solD w h W, zAa a, zAa b] = some (.bool (clear (sol w h W) a b)) := by
 have ll : (line a b).length <= 9 := by unfold line; rw [Qg]; exact n.ok.len
 have ld : (line a b).dropLast.length <= 9 := by rw [List.length_dropLast]; lia
 refine zAB ?_
 unfold zFk
 rw [show zAD 7 [solD w h W, zAa a, zAa b] = [.dat (solD w h W), .dat (zAa a), .dat (zAa b), .no, .no, .no, .no] from rfl]
 refine zAk (zAv (zAj rfl (zED n))) ?_
 have is : ∀ c, dIn2 false (zAa c) (solD w h W) = some (.bool (sol w h W c)) := fun c => zHO false c w h W
 have l1 := zE6 (s := zAo 4) (g := sIf (eB (eOp (dIn2 false) (eV 4) (eV 0))) (sRet (eC (.bool false))) zAG) zAa (fun ρ => ∃ s4, ρ = [.dat (solD w h W), .dat (zAa a), .dat (zAa b), .dat (.list ((line a b).map zAa)), s4, .no, .no]) (sol w h W) (.bool false) (line a b).dropLast [.dat (solD w h W), .dat (zAa a), .dat (zAa b), .dat (.list ((line a b).map zAa)), .no, .no, .no] ⟨_, rfl⟩ (by
  rintro c _ ρ ⟨s4, rfl⟩
  refine ⟨[.dat (solD w h W), .dat (zAa a), .dat (zAa b), .dat (.list ((line a b).map zAa)), .dat (zAa c), .no, .no], rfl, ?_⟩
  cases q : sol w h W c with
  | true => rw [if_pos rfl]; exact zBL (b := true) (oB (oo rfl rfl (by rw [is, q]))) (fun _ => rfl) fun z => by cases z
  | false => rw [if_neg Qs]; exact ⟨_, zAJ (oB (oo rfl rfl (by rw [is, q]))), ⟨_, rfl⟩⟩)
 have i1 : iSeq (eSl2 (eV 3) oNo (oE (eUn dNeg (eC (.int 1))))) [.dat (solD w h W), .dat (zAa a), .dat (zAa b), .dat (.list ((line a b).map zAa)), .no, .no, .no] = some ((line a b).dropLast.map zAa) := by
  show some (cutD ((line a b).map zAa) none (some (-1))) = _
  rw [zKk]
 unfold clear
 by_cases c1 : (line a b).dropLast.any (sol w h W) = true
 ·rw [if_pos c1] at l1
  refine (zDr (zBu i1 l1)).trans ?_
  have : (line a b).dropLast.all (fun c => !sol w h W c) = false := by
   rw [Jg]
   simp only [Bool.not_not]
   rw [c1]; rfl
  rw [this]
  rfl
 ·rw [if_neg c1] at l1
  obtain ⟨ρ', e1, s4, rfl⟩ := l1
  refine zAk (zBu i1 e1) ?_
  have a1 : (line a b).dropLast.all (fun c => !sol w h W c) = true := by
   rw [Jg]
   simp only [Bool.not_not]
   rw [Jd] at c1
   rw [c1]; rfl
  rw [a1, YW, <- zFV]
  have l2 := zE6 (s := uTup 2 (zBM (zAo 5) (zBM (zAo 6) uNil))) (g := sIf (eAnd (eB (eOp (dIn2 false) (eV 5) (eV 0))) (eB (eOp (dIn2 false) (eV 6) (eV 0)))) (sRet (eC (.bool false))) zAG) cpD (fun ρ => ∃ s5 s6, ρ = [.dat (solD w h W), .dat (zAa a), .dat (zAa b), .dat (.list ((line a b).map zAa)), s4, s5, s6]) (fun p => sol w h W p.1 && sol w h W p.2) (.bool false) (prs (line a b)) [.dat (solD w h W), .dat (zAa a), .dat (zAa b), .dat (.list ((line a b).map zAa)), s4, .no, .no] ⟨_, _, rfl⟩ (by
   rintro p _ ρ ⟨s5, s6, rfl⟩
   refine ⟨[.dat (solD w h W), .dat (zAa a), .dat (zAa b), .dat (.list ((line a b).map zAa)), s4, .dat (zAa p.1), .dat (zAa p.2)], rfl, ?_⟩
   cases q1 : sol w h W p.1 <;> cases q2 : sol w h W p.2
   ·exact ⟨_, zAJ (oA0 (oB (oo rfl rfl (by rw [is, q1])))), ⟨_, _, rfl⟩⟩
   ·exact ⟨_, zAJ (oA0 (oB (oo rfl rfl (by rw [is, q1])))), ⟨_, _, rfl⟩⟩
   ·exact ⟨_, zAJ (oA1 (oB (oo rfl rfl (by rw [is, q1]))) (oB (oo rfl rfl (by rw [is, q2])))), ⟨_, _, rfl⟩⟩
   ·show sIf _ _ _ _ = _
    exact zBL (b := true) (oA1 (oB (oo rfl rfl (by rw [is, q1]))) (oB (oo rfl rfl (by rw [is, q2])))) (fun _ => rfl) fun z => by cases z)
  have i2 : iSeq (zAf zBv (zAc (eV 3) eNil)) [.dat (solD w h W), .dat (zAa a), .dat (zAa b), .dat (.list ((line a b).map zAa)), s4, .no, .no] = some ((prs (line a b)).map cpD) :=
   zAO (zAj rfl (zEw _ (by lia))) rfl
  by_cases c2 : (prs (line a b)).any (fun p => sol w h W p.1 && sol w h W p.2) = true
  ·rw [if_pos c2] at l2
   refine (zDr (zBu i2 l2)).trans ?_
   have : (prs (line a b)).all (fun p => !(sol w h W p.1 && sol w h W p.2)) = false := by
    rw [Jg]
    simp only [Bool.not_not]
    rw [c2]; rfl
   rw [this]
  ·rw [if_neg c2] at l2
   obtain ⟨ρ', e2, s5, s6, rfl⟩ := l2
   refine zAk (zBu i2 e2) ?_
   have : (prs (line a b)).all (fun p => !(sol w h W p.1 && sol w h W p.2)) = true := by
    rw [Jg]
    simp only [Bool.not_not]
    rw [Jd] at c2
    rw [c2]; rfl
   rw [this]
   exact zAA rfl
theorem zBW {w h : Nat} (hw : w <= 5) (hh : h <= 5) {a b : C} (ha : inR w h a = true) (hb : inR w h b = true) : Near a b := by
 obtain ⟨a1, a2, a3, a4⟩ := zDN.mp ha
 obtain ⟨b1, b2, b3, b4⟩ := zDN.mp hb
 have d : ∀ {n : Nat} {x y : Int}, n <= 5 -> 0 <= x -> x < n -> 0 <= y -> y < n -> -4 <= y - x /\ y - x <= 4 := fun h1 h2 h3 h4 h5 => by lia
 have p := d hw a1 a2 b1 b2
 have q := d hh a3 a4 b3 b4
 exact ⟨p.1, p.2, q.1, q.2⟩
section
variable {w h : Nat} {W : C -> Bool} (hw : w <= 5) (hh : h <= 5)
include hw hh
theorem zEj {c : C} (hc : inR w h c = true) : sol w h W c = W c := by unfold sol; rw [hc, YW]
theorem zHc {a : C} (ha : inR w h a = true) (ho : W a = false) : zCm [flD w h W, zAa a] = some (.list (((cells w h).filter fun b => seeB (sol w h W) a b).map zAa)) := by
 have m : zA8 [zBA w h W] = some (solD w h W) := zFD hw hh
 refine zAB ?_
 unfold zFg
 rw [show zAD 3 [flD w h W, zAa a] = [.dat (flD w h W), .dat (zAa a), .no] from rfl]
 refine zAk (zDq (zAj rfl (zIr ha ho))) (zAk (zAv (zAj rfl m)) ?_)
 refine zAA (zAT (xs := (cells w h).filter fun c => !W c) zAa (fun b => clear (sol w h W) a b) zAa (fun ρ => ∃ s0, ρ = [s0, .dat (solD w h W), .dat (zAa a)]) (zAO (zAj rfl (zFN hw hh)) rfl) (Qt (QP _ _) (by rw [zB8]; exact Qt (Jf hw hh) (by decide))) ⟨_, rfl⟩ ?_ ?_)
 ·rintro b hb ρ ⟨s0, rfl⟩
  have e := zI2 (w := w) (h := h) (W := W) (zBW hw hh ha (zBr.mp (QK.mp hb).1))
  exact ⟨[.dat (zAa b), .dat (solD w h W), .dat (zAa a)], rfl, ⟨_, rfl⟩, oB (zAj rfl e), fun _ => rfl⟩
 ·rw [List.filter_filter]
  congr 1
  refine Y8 fun b hb => ?_
  unfold seeB
  rw [zEj hw hh (zBr.mp hb), Jz]
end
end My
namespace My
open PySem PySem.SeqAt L2 DL SD SL EL DC
theorem ne_c (a b : C) : dNe (zAa a) (zAa b) = some (.bool (!(a == b))) := by
 unfold dNe
 rw [zEe, zEe, zEX]
 rfl
theorem fl_of (w h : Nat) (l : List C) (W : C -> Bool) (e : l = (cells w h).filter W) : PyData.tuple [.int w, .int h, .tuple (l.map zAa)] = flD w h W := by rw [e]; rfl
theorem zCO {w h : Nat} (hw : w <= 5) (hh : h <= 5) (W : C -> Bool) : ((cells w h).filter W).length <= 25 :=
 Qt (QP _ _) (by rw [zB8]; exact Jf hw hh)
theorem zJD {w h : Nat} {W : C -> Bool} (hw : w <= 5) (hh : h <= 5) {c : C} (hc : inR w h c = true) : zCp [flD w h W, zAa c] = some (flD w h fun x => W x && !(x == c)) := by
 have wl := zCO hw hh W
 refine zAB ?_
 unfold zFr
 rw [show zAD 2 [flD w h W, zAa c] = [.dat (flD w h W), .dat (zAa c)] from rfl]
 refine zAk (zDq (zAj rfl (zFY hc))) (zAA ?_)
 have lc := zAT (gi := iSeq (eOp dIx (eV 0) (eC (.int 2)))) (s := zAo 0) (t := eB (eOp dNe (eV 0) (eV 1))) (ge := eV 0) (inner := [none, some 1]) (ρ := [.dat (flD w h W), .dat (zAa c)]) (xs := (cells w h).filter W) zAa (fun x => !(x == c)) zAa (fun ρ => ∃ s0, ρ = [s0, .dat (zAa c)]) (zAO rfl rfl) (by lia) ⟨_, rfl⟩ (by
  rintro x _ ρ ⟨s0, rfl⟩
  exact ⟨[.dat (zAa x), .dat (zAa c)], rfl, ⟨_, rfl⟩, oB (oo rfl rfl (ne_c x c)), fun _ => rfl⟩) rfl
 refine (oT3 rfl rfl (zAj (zAw lc rfl) rfl)).trans ?_
 exact congrArg some (fl_of w h (((cells w h).filter W).filter fun x => !(x == c)) (fun x => W x && !(x == c)) (by rw [List.filter_filter]; exact Y8 fun x _ => Jz _ _))
theorem t_neL {ga gb : Rho -> Option D} {ρ : Rho} {l m : List C} (h1 : ga ρ = some (.list (l.map zAa))) (h2 : gb ρ = some (.list (m.map zAa))) (e : l = m) : eB (eOp dNe ga gb) ρ = some false := by
 subst e
 simp only [ap_B, ap_op, h1, h2, O_bs, zId, decide_true, YL, asB_b]
noncomputable def Nx (g : Rho -> Option Out) (ρ : Rho) (I : Rho -> Prop) : Prop := ∃ ρ2, g ρ = some (.nx ρ2) /\ I ρ2
section
variable {g g1 g2 rest : Rho -> Option Out} {ρ ρ' : Rho} {I : Rho -> Prop} {t : Rho -> Option Bool}
theorem zMs (h : g1 ρ = some (.nx ρ')) (h2 : Nx g2 ρ' I) : Nx (sSeq g1 g2) ρ I := by
 obtain ⟨ρ2, e, i⟩ := h2
 exact ⟨ρ2, zAk h e, i⟩
theorem zNF {α : Type} {gi : Rho -> Option (List D)} {s : D -> Rho -> Option Rho} {r : Option Out} (item : α -> D) (J : Rho -> Prop) (xs : List α) (hi : gi ρ = some (xs.map item)) (h0 : J ρ)
  (h : ∀ a ∈ xs, ∀ ρ, J ρ -> ∃ ρ1, s (item a) ρ = some ρ1 /\ Nx g ρ1 J) (hr : ∀ ρ', J ρ' -> rest ρ' = r) : sSeq (sFor gi s g) rest ρ = r := by
 obtain ⟨ρ', e, i⟩ := zE7 item J xs ρ h0 fun a ha ρ hρ => by
  obtain ⟨ρ1, e1, ρ2, e2, i2⟩ := h a ha ρ hρ
  exact ⟨ρ1, ρ2, e1, e2, i2⟩
 exact zAk (zBu hi e) (hr ρ' i)
end
theorem zCL {g1 g2 : Rho -> Option Out} {ρ ρ' ρ2 : Rho} (h : g1 ρ = some (.nx ρ')) (h2 : g2 ρ' = some (.nx ρ2)) : sSeq g1 g2 ρ = some (.nx ρ2) := zAk h h2
theorem zLM (ρ : Rho) : eLst eNil ρ = some (.list (([] : List C).map zAa)) := rfl
end My
namespace My
open PySem PySem.SeqAt L2 DL SD SL EL DC
noncomputable def opn (w h : Nat) (W : C -> Bool) : List C := (cells w h).filter fun c => !W c
theorem zAF {w h : Nat} {W : C -> Bool} {c : C} : c ∈ opn w h W ↔ inR w h c = true /\ W c = false := by
 unfold opn
 rw [QK, zBr, YN]
theorem zGg (w h : Nat) (W : C -> Bool) : Up (opn w h W) := zBZ (zCj w h) _
theorem zCg {w h : Nat} (hw : w <= 5) (hh : h <= 5) (W : C -> Bool) : (opn w h W).length <= 25 :=
 Qt (QP _ _) (by rw [zB8]; exact Jf hw hh)
theorem zLL {w h : Nat} {W : C -> Bool} (hw : w <= 5) (h0 : 0 < h) (hh : h <= 5) : zCR [flD w h W] = some (.list ((opn w h W).map zAa)) := by
 refine zAB (zAA (zAT (xs := cells w h) zAa (fun c => !sol w h W c) zAa (fun ρ => ∃ s0, ρ = [s0, .dat (flD w h W)]) (zAO (zAj rfl (zH0 hw h0 hh)) rfl) (by rw [zB8]; exact Qt (Jf hw hh) (by decide)) ⟨_, rfl⟩ ?_ ?_))
 ·rintro c _ ρ ⟨s0, rfl⟩
  exact ⟨[.dat (zAa c), .dat (flD w h W)], rfl, ⟨_, rfl⟩, oB (oo rfl rfl (in_W true c w h W)), fun _ => rfl⟩
 ·unfold opn
  congr 1
  refine Y8 fun c hc => ?_
  rw [zEj hw hh (zBr.mp hc)]
noncomputable def fdD (l : List C) (f : C -> D) : List (D × D) := l.map fun c => (zAa c, f c)
theorem zHY (a c : C) : (decT (zAa a) == some (row c)) = (a == c) := by
 rw [zCy, Yg, beq_iff_eq, beq_iff_eq]
 exact ⟨fun q => zBK (QJ q), fun q => by rw [q]⟩
theorem zHH (l : List C) (f : C -> D) (c : C) : hasD (fdD l f) (row c) = l.contains c := by
 unfold hasD fdD
 rw [List.any_map]
 induction l with
 | nil => rfl
 | cons a l ih =>
  rw [YX, ih, List.contains_cons]
  congr 1
  show (decT (zAa a) == some (row c)) = _
  rw [zHY, Yg, beq_iff_eq, beq_iff_eq]
  exact ⟨Eq.symm, Eq.symm⟩
theorem zHg (l : List C) (f : C -> D) : zA1 (fdD l f) = true := by
 unfold zA1 fdD
 rw [List.all_map, QF]
 intro c _
 rfl
theorem zK0 {l : List C} (f : C -> D) {c : C} (h : c ∈ l) : getD (fdD l f) (row c) = some (f c) := by
 unfold getD fdD
 induction l with
 | nil => cases h
 | cons a l ih =>
  rw [Ql, YQ, zHY]
  by_cases e : a = c
  ·subst e; simp
  ·rw [beq_eq_false_iff_ne.mpr e]
   exact ih ((Qh.mp h).resolve_left fun z => e z.symm)
section
variable (fld : C -> List C)
end
end My
namespace My
open PySem PySem.SeqAt L2 DL SD SL EL DC
noncomputable def zBf : List C -> List Cp
 | [] => []
 | a :: r => (r.map fun b => (a, b)) ++ zBf r
noncomputable def at0 (l : List C) (k : Nat) : C := l.getD k (0, 0)
theorem zIv : ∀ l : List C, ((List.range l.length).flatMap fun k => (l.drop (k + 1)).map fun b => (at0 l k, b)) = zBf l
 | [] => rfl
 | a :: r => by
  rw [QM, List.range_succ_eq_map, List.flatMap_cons, List.flatMap_map]
  show (r.map fun b => (a, b)) ++ _ = (r.map fun b => (a, b)) ++ zBf r
  rw [<- zIv r]
  rfl
theorem zFE {x y : C} : ∀ {l : List C}, Up l -> ((x, y) ∈ zBf l ↔ x ∈ l /\ y ∈ l /\ ltC x y = true)
 | [], _ => by simp [zBf]
 | a :: r, u => by
  have u1 := (Q3.mp u).1
  have u2 : Up r := (Q3.mp u).2
  unfold zBf
  rw [QC, Qr, zFE u2]
  constructor
  ·rintro (⟨b, hb, e⟩ | ⟨h1, h2, h3⟩)
   ·cases e; exact ⟨Qf, Qd _ hb, u1 _ hb⟩
   ·exact ⟨Qd _ h1, Qd _ h2, h3⟩
  ·rintro ⟨h1, h2, h3⟩
   rcases Qh.mp h1 with g1 | g1
   ·subst g1
    rcases Qh.mp h2 with g2 | g2
    ·subst g2; rw [zBV] at h3; lia
    ·exact .inl ⟨y, g2, rfl⟩
   ·rcases Qh.mp h2 with g2 | g2
    ·subst g2
     have := u1 _ g1
     rw [zBV] at this h3; lia
    ·exact .inr ⟨g1, g2, h3⟩
noncomputable def itE (l : List C) (k : Nat) : D := .tuple [.int (k : Int), zAa (at0 l k)]
theorem numb (l : List C) : zBt 0 (l.map zAa) = (List.range l.length).map (itE l) := by
 refine List.ext_getElem? fun i => ?_
 rw [zFM, QQ, QQ, Jt]
 by_cases c : i < l.length
 ·rw [List.getElem?_range c, Qi c]
  show some _ = some (itE l i)
  unfold itE at0
  simp [List.getD, c]
 ·rw [List.getElem?_eq_none (by lia), List.getElem?_eq_none (by simpa using Jb c)]
  rfl
theorem zKl (l : List C) (k : Nat) : cutD (l.map zAa) (some ((k : Nat) : Int)) none = (l.drop k).map zAa := by
 unfold cutD
 rw [HT.sIx_nat, HT.sIx_none, Qg]
 by_cases c : k <= l.length
 ·rw [Nat.min_eq_left c, List.map_drop]
  exact Jm (by simp)
 ·rw [Nat.min_eq_right (by lia), List.drop_eq_nil_of_le (show l.length <= k by lia)]
  simp
theorem zKf {l : List C} (hl : l.length <= 25) : zCT [.list (l.map zAa)] = some (.list ((zBf l).map cpD)) := by
 refine zAB ?_
 unfold zFc
 rw [show zAD 4 [.list (l.map zAa)] = [.dat (.list (l.map zAa)), .no, .no, .no] from rfl]
 refine zAk (ρ' := [.dat (.list (l.map zAa)), .own [], .no, .no]) rfl ?_
 have it : zDb (zAc (eV 0) eNil) [.dat (.list (l.map zAa)), .own [], .no, .no] = some ((List.range l.length).map (itE l)) := by
  rw [<- numb]; rfl
 refine zAk (zBu it (zBS (itE l) (fun (b : List Cp × Sl × Sl) => [.dat (.list (l.map zAa)), .own (b.1.map cpD), b.2.1, b.2.2]) (fun b k => (b.1 ++ (l.drop (k + 1)).map (fun b => (at0 l k, b)), .dat (.int (k : Int)), .dat (zAa (at0 l k)))) (fun i b => b.1.length <= 25 * i) 25 (List.range l.length) 0 ([], .no, .no) (by rw [QW]; lia) (Qj _) fun k _ i b hi hp => ?_)) ?_
 ·obtain ⟨acc, s2, s3⟩ := b
  have hp' : acc.length <= 25 * i := hp
  have hd : ((l.drop (k + 1)).map fun b => (at0 l k, b)).length <= 25 := by rw [Qg, Yi]; lia
  refine ⟨⟨[.dat (.list (l.map zAa)), .own (acc.map cpD), .dat (.int (k : Int)), .dat (zAa (at0 l k))], rfl, ?_⟩, by show (acc ++ _).length <= _; rw [Qm]; lia⟩
  refine (zE0 (ds := acc.map cpD) (es := ((l.drop (k + 1)).map fun b => (at0 l k, b)).map cpD) rfl (zAT (xs := l.drop (k + 1)) zAa (fun _ => true) (fun b => cpD (at0 l k, b)) (fun ρ => ∃ s0, ρ = [s0, .dat (zAa (at0 l k))]) ?_ (by rw [Yi]; lia) ⟨_, rfl⟩ ?_ ?_) (by rw [Qg, Qg]; lia)).trans ?_
  ·show some (cutD (l.map zAa) (some (((k : Nat) : Int) + 1)) none) = _
   rw [show ((k : Nat) : Int) + 1 = ((k + 1 : Nat) : Int) from rfl, zKl]
  ·rintro b _ ρ ⟨s0, rfl⟩
   exact ⟨[.dat (zAa b), .dat (zAa (at0 l k))], rfl, ⟨_, rfl⟩, rfl, fun _ => rfl⟩
  ·rw [zCD, QV]; rfl
  ·show some (Out.nx _) = some (Out.nx _)
   rw [QS]
   rfl
 ·refine zAA ?_
  have fold : ∀ (zs : List Nat) (b : List Cp × Sl × Sl), (zs.foldl (fun (b : List Cp × Sl × Sl) k => (b.1 ++ (l.drop (k + 1)).map (fun b => (at0 l k, b)), Sl.dat (.int (k : Int)), Sl.dat (zAa (at0 l k)))) b).1 = b.1 ++ zs.flatMap fun k => (l.drop (k + 1)).map fun b => (at0 l k, b) := by
   intro zs
   induction zs with
   | nil => intro b; simp
   | cons z zs ih => intro b; rw [Yf, ih, List.flatMap_cons, <- Q1]
  exact congrArg (fun x : List Cp => some (PyData.list (x.map cpD))) ((fold (List.range l.length) ([], .no, .no)).trans ((List.nil_append _).trans (zIv l)))
theorem zFO : ∀ {l : List C} {n : Nat}, l.length <= n -> (zBf l).length <= n * n
 | [], n, _ => QY _
 | a :: r, 0, h => by simp at h
 | a :: r, n + 1, h => by
  have h' : r.length <= n := by simpa using h
  have := zFO h'
  unfold zBf
  rw [Qm, Qg]
  have : (n + 1) * (n + 1) = n * n + n + n + 1 := by rw [Nat.add_mul, Nat.mul_add]; lia
  lia
section
variable {w h : Nat} {W : C -> Bool} (hw : w <= 5) (hh : h <= 5)
include hw hh
theorem zEB : zBw [flD w h W] = some (.list (((zBf (opn w h W)).filter fun p => clear (sol w h W) p.1 p.2).map cpD)) := by
 have m : zA8 [zBA w h W] = some (solD w h W) := zFD hw hh
 have oe : zBo [flD w h W] = some (.list ((opn w h W).map zAa)) := zFN hw hh
 have ca := zKf (zCg hw hh W)
 refine zAB ?_
 unfold zFe
 rw [show zAD 2 [flD w h W] = [.dat (flD w h W), .no] from rfl]
 refine zAk (zAv (zAj rfl m)) ?_
 refine zAA (zAT (xs := zBf (opn w h W)) cpD (fun p => clear (sol w h W) p.1 p.2) cpD (fun ρ => ∃ s0, ρ = [s0, .dat (solD w h W)]) (zAO (d := .list ((zBf (opn w h W)).map cpD)) (zAj (zAw (zAj rfl oe) rfl) ca) rfl) (Qt (zFO (zCg hw hh W)) (by decide)) ⟨_, rfl⟩ ?_ rfl)
 rintro p hp ρ ⟨s0, rfl⟩
 obtain ⟨h1, h2, _⟩ := (zFE (zGg w h W)).mp (show (p.1, p.2) ∈ _ from hp)
 have e := zI2 (w := w) (h := h) (W := W) (zBW hw hh (zAF.mp h1).1 (zAF.mp h2).1)
 have k0 : dIx (cpD p) (.int 0) = some (zAa p.1) := rfl
 have k1 : dIx (cpD p) (.int 1) = some (zAa p.2) := rfl
 exact ⟨[.dat (cpD p), .dat (solD w h W)], rfl, ⟨_, rfl⟩, oB (zAj rfl e), fun _ => rfl⟩
end
end My
namespace My
open PySem PySem.SeqAt L2 DL SD SL EL DC
noncomputable def ddc : List C -> List C
 | [] => []
 | a :: r => if a ∈ r then ddc r else a :: ddc r
theorem zDY {c : C} : ∀ {l : List C}, c ∈ ddc l ↔ c ∈ l
 | [] => Iff.rfl
 | a :: r => by
  unfold ddc
  by_cases e : a ∈ r
  ·rw [if_pos e, zDY, Qh]
   exact ⟨.inr, fun q => q.elim (fun z => by rw [z]; exact e) id⟩
  ·rw [if_neg e, Qh, Qh, zDY]
theorem zFJ : ∀ l : List C, (ddc l).Nodup
 | [] => Y0
 | a :: r => by
  unfold ddc
  by_cases e : a ∈ r
  ·rw [if_pos e]; exact zFJ r
  ·rw [if_neg e, Q5, zDY]; exact ⟨e, zFJ r⟩
theorem zH3 : ∀ l : List C, (ddc l).length <= l.length
 | [] => Qj _
 | a :: r => by
  have := zH3 r
  unfold ddc
  split
  ·rw [QM]; lia
  ·rw [QM, QM]; lia
theorem zEG : ∀ l : List C, dd (l.map row) = (ddc l).map row
 | [] => rfl
 | a :: r => by
  rw [Ql]
  unfold dd ddc
  have : row a ∈ r.map row ↔ a ∈ r := by
   rw [<- Qz, zHJ, Qz]
  by_cases e : a ∈ r
  ·rw [if_pos (this.mpr e), if_pos e, zEG r]
  ·rw [if_neg (fun z => e (this.mp z)), if_neg e, zEG r, Ql]
theorem add_L (l m : List C) (h : l.length + m.length <= 1000) : zAy (.list (l.map zAa)) (.list (m.map zAa)) = some (.list ((l ++ m).map zAa)) := by
 show (if (l.map zAa).length + (m.map zAa).length <= 1000 then some (PyData.list (l.map zAa ++ m.map zAa)) else none) = _
 rw [if_pos (by rw [Qg, Qg]; exact h), QS]
theorem ix_L {l : List C} {i : Int} (h0 : 0 <= i) (h1 : i < l.length) : dIx (.list (l.map zAa)) (.int i) = some (zAa (at0 l i.toNat)) /\ at0 l i.toNat ∈ l := by
 have hi : i.toNat < l.length := by lia
 have e : at0 l i.toNat = l[i.toNat] := by unfold at0; simp [List.getD, hi]
 constructor
 ·show L2.atI (l.map zAa) i = _
  unfold L2.atI L2.ixN
  rw [Qg, if_pos h0, if_pos h1, e]
  simp [hi]
 ·rw [e]; exact Yz hi
section
variable {w h : Nat} {W : C -> Bool} (hw : w <= 5) (hh : h <= 5)
include hw hh
theorem zI1 {a b : C} (ha : a ∈ opn w h W) (hb : b ∈ opn w h W) : seeB (sol w h W) a b = clear (sol w h W) a b := by
 unfold seeB
 rw [zEj hw hh (zAF.mp hb).1, (zAF.mp hb).2]
 rfl
end
end My
namespace My
open PySem PySem.SeqAt L2 DL SD SL EL DC
theorem zNY {l m : List C} {ga : Rho -> Option D} {ρ : Rho} (hl : l.length <= 63) (hm : Up m) (h : ∀ c, c ∈ m ↔ c ∈ l) (hd : ga ρ = some (.tuple (l.map zAa))) : zCa (eSet (zAc ga eNil)) ρ = some (.list (m.map zAa)) := by
 have s : setD [.tuple (l.map zAa)] = some (l.map row) := by
  show (if _ then _ else _) = _
  rw [if_pos (by rw [Qg]; lia), zD7]
 unfold zCa eSet
 rw [zAw hd rfl, Qv, s, Qv, zEG, zD8]
 exact zGd (zFJ l) (Qt (zH3 l) hl) hm fun c => (h c).trans zDY.symm
theorem add_T (l m : List C) (h : l.length + m.length <= 1000) : zAy (.tuple (l.map zAa)) (.tuple (m.map zAa)) = some (.tuple ((l ++ m).map zAa)) := by
 show (if (l.map zAa).length + (m.map zAa).length <= 1000 then _ else _) = _
 rw [if_pos (by rw [Qg, Qg]; exact h), QS]
section
variable {w h : Nat} {W : C -> Bool} (hw : w <= 5) (hh : h <= 5) {c : C}
include hw hh
theorem zLT (hc : inR w h c = true) {ga gb : Rho -> Option D} {ρ : Rho} (h1 : ga ρ = some (zBA w h W)) (h2 : gb ρ = some (zAa c)) : zCa (eSet (zAc (eOp zAy ga (eTup (zAc gb eNil))) eNil)) ρ = some (.list (((cells w h).filter fun x => W x || x == c).map zAa)) := by
 have wl := zCO hw hh W
 refine zNY (l := (cells w h).filter W ++ [c]) (by rw [Qm, Q0]; lia) (zBZ (zCj w h) _) (fun x => ?_) ?_
 ·rw [QC, QK, QK, JD, beq_iff_eq, QB]
  constructor
  ·rintro ⟨q1, q2 | q2⟩
   ·exact .inl ⟨q1, q2⟩
   ·exact .inr q2
  ·rintro (⟨q1, q2⟩ | rfl)
   ·exact ⟨q1, .inl q2⟩
   ·exact ⟨zBr.mpr hc, .inr rfl⟩
 ·exact oo h1 (oT1 h2) (add_T _ [c] (by rw [Q0]; lia))
theorem zOn (hc : inR w h c = true) : zCZ [flD w h W, zAa c] = some (flD w h fun x => W x || x == c) := by
 refine zAB ?_
 unfold zFq
 rw [show zAD 2 [flD w h W, zAa c] = [.dat (flD w h W), .dat (zAa c)] from rfl]
 refine zAk (zDq (zAj rfl (zFY hc))) ?_
 refine zAA ?_
 have m := zLT (W := W) hw hh hc (ga := eOp dIx (eV 0) (eC (.int 2))) (gb := eV 1) (ρ := [.dat (flD w h W), .dat (zAa c)]) rfl rfl
 exact oT3 rfl rfl (zAj (zAw m rfl) rfl)
end
theorem zI0 {S S' : C -> Bool} (h : ∀ c, S c = true -> S' c = true) {a b : C} (q : seeB S' a b = true) : seeB S a b = true := by
 unfold seeB at q ⊢
 rw [Qw] at q ⊢
 refine ⟨?_, zJ9 h q.2⟩
 cases x : S b with
 | false => rfl
 | true => rw [h b x] at q; exact q.1
end My
namespace My
open PySem PySem.SeqAt L2 DL SD SL EL DC
noncomputable def grD (g : List C) : D := .tuple (g.map zAa)
theorem zH1 : ∀ L : List (List C), PyData.canLayAll0 (L.map grD) = true /\ PyData.depthAll (L.map grD) <= 2
 | [] => ⟨rfl, by decide⟩
 | g :: L => by
  have ih := zH1 L
  have e := zDS g
  constructor
  ·show (PyData.canLayAll0 (g.map zAa) && PyData.canLayAll0 (L.map grD)) = true
   rw [e.1, ih.1]; rfl
  ·show Nat.max (PyData.depthAll (g.map zAa) + 1) (PyData.depthAll (L.map grD)) <= 2
   exact Nat.max_le.mpr ⟨by lia, ih.2⟩
theorem zF9 (L : List (List C)) : SeqAt.shaped (.list (L.map grD)) = true := by
 obtain ⟨h1, h2⟩ := zH1 L
 have : PyData.depth (.list (L.map grD)) <= 64 := by show PyData.depthAll (L.map grD) + 1 <= 64; lia
 simp [SeqAt.shaped, PyData.canLay0, h1, this]
theorem eqv_g (g h : List C) : PyData.eqv (grD g) (grD h) = decide (g = h) := zDL g h
theorem ne_G (L : List (List C)) : dNe (.list (L.map grD)) (.list []) = some (.bool (!L.isEmpty)) := by
 unfold dNe
 rw [zF9, show SeqAt.shaped (.list []) = true from rfl]
 cases L <;> rfl
theorem eq_G (L : List (List C)) : dEq (.list (L.map grD)) (.list []) = some (.bool L.isEmpty) := by
 unfold dEq
 rw [zF9, show SeqAt.shaped (.list []) = true from rfl]
 cases L <;> rfl
theorem in_G (neg : Bool) (g : List C) (L : List (List C)) : dIn neg (grD g) (.list (L.map grD)) = some (.bool (if neg then !L.contains g else L.contains g)) := by
 show (if (SeqAt.shaped (grD g) && SeqAt.shaped (.list (L.map grD))) = true then _ else _) = _
 have a : ((L.map grD).any fun y => PyData.eqv y (grD g)) = L.contains g := by
  induction L with
  | nil => rfl
  | cons a L ih =>
   rw [Ql, YX, ih, eqv_g, List.contains_cons]
   congr 1
   rw [Yg, decide_eq_true_iff, beq_iff_eq]
   exact eq_comm
 rw [show SeqAt.shaped (grD g) = true from zI4 g, zF9, Jo, if_pos rfl, a]
noncomputable def cpl (p : Cp) : List C := [p.1, p.2]
theorem cp_g (l : List Cp) : l.map cpD = (l.map cpl).map grD := by rw [QV]; rfl
theorem zKg {p q : Cp} (h : cpl p = cpl q) : p = q := by
 unfold cpl at h
 injection h with h1 h2
 injection h2 with h2 _
 exact Jn h1 h2
theorem zK4 (l : List Cp) (p : Cp) : (l.map cpl).contains (cpl p) = l.contains p := by
 rw [Yg, Qz, Qz, Qr]
 constructor
 ·rintro ⟨q, hq, e⟩; rw [<- zKg e]; exact hq
 ·intro h; exact ⟨p, h, rfl⟩
theorem zHN (neg : Bool) (p : Cp) (l : List Cp) : dIn neg (cpD p) (.list (l.map cpD)) = some (.bool (if neg then !l.contains p else l.contains p)) := by
 rw [cp_g, <- zK4]
 exact in_G neg (cpl p) (l.map cpl)
theorem zFG (l : List Cp) : dNe (.list (l.map cpD)) (.list []) = some (.bool (!l.isEmpty)) := by
 rw [cp_g, ne_G]
 cases l <;> rfl
noncomputable def grps (S : C -> Bool) (l : List C) : List (List C) := (l.filter S).map (fun c => [c]) ++ ((prs l).filter fun p => S p.1 && S p.2).map cpl
noncomputable def sole (S : C -> Bool) (l : List C) : List C := match grps S l with
 | [] => []
 | g :: gs => g.filter fun x => (g :: gs).all fun y => y.contains x
theorem zLQ {S : C -> Bool} {l : List C} {x : C} : x ∈ sole S l ↔ grps S l ≠ [] /\ ∀ g ∈ grps S l, x ∈ g := by
 unfold sole
 cases e : grps S l with
 | nil => simp
 | cons g gs =>
  rw [QK, QF]
  constructor
  ·rintro ⟨_, h⟩
   exact ⟨List.cons_ne_nil _ _, fun y hy => Qz.mp (h y hy)⟩
  ·rintro ⟨_, h⟩
   exact ⟨h g Qf, fun y hy => Qz.mpr (h y hy)⟩
theorem zHG {S : C -> Bool} {l : List C} {g : List C} (h : g ∈ grps S l) : g.Nodup /\ g.length <= 2 := by
 unfold grps at h
 rcases QC.mp h with h | h
 ·obtain ⟨c, _, rfl⟩ := Qr.mp h
  exact ⟨by simp, by simp⟩
 ·obtain ⟨p, hp, rfl⟩ := Qr.mp h
  have hp := (QK.mp hp).1
  unfold prs at hp
  obtain ⟨q, hq, rfl⟩ := Qr.mp hp
  have hd := (QK.mp hq).2
  refine ⟨?_, by unfold cpl; simp⟩
  unfold diag at hd
  rw [Qw] at hd
  have n1 : q.1.1 ≠ q.2.1 := by simpa using hd.1
  have : (pinC q).1 ≠ (pinC q).2 := by
   unfold pinC two
   split
   ·exact fun e => n1 (congrArg (·.1) e).symm
   ·exact fun e => n1 (congrArg (·.1) e)
  unfold cpl
  simpa using this
theorem zJb {S : C -> Bool} {l : List C} : (sole S l).Nodup /\ (sole S l).length <= 2 := by
 unfold sole
 cases e : grps S l with
 | nil => exact ⟨Y0, by simp⟩
 | cons g gs =>
  have h := zHG (S := S) (l := l) (g := g) (by rw [e]; exact Qf)
  exact ⟨h.1.filter _, Qt (QP _ _) h.2⟩
theorem zF8 {S : C -> Bool} {a b : C} (n : Near a b) : seeB S a b = true ↔ grps S (line a b) = [] := by
 rw [zF7 n, Qw, <- zFV]
 unfold grps
 rw [List.append_eq_nil_iff, Jy, Jy, YD, YD, QF, QF]
 simp only [YN, Jd]
theorem zJa {S : C -> Bool} {a b x : C} (n : Near a b) : x ∈ sole S (line a b) ↔ seeB S a b = false /\ seeB (fun c => S c && !(c == x)) a b = true := by
 rw [zLQ, <- Jd, zF8 n, zF8 n]
 refine and_congr Iff.rfl ?_
 unfold grps
 rw [List.append_eq_nil_iff, Jy, Jy, YD, YD]
 constructor
 ·intro h
  constructor
  ·intro c hc q
   rw [Qw] at q
   have := h [c] (Yb _ (Qr.mpr ⟨c, QK.mpr ⟨hc, q.1⟩, rfl⟩))
   rw [QB] at this
   rw [this] at q
   simp at q
  ·intro p hp q
   simp only [Qw] at q
   obtain ⟨⟨q1, q2⟩, q3, q4⟩ := q
   have := h (cpl p) (Qy _ (Qr.mpr ⟨p, QK.mpr ⟨hp, by rw [q1, q3]; rfl⟩, rfl⟩))
   unfold cpl at this
   rcases Qh.mp this with e | e
   ·rw [<- e] at q2; simp at q2
   ·rw [QB] at e; rw [<- e] at q4; simp at q4
 ·rintro ⟨h1, h2⟩ g hg
  rcases QC.mp hg with hg | hg
  ·obtain ⟨c, hc, rfl⟩ := Qr.mp hg
   obtain ⟨hc, hs⟩ := QK.mp hc
   have := h1 c hc
   rw [hs, YW] at this
   have e : c = x := by simpa using this
   rw [e]; exact QB.mpr rfl
  ·obtain ⟨p, hp, rfl⟩ := Qr.mp hg
   obtain ⟨hp, hs⟩ := QK.mp hp
   rw [Qw] at hs
   have := h2 p hp
   dsimp only at this
   rw [hs.1, hs.2, YW, YW] at this
   unfold cpl
   by_cases e : p.1 = x
   ·rw [e]; exact Qf
   ·have e2 : p.2 = x := by
     by_cases e2 : p.2 = x
     ·exact e2
     ·exact absurd (by simp [e, e2]) this
    rw [e2]; exact Qd _ Qf
theorem zNH {i : Nat} {gr : Rho -> Option (List D)} {ρ : Rho} {ds : List D} (h : gr ρ = some ds) (hl : ds.length <= 1000) : sOwn i gr ρ = some (.nx (ρ.set i (.own ds))) := by
 unfold sOwn
 rw [h, Qv, if_pos hl]
theorem zKR {g : Rho -> Option (List D)} {ρ : Rho} {l : List D} (h : eLc g ρ = some (.list l)) : g ρ = some l := by
 unfold eLc at h
 cases e : g ρ with
 | none => rw [e] at h; cases h
 | some m => rw [e] at h; cases h; rfl
theorem zFU (l : List C) : (prs l).length <= l.length := by
 unfold prs
 rw [Qg]
 refine Qt (QP _ _) ?_
 rw [List.length_zip]
 lia
section
variable {w h : Nat} {W : C -> Bool}
theorem zK9 {a b : C} (n : Near a b) : zCU [solD w h W, zAa a, zAa b] = some (.list ((grps (sol w h W) (line a b)).map grD)) := by
 have ll : (line a b).length <= 9 := by unfold line; rw [Qg]; exact n.ok.len
 have lp := zFU (line a b)
 have is : ∀ c, dIn2 false (zAa c) (solD w h W) = some (.bool (sol w h W c)) := fun c => zHO false c w h W
 obtain ⟨S, hS⟩ : ∃ S, S = sol w h W := ⟨_, rfl⟩
 rw [<- hS] at is ⊢
 obtain ⟨A, hA⟩ : ∃ A : List (List C), A = ((line a b).filter S).map fun c => [c] := ⟨_, rfl⟩
 have lA : A.length <= 9 := by rw [hA, Qg]; exact Qt (QP _ _) ll
 refine zAB ?_
 unfold zFi
 rw [show zAD 6 [solD w h W, zAa a, zAa b] = [.dat (solD w h W), .dat (zAa a), .dat (zAa b), .no, .no, .no] from rfl]
 refine zAk (zAv (zAj rfl (zED n))) ?_
 refine zAk (zNH (ds := (A ++ ([] : List Cp).map cpl).map grD) (zKR (zAT (xs := line a b) zAa S (fun c => grD [c]) (fun ρ => ∃ s0, ρ = [s0, .dat (solD w h W)]) (zAO rfl rfl) (by lia) ⟨_, rfl⟩ ?_ ?_)) (by rw [Qg, Qm, Qg, JA]; lia)) ?_
 ·rintro c _ ρ ⟨s0, rfl⟩
  exact ⟨[.dat (zAa c), .dat (solD w h W)], rfl, ⟨_, rfl⟩, oB (oo rfl rfl (is c)), fun _ => rfl⟩
 ·rw [List.map_nil, Yn, hA, QV]; rfl
 refine zAk (zBu (zAO (zAj rfl (zEw _ (by lia))) rfl) (zBS cpD (fun (b' : List Cp × Sl) => [.dat (solD w h W), .dat (zAa a), .dat (zAa b), .dat (.list ((line a b).map zAa)), .own ((A ++ b'.1.map cpl).map grD), b'.2]) (fun b' p => (if (S p.1 && S p.2) = true then b'.1 ++ [p] else b'.1, .dat (cpD p))) (fun i b' => b'.1.length <= i) 20 (prs (line a b)) 0 ([], .no) (by lia) (Qj _) fun p _ i b' hi hp => ?_)) ?_
 ·obtain ⟨acc, s5⟩ := b'
  have hp' : acc.length <= i := hp
  have hlt : ((A ++ acc.map cpl).map grD).length < 1000 := by rw [Qg, Qm, Qg]; lia
  refine ⟨⟨[.dat (solD w h W), .dat (zAa a), .dat (zAa b), .dat (.list ((line a b).map zAa)), .own ((A ++ acc.map cpl).map grD), .dat (cpD p)], rfl, ?_⟩, ?_⟩
  ·dsimp only
   cases q1 : S p.1 with
   | false => exact zAJ (oA0 (oB (oo rfl rfl (by rw [is, q1]))))
   | true =>
    cases q2 : S p.2 with
    | false => exact zAJ (oA1 (oB (oo rfl rfl (by rw [is, q1]))) (oB (oo rfl rfl (by rw [is, q2]))))
    | true =>
     refine (zBL (b := true) (oA1 (oB (oo rfl rfl (by rw [is, q1]))) (oB (oo rfl rfl (by rw [is, q2])))) (fun _ => zF3 (d := cpD p) rfl rfl hlt) fun z => by cases z).trans ?_
     rw [Jo, if_pos rfl, QS, QS, QS, QS, Q1]
     rfl
  ·show (if (S p.1 && S p.2) = true then acc ++ [p] else acc).length <= i + 1
   split
   ·rw [Qm, Q0]; lia
   ·lia
 ·have fold : ∀ (zs : List Cp) (b' : List Cp × Sl), (zs.foldl (fun (b' : List Cp × Sl) p => (if (S p.1 && S p.2) = true then b'.1 ++ [p] else b'.1, Sl.dat (cpD p))) b').1 = b'.1 ++ zs.filter fun p => S p.1 && S p.2 := by
   intro zs
   induction zs with
   | nil => intro b'; simp
   | cons z zs ih =>
    intro b'
    rw [Yf, ih, List.filter_cons]
    dsimp only
    cases (S z.1 && S z.2) with
    | true => rw [if_pos rfl, if_pos rfl, Q1]; rfl
    | false => rw [if_neg Qs, if_neg Qs]
  refine zAA ?_
  show some (PyData.list ((A ++ ((prs (line a b)).foldl (fun (b' : List Cp × Sl) p => (if (S p.1 && S p.2) = true then b'.1 ++ [p] else b'.1, Sl.dat (cpD p))) ([], .no)).1.map cpl).map grD)) = _
  rw [fold, hA]
  rfl
theorem zJI (x : C) (L : List (List C)) (s0 : Sl) (hl : L.length <= 1000) : eB (zAf dAll (zAc (eLc (zAx (iSeq (eV 1)) (zAo 0) eT (eOp (dIn false) (eV 1) (eV 0)) [none, some 0])) eNil)) [.dat (zAa x), .dat (.list (L.map grD))] = some (L.all fun g => g.contains x) := by
 refine oB (zAj (zAw (zAT (xs := L) grD (fun _ => true) (fun g => .bool (g.contains x)) (fun ρ => ∃ s0, ρ = [s0, .dat (zAa x)]) (zAO rfl rfl) hl ⟨_, rfl⟩ (out := (L.map fun g => g.contains x).map PyData.bool) ?_ ?_) rfl) ?_)
 ·rintro g _ ρ ⟨s0, rfl⟩
  exact ⟨[.dat (grD g), .dat (zAa x)], rfl, ⟨_, rfl⟩, rfl, fun _ => oo rfl rfl (in_T false x g)⟩
 ·rw [zCD, QV]; rfl
 ·show (zCt ((L.map fun g => g.contains x).map PyData.bool)).bind _ = _
  have bools : ∀ bs : List Bool, zCt (bs.map PyData.bool) = some bs := by
   intro bs
   induction bs with
   | nil => rfl
   | cons b bs ih =>
    show (zCt (bs.map PyData.bool)).bind _ = _
    rw [ih]
    rfl
  rw [bools]
  show some (PyData.bool ((L.map fun g => g.contains x).all id)) = _
  rw [List.all_map]
  rfl
theorem zNS {a b : C} (n : Near a b) : zCo [solD w h W, zAa a, zAa b] = some (.list ((sole (sol w h W) (line a b)).map zAa)) := by
 have he := zK9 (w := w) (h := h) (W := W) n
 have ll : (line a b).length <= 9 := by unfold line; rw [Qg]; exact n.ok.len
 have lp := zFU (line a b)
 have lg : (grps (sol w h W) (line a b)).length <= 18 := by
  unfold grps
  rw [Qm, Qg, Qg]
  have := QP (sol w h W) (line a b)
  have := QP (fun p : Cp => sol w h W p.1 && sol w h W p.2) (prs (line a b))
  lia
 have s2 := zJb (S := sol w h W) (l := line a b)
 have tw : ∀ g ∈ grps (sol w h W) (line a b), g.length <= 2 := fun g hg => (zHG hg).2
 refine zAB ?_
 unfold zFp sole
 rw [show zAD 4 [solD w h W, zAa a, zAa b] = [.dat (solD w h W), .dat (zAa a), .dat (zAa b), .no] from rfl]
 refine zAk (zAv (zAj rfl he)) ?_
 have e0 := eq_G (grps (sol w h W) (line a b))
 generalize grps (sol w h W) (line a b) = L at e0 lg tw
 cases L with
 | nil => exact zDr (zBL (b := true) (oB (oo rfl rfl e0)) (fun _ => zAA rfl) fun z => by cases z)
 | cons g gs =>
  refine zAk (zAJ (oB (oo rfl rfl e0))) (zAA ?_)
  refine zAT (xs := g) zAa (fun x => (g :: gs).all fun y => y.contains x) zAa (fun ρ => ∃ s0, ρ = [s0, .dat (.list ((g :: gs).map grD))]) (zAO (d := grD g) (oo rfl rfl (ix0L (grD g) (gs.map grD))) rfl) (Qt (tw g Qf) (by decide)) ⟨_, rfl⟩ ?_ rfl
  rintro x _ ρ ⟨s0, rfl⟩
  exact ⟨[.dat (zAa x), .dat (.list ((g :: gs).map grD))], rfl, ⟨_, rfl⟩, zJI x (g :: gs) s0 (by lia), fun _ => rfl⟩
end
end My
namespace My
open PySem PySem.SeqAt L2 DL SD SL EL DC
noncomputable def mD (K : List C) (f : C -> List C) : List (List Int × List D) := K.map fun c => (row c, (f c).map zAa)
noncomputable def addK (K : List C) (x : C) : List C := if K.contains x = true then K else K ++ [x]
noncomputable def addF (f : C -> List C) (x o : C) : C -> List C := fun c => if c = x then f c ++ [o] else f c
theorem zJF {K : List C} {f : C -> List C} (hK : ∀ c, c ∉ K -> f c = []) (x o : C) : addM (mD K f) (row x) (zAa o) = mD (addK K x) (addF f x o) := by
 have any : ((mD K f).any fun p => decide (p.1 = row x)) = K.contains x := by
  unfold mD
  rw [List.any_map, Yg, YJ, Qz]
  constructor
  ·rintro ⟨c, hc, q⟩
   rw [<- zBK (of_decide_eq_true q)]; exact hc
  ·intro hc
   exact ⟨x, hc, decide_eq_true rfl⟩
 unfold addM addK
 rw [any]
 by_cases hx : K.contains x = true
 ·rw [if_pos hx, if_pos hx]
  unfold mD
  rw [QV]
  refine Yt fun c _ => ?_
  show (if row c = row x then (row c, (f c).map zAa ++ [zAa o]) else (row c, (f c).map zAa)) = (row c, (addF f x o c).map zAa)
  unfold addF
  by_cases e : c = x
  ·rw [if_pos (by rw [e]), if_pos e, QS]; rfl
  ·rw [if_neg (fun z => e (zBK z)), if_neg e]
 ·rw [if_neg hx, if_neg hx]
  have nx : x ∉ K := fun z => hx (Qz.mpr z)
  unfold mD
  rw [QS]
  have e1 : (K.map fun c => (row c, (addF f x o c).map zAa)) = K.map fun c => (row c, (f c).map zAa) := Yt fun c hc => by
   have ne : c ≠ x := fun z => nx (by rw [<- z]; exact hc)
   rw [show addF f x o c = f c from if_neg ne]
  have e2 : addF f x o x = [o] := by
   unfold addF
   rw [if_pos rfl, hK x nx]
   rfl
  rw [e1, Ql, e2]
  rfl
structure MS where
 K : List C
 f : C -> List C
 s4 : Sl
 s5 : Sl
structure MInv (n : Nat) (b : MS) : Prop where
 k : ∀ c, c ∈ b.K ↔ b.f c ≠ []
 l : b.K.length <= n
 m : ∀ c, (b.f c).length <= n
noncomputable def stI (o : C) (b : MS) (x : C) : MS := ⟨addK b.K x, addF b.f x o, b.s4, .dat (zAa x)⟩
theorem zJe {n : Nat} {b : MS} {o x : C} (h : MInv n b) : MInv (n + 1) (stI o b x) := by
 refine ⟨fun c => ?_, ?_, fun c => ?_⟩
 ·show c ∈ addK b.K x ↔ addF b.f x o c ≠ []
  have e := h.k c
  unfold addK addF
  by_cases hc : c = x
  ·subst hc
   rw [if_pos rfl]
   refine ⟨fun _ => by simp, fun _ => ?_⟩
   split
   ·rename_i q; exact Qz.mp q
   ·exact Qy _ (QB.mpr rfl)
  ·rw [if_neg hc, <- e]
   split
   ·rfl
   ·rw [QC, QB]
    exact ⟨fun q => q.elim id fun z => absurd z hc, .inl⟩
 ·show (addK b.K x).length <= n + 1
  have := h.l
  unfold addK
  split
  ·lia
  ·rw [Qm, Q0]; lia
 ·show (addF b.f x o c).length <= n + 1
  have := h.m c
  unfold addF
  split
  ·rw [Qm, Q0]; lia
  ·lia
theorem zNG {gk ge : Rho -> Option D} {ρ : Rho} {i : Nat} {K : List C} {f : C -> List C} {x o : C} (h0 : ρ[i]? = some (.ownM (mD K f))) (h1 : gk ρ = some (zAa x)) (h2 : ge (ρ.set i .no) = some (zAa o)) (h3 : oneD i ρ = true) (hK : ∀ c, c ∈ K ↔ f c ≠ []) (hl : K.length < 1000) (hm : ∀ c, (f c).length < 1000) :
  zDs i gk ge ρ = some (.nx (ρ.set i (.ownM (mD (addK K x) (addF f x o))))) := by
 unfold zDs
 rw [h0]
 dsimp only
 rw [h1, Qv, show decT (zAa x) = some (row x) from zCy x, Qv, h2, Qv, h3, zJF fun c hc => by
  by_cases q : f c = []
  ·exact q
  ·exact absurd ((hK c).mpr q) hc]
 refine if_pos ?_
 rw [YW, Qw, decide_eq_true_iff, QF]
 refine ⟨by unfold mD; rw [Qg]; exact hl, fun p hp => ?_⟩
 obtain ⟨c, _, rfl⟩ := Qr.mp hp
 rw [decide_eq_true_iff]
 show ((f c).map zAa).length < 1000
 rw [Qg]; exact hm c
theorem zHl (o x : C) : ∀ (L : List C) (b : MS), (L.foldl (stI o) b).f x = b.f x ++ List.replicate (L.count x) o
 | [], b => by simp
 | y :: L, b => by
  rw [Yf, zHl o x L]
  show addF b.f y o x ++ _ = _
  unfold addF
  rw [List.count_cons]
  by_cases e : x = y
  ·subst e
   rw [if_pos rfl, beq_self_eq_true, if_pos rfl, Q1]
   rfl
  ·rw [if_neg e, if_neg (by simpa using fun z => e z.symm), Nat.add_zero]
theorem zE3 (o : C) {n : Nat} : ∀ (L : List C) (b : MS), MInv n b -> MInv (n + L.length) (L.foldl (stI o) b)
 | [], b, h => h
 | y :: L, b, h => by
  have := zE3 o L (stI o b y) (zJe h)
  rw [QM, Nat.add_comm L.length 1, <- Nat.add_assoc]
  exact this
noncomputable def stO (so : C -> List C) (b : MS) (o : C) : MS := (so o).foldl (stI o) ⟨b.K, b.f, .dat (zAa o), b.s5⟩
theorem zHm (so : C -> List C) (hn : ∀ o, (so o).Nodup) (x : C) : ∀ (L : List C) (b : MS), (L.foldl (stO so) b).f x = b.f x ++ L.filter fun o => (so o).contains x
 | [], b => by simp
 | o :: L, b => by
  rw [Yf, zHm so hn x L, List.filter_cons]
  unfold stO
  rw [zHl]
  dsimp only
  rw [Q1]
  congr 1
  by_cases e : (so o).contains x = true
  ·rw [if_pos e, List.Nodup.count (hn o), if_pos (Qz.mp e)]
   rfl
  ·rw [if_neg e, List.count_eq_zero.mpr fun z => e (Qz.mpr z)]
   rfl
theorem zHn (so : C -> List C) (h2 : ∀ o, (so o).length <= 2) : ∀ (L : List C) (n : Nat) (b : MS), MInv n b -> MInv (n + 2 * L.length) (L.foldl (stO so) b)
 | [], n, b, h => h
 | o :: L, n, b, h => by
  have s1 : MInv (n + 2) (stO so b o) := by
   have h' : MInv n ⟨b.K, b.f, .dat (zAa o), b.s5⟩ := ⟨h.k, h.l, h.m⟩
   have r := zE3 o (so o) _ h'
   have := h2 o
   exact ⟨r.k, Qt r.l (by lia), fun c => Qt (r.m c) (by lia)⟩
  have := zHn so h2 L (n + 2) _ s1
  rw [QM, show n + 2 * (L.length + 1) = n + 2 + 2 * L.length by lia]
  exact this
section
variable {w h : Nat} {W : C -> Bool} (hw : w <= 5) (hh : h <= 5)
noncomputable def hid (w h : Nat) (W : C -> Bool) (a x : C) : List C := (opn w h W).filter fun o => (sole (sol w h W) (line a o)).contains x
include hw hh
theorem zI3 {a : C} (ha : inR w h a = true) (ho : W a = false) : ∃ K : List C, (∀ c, c ∈ K ↔ hid w h W a c ≠ []) /\ zB5 [flD w h W, zAa a] = some (.dict (fdD K fun c => .list ((hid w h W a c).map zAa))) := by
 have m : zA8 [zBA w h W] = some (solD w h W) := zFD hw hh
 have oe : zBo [flD w h W] = some (.list ((opn w h W).map zAa)) := zFN hw hh
 have ol := zCg hw hh W
 obtain ⟨so, hso⟩ : ∃ so : C -> List C, so = fun o => sole (sol w h W) (line a o) := ⟨_, rfl⟩
 have n2 : ∀ o, (so o).Nodup /\ (so o).length <= 2 := fun o => by rw [hso]; exact zJb
 obtain ⟨b0, hb0⟩ : ∃ b0 : MS, b0 = ⟨[], fun _ => [], .no, .no⟩ := ⟨_, rfl⟩
 have i0 : MInv 0 b0 := by
  subst hb0
  exact ⟨fun c => by simp, Qj _, fun c => Qj _⟩
 have fin := zHn so (fun o => (n2 o).2) (opn w h W) 0 b0 i0
 have ff : ∀ x, ((opn w h W).foldl (stO so) b0).f x = hid w h W a x := fun x => by
  rw [zHm so (fun o => (n2 o).1) x, hb0, hso]
  rfl
 refine ⟨((opn w h W).foldl (stO so) b0).K, fun c => by rw [fin.k c, ff], zAB ?_⟩
 unfold zFo
 rw [show zAD 6 [flD w h W, zAa a] = [.dat (flD w h W), .dat (zAa a), .no, .no, .no, .no] from rfl]
 refine zAk (zDq (zAj rfl (zIr ha ho))) (zAk (zAv (zAj rfl m)) (zAk (ρ' := [.dat (flD w h W), .dat (zAa a), .dat (solD w h W), .ownM (mD b0.K b0.f), b0.s4, b0.s5]) (by subst hb0; rfl) ?_))
 refine zAk (zBu (zAO (zAj rfl oe) rfl) (zBS zAa (fun (b : MS) => [.dat (flD w h W), .dat (zAa a), .dat (solD w h W), .ownM (mD b.K b.f), b.s4, b.s5]) (stO so) (fun i b => MInv (2 * i) b) 25 (opn w h W) 0 b0 (by lia) i0 fun o hoo i b hi hp => ?_)) ?_
 ·refine ⟨⟨[.dat (flD w h W), .dat (zAa a), .dat (solD w h W), .ownM (mD b.K b.f), .dat (zAa o), b.s5], rfl, ?_⟩, ?_⟩
  ·have se : zCo [solD w h W, zAa a, zAa o] = some (.list ((so o).map zAa)) := by rw [hso]; exact zNS (zBW hw hh ha (zAF.mp hoo).1)
   refine zBu (zAO (zAj rfl se) rfl) (zBS zAa (fun (b : MS) => [.dat (flD w h W), .dat (zAa a), .dat (solD w h W), .ownM (mD b.K b.f), .dat (zAa o), b.s5]) (stI o) (fun j b => MInv (2 * i + j) b) 2 (so o) 0 ⟨b.K, b.f, .dat (zAa o), b.s5⟩ (by have := (n2 o).2; lia) ⟨hp.k, hp.l, hp.m⟩ fun x _ j b' hj q => ?_) |>.trans ?_
   ·refine ⟨⟨[.dat (flD w h W), .dat (zAa a), .dat (solD w h W), .ownM (mD b'.K b'.f), .dat (zAa o), .dat (zAa x)], rfl, ?_⟩, zJe q⟩
    exact zNG (i := 3) rfl rfl rfl rfl q.k (Q7 q.l (by lia)) fun c => Q7 (q.m c) (by lia)
   ·have s4 : ∀ (L : List C) (b : MS), (L.foldl (stI o) b).s4 = b.s4 := by
     intro L
     induction L with
     | nil => intro b; rfl
     | cons y L ih => intro b; rw [Yf, ih]; rfl
    show some (Out.nx _) = some (Out.nx _)
    unfold stO
    rw [s4]
  ·have h' : MInv (2 * i) ⟨b.K, b.f, .dat (zAa o), b.s5⟩ := ⟨hp.k, hp.l, hp.m⟩
   have r := zE3 o (so o) _ h'
   have := (n2 o).2
   exact ⟨r.k, Qt r.l (by lia), fun c => Qt (r.m c) (by lia)⟩
 ·show some (Out.rt (.dict ((mD ((opn w h W).foldl (stO so) b0).K ((opn w h W).foldl (stO so) b0).f).map fun p => (encT p.1, .list p.2)))) = _
  unfold mD fdD
  rw [QV]
  refine congrArg (fun z => some (Out.rt (.dict z))) (Yt fun c _ => ?_)
  show (encT (row c), PyData.list ((((opn w h W).foldl (stO so) b0).f c).map zAa)) = _
  rw [ff]
  rfl
theorem zHM {a x : C} (ha : inR w h a = true) (ho : W a = false) (hx : inR w h x = true) (hwx : W x = true) : zB2 [flD w h W, zAa a, zAa x] = some (.list ((hid w h W a x).map zAa)) := by
 obtain ⟨K, hK, e⟩ := zI3 (W := W) hw hh ha ho
 have si : zBO [flD w h W, zAa x] = some (.bool true) := by rw [zJc hx, hwx]
 refine zAB ?_
 unfold zFh
 rw [show zAD 4 [flD w h W, zAa a, zAa x] = [.dat (flD w h W), .dat (zAa a), .dat (zAa x), .no] from rfl]
 refine zAk (zAv (zAj rfl e)) (zAk (zAJ (oN (oB (zAj rfl si)))) (zAA ?_))
 show (decT (zAa x)).bind (fun ks => if zA1 (fdD K fun c => .list ((hid w h W a c).map zAa)) = true then some ((getD (fdD K fun c => .list ((hid w h W a c).map zAa)) ks).getD (.list [])) else none) = _
 rw [show decT (zAa x) = some (row x) from zCy x, Qv, zHg, if_pos rfl]
 by_cases c : x ∈ K
 ·rw [zK0 _ c]; rfl
 ·have n : hid w h W a x = [] := by
   by_cases q : hid w h W a x = []
   ·exact q
   ·exact absurd ((hK x).mpr q) c
  have g : getD (fdD K fun c => .list ((hid w h W a c).map zAa)) (row x) = none := by
   have hh' := zHH K (fun c => .list ((hid w h W a c).map zAa)) x
   rw [show K.contains x = false from by rw [Bool.eq_false_iff]; exact fun z => c (Qz.mp z)] at hh'
   unfold getD
   rw [Jk.mpr fun p hp z => by
    have : hasD (fdD K fun c => .list ((hid w h W a c).map zAa)) (row x) = true := YJ.mpr ⟨p, hp, z⟩
    rw [hh'] at this
    cases this]
   rfl
  rw [g, n]
  rfl
theorem zLb {a : C} (ha : inR w h a = true) (ho : W a = false) : zCV [flD w h W, zAa a] = some (.list ((((cells w h).filter W).filter fun x => (hid w h W a x).isEmpty).map zAa)) := by
 obtain ⟨K, hK, e⟩ := zI3 (W := W) hw hh ha ho
 have wl := zCO hw hh W
 have hb : ∀ x, (!K.contains x) = (hid w h W a x).isEmpty := fun x => by
  rw [Yg, YN, <- Jd, Qz, hK, List.isEmpty_iff]
  exact Decidable.not_not
 refine zAB ?_
 unfold zFj
 rw [show zAD 3 [flD w h W, zAa a] = [.dat (flD w h W), .dat (zAa a), .no] from rfl]
 refine zAk (zAv (zAj rfl e)) (zAA (zAT (xs := (cells w h).filter W) zAa (fun x => (hid w h W a x).isEmpty) zAa (fun ρ => ∃ s0, ρ = [s0, .dat (.dict (fdD K fun c => .list ((hid w h W a c).map zAa)))]) (zAO rfl rfl) (by lia) ⟨_, rfl⟩ ?_ rfl))
 rintro x _ ρ ⟨s0, rfl⟩
 refine ⟨[.dat (zAa x), .dat (.dict (fdD K fun c => .list ((hid w h W a c).map zAa)))], rfl, ⟨_, rfl⟩, oB (oo rfl rfl ?_), fun _ => rfl⟩
 rw [<- hb]
 show (decT (zAa x)).bind (fun k => if zA1 (fdD K fun c => .list ((hid w h W a c).map zAa)) = true then some (PyData.bool (if true then !hasD (fdD K fun c => .list ((hid w h W a c).map zAa)) k else hasD (fdD K fun c => .list ((hid w h W a c).map zAa)) k)) else none) = _
 rw [show decT (zAa x) = some (row x) from zCy x, Qv, zHg, if_pos rfl, zHH]
 rfl
end
end My
namespace My
open PySem PySem.SeqAt L2 DL SD SL EL DC
noncomputable def cps (w h : Nat) (W : C -> Bool) : List Cp := (zBf (opn w h W)).filter fun p => clear (sol w h W) p.1 p.2
section
variable {w h : Nat} {W V : C -> Bool} (hw : w <= 5) (hh : h <= 5)
include hw hh
theorem zDg {p : Cp} : p ∈ cps w h W ↔ p.1 ∈ opn w h W /\ p.2 ∈ opn w h W /\ ltC p.1 p.2 = true /\ seeB (sol w h W) p.1 p.2 = true := by
 unfold cps
 rw [QK, show p = (p.1, p.2) from rfl, zFE (zGg w h W)]
 constructor
 ·rintro ⟨⟨q1, q2, q3⟩, q4⟩
  exact ⟨q1, q2, q3, by rw [zI1 hw hh q1 q2]; exact q4⟩
 ·rintro ⟨q1, q2, q3, q4⟩
  exact ⟨⟨q1, q2, q3⟩, by rw [zI1 hw hh q1 q2] at q4; exact q4⟩
theorem zEC : (cps w h W).length <= 1000 := Qt (QP _ _) (Qt (zFO (zCg hw hh W)) (by decide))
theorem zGU (hV : ∀ c, V c = true -> W c = true) {p : Cp} (hp : p ∈ cps w h W) : p ∈ cps w h V := by
 have op : ∀ {c}, c ∈ opn w h W -> c ∈ opn w h V := fun {c} hc => by
  rw [zAF] at hc ⊢
  refine ⟨hc.1, ?_⟩
  cases e : V c with
  | false => rfl
  | true => rw [hV c e] at hc; exact absurd hc.2 (by simp)
 obtain ⟨q1, q2, q3, q4⟩ := (zDg hw hh).mp hp
 refine (zDg hw hh).mpr ⟨op q1, op q2, q3, zI0 (fun c q => ?_) q4⟩
 unfold sol at q ⊢
 rw [Qw] at q ⊢
 exact ⟨q.1, hV c q.2⟩
noncomputable def zCF (p : Cp) (q : C) : Bool := (line p.1 p.2).contains q || !((prs (line p.1 p.2)).filter fun r => (cpl r).contains q).isEmpty
theorem zKh {q : C} {p : Cp} (hp : p ∈ cps w h fun x => W x && !(x == q)) (hm : zCF p q = false) : p ∈ cps w h fun x => W x || x == q := by
 obtain ⟨q1, q2, q3, q4⟩ := (zDg hw hh).mp hp
 unfold zCF at hm
 rw [Bool.or_eq_false_iff, Bool.not_eq_false', List.isEmpty_iff, YD] at hm
 obtain ⟨m1, m2⟩ := hm
 have nl : ∀ c ∈ line p.1 p.2, c ≠ q := fun c hc z => by
  rw [z] at hc
  rw [Qz.mpr hc] at m1
  cases m1
 have n := zBW hw hh (zAF.mp q1).1 (zAF.mp q2).1
 obtain ⟨st, hf⟩ := zLI n
 have e1 : p.1 ≠ q := nl _ (by rw [hf]; exact Qf)
 have e2 : p.2 ≠ q := nl _ (by rw [<- zFB n]; exact Qy _ (QB.mpr rfl))
 have same : ∀ c, c ≠ q -> (W c || c == q) = (W c && !(c == q)) := fun c hc => by rw [beq_eq_false_iff_ne.mpr hc]; simp
 have op : ∀ {c}, c ≠ q -> (c ∈ opn w h fun x => W x && !(x == q)) -> c ∈ opn w h fun x => W x || x == q := fun {c} hc ho => by
  rw [zAF] at ho ⊢
  exact ⟨ho.1, by rw [same c hc]; exact ho.2⟩
 have ss : ∀ c, c ≠ q -> sol w h (fun x => W x || x == q) c = sol w h (fun x => W x && !(x == q)) c := fun c hc => by
  unfold sol
  dsimp only
  rw [same c hc]
 refine (zDg hw hh).mpr ⟨op e1 q1, op e2 q2, q3, ?_⟩
 rw [zF8 n] at q4 ⊢
 rw [<- q4]
 unfold grps
 congr 1
 ·congr 1
  exact Y8 fun c hc => ss c (nl c hc)
 ·congr 1
  refine Y8 fun r hr => ?_
  have nr := m2 r hr
  rw [Qz] at nr
  rw [ss r.1 fun z => nr (by rw [<- z]; exact Qf), ss r.2 fun z => nr (by rw [<- z]; exact Qd _ Qf)]
end
theorem zLP {p : Cp} {q : C} (n : Near p.1 p.2) : zCl [cpD p, zAa q] = some (.bool (zCF p q)) := by
 have ll : (line p.1 p.2).length <= 9 := by unfold line; rw [Qg]; exact n.ok.len
 have lp := zFU (line p.1 p.2)
 have ce := zED n
 have pe : zCY [zAa p.1, zAa p.2] = some (.list ((prs (line p.1 p.2)).map cpD)) := zAB (zAA (zAj (zAw (zAj rfl ce) rfl) (zEw _ (by lia))))
 refine zAB ?_
 unfold zFa zCF
 rw [show zAD 2 [cpD p, zAa q] = [.dat (cpD p), .dat (zAa q)] from rfl]
 have il := in_L false q (line p.1 p.2)
 cases e : (line p.1 p.2).contains q with
 | true =>
  rw [e] at il
  exact zDr (zBL (b := true) (oB (oo rfl (zAj rfl ce) il)) (fun _ => zAA rfl) fun z => by cases z)
 | false =>
  rw [e] at il
  refine zAk (zAJ (oB (oo rfl (zAj rfl ce) il))) (zAA (oo (zAT (xs := prs (line p.1 p.2)) cpD (fun r => (cpl r).contains q) cpD (fun ρ => ∃ s0, ρ = [s0, .dat (zAa q)]) (zAO (zAj rfl pe) rfl) (by lia) ⟨_, rfl⟩ ?_ rfl) rfl (zFG _)))
  rintro r _ ρ ⟨s0, rfl⟩
  exact ⟨[.dat (cpD r), .dat (zAa q)], rfl, ⟨_, rfl⟩, oB (oo rfl rfl (in_T false q (cpl r))), fun _ => rfl⟩
theorem zFL {α : Type} {f : α -> Bool} {l : List α} (h : ∀ a ∈ l, f a = false) : l.filter f = [] := by
 rw [YD]
 intro a ha
 rw [h a ha]
 exact Qs
theorem zJi {A B : List Cp} {i j : Nat} {ρ : Rho} (hi : eV i ρ = some (.list (A.map cpD))) (hj : zBk [none, some j] ρ = [.no, .dat (.list (B.map cpD))]) (hl : A.length <= 1000) (h : ∀ p ∈ A, p ∈ B) :
  eB (eOp dNe (eLc (zAx (iSeq (eV i)) (zAo 0) (eB (eOp (dIn true) (eV 0) (eV 1))) (eV 0) [none, some j])) (eLst eNil)) ρ = some false := by
 refine oB (oo (zAT (xs := A) (out := ([] : List Cp).map cpD) cpD (fun p => !B.contains p) cpD (fun ρ => ∃ s0, ρ = [s0, .dat (.list (B.map cpD))]) (zAO hi rfl) hl ⟨_, hj⟩ ?_ ?_) rfl (zFG []))
 ·rintro p _ ρ ⟨s0, rfl⟩
  exact ⟨[.dat (cpD p), .dat (.list (B.map cpD))], rfl, ⟨_, rfl⟩, oB (oo rfl rfl (zHN true p B)), fun _ => rfl⟩
 ·rw [zFL fun p hp => by rw [Qz.mpr (h p hp)]; rfl]
theorem zLO {A B : List Cp} {q : C} {ρ : Rho} (hi : eV 6 ρ = some (.list (A.map cpD))) (hj : zBk [none, some 5, some 4] ρ = [.no, .dat (.list (B.map cpD)), .dat (zAa q)]) (hl : A.length <= 1000) (hn : ∀ p ∈ A, Near p.1 p.2) (h : ∀ p ∈ A, zCF p q = false -> p ∈ B) :
  eB (eOp dNe (eLc (zAx (iSeq (eV 6)) (zAo 0) (eAnd (eB (eOp (dIn true) (eV 0) (eV 1))) (eNot (eB (zAf zCl (zAc (eV 0) (zAc (eV 2) eNil)))))) (eV 0) [none, some 5, some 4])) (eLst eNil)) ρ = some false := by
 refine oB (oo (zAT (xs := A) (out := ([] : List Cp).map cpD) cpD (fun _ => false) cpD (fun ρ => ∃ s0, ρ = [s0, .dat (.list (B.map cpD)), .dat (zAa q)]) (zAO hi rfl) hl ⟨_, hj⟩ ?_ ?_) rfl (zFG []))
 ·rintro p hp ρ ⟨s0, rfl⟩
  refine ⟨[.dat (cpD p), .dat (.list (B.map cpD)), .dat (zAa q)], rfl, ⟨_, rfl⟩, ?_, fun _ => rfl⟩
  have ic := zHN true p B
  cases m : zCF p q with
  | false =>
   rw [Qz.mpr (h p hp m)] at ic
   exact oA0 (oB (oo rfl rfl ic))
  | true =>
   have me := zLP (q := q) (hn p hp)
   rw [m] at me
   cases e : B.contains p with
   | true => rw [e] at ic; exact oA0 (oB (oo rfl rfl ic))
   | false => rw [e] at ic; exact oA1 (oB (oo rfl rfl ic)) (oN (oB (zAj rfl me)))
 ·rw [zFL fun p hp => rfl]
theorem zM8 (ns : List Int) (hn : ns.length <= 63) {O : List C} (ol : O.length <= 25) {ρ : Rho} (h3 : eV 3 ρ = some (.list (O.map zAa))) (hj : zBk [none, some 3, some 0] ρ = [.no, .dat (.list (O.map zAa)), .dat (scr ns)]) :
  ∃ Z : List C, (∀ z ∈ Z, z ∈ O) /\ Z.length <= 2 /\ eLc (zAx (zBb (zAc (eOp zAt (eC (.int 2)) (zAf dInt (zAc (eOp dNe (eV 3) (eLst eNil)) eNil))) eNil)) (zAo 0) eT (eOp dIx (eV 1) (zAf zAZ (zAc (eV 2) (zAc (eOp zAy (eC (.int 61)) (eV 0)) (zAc (zAf dLen (zAc (eV 1) eNil)) eNil))))) [none, some 3, some 0]) ρ = some (.list (Z.map zAa)) := by
 have ei : zAf dInt (zAc (eOp dNe (eV 3) (eLst eNil)) eNil) ρ = some (.int (if (!decide (O = [])) = true then 1 else 0)) :=
  zAj (ds := [.bool (!decide (O = []))]) (zAw (oo h3 (zLM ρ) (zId O [])) rfl) rfl
 obtain ⟨m, hm, em⟩ : ∃ m : Nat, (m <= 2 /\ (O = [] -> m = 0)) /\ eOp zAt (eC (.int 2)) (zAf dInt (zAc (eOp dNe (eV 3) (eLst eNil)) eNil)) ρ = some (.int (m : Int)) := by
  by_cases e : O = []
  ·rw [decide_eq_true e] at ei
   exact ⟨0, ⟨by decide, fun _ => rfl⟩, oo rfl ei rfl⟩
  ·rw [decide_eq_false e] at ei
   exact ⟨2, ⟨by decide, fun z => absurd z e⟩, oo rfl ei rfl⟩
 obtain ⟨pk, hpk⟩ : ∃ pk : Nat -> C, pk = fun (k : Nat) => at0 O (dr ns (61 + (k : Int)) (O.length : Int)).toNat := ⟨_, rfl⟩
 have on : ∀ k ∈ List.range m, 0 < (O.length : Int) := fun k hk => by
  have h1 := QL.mp hk
  cases O with
  | nil => rw [hm.2 rfl] at h1; lia
  | cons a l => rw [QM]; lia
 have pkI : ∀ k ∈ List.range m, pk k ∈ O := fun k hk => by
  obtain ⟨_, d0, d1⟩ := zB9 ns hn (61 + (k : Int)) (O.length : Int) (on k hk)
  rw [hpk]
  exact (ix_L d0 d1).2
 refine ⟨(List.range m).map pk, fun z hz => ?_, by rw [Qg, QW]; exact hm.1, zAT (xs := List.range m) (fun (k : Nat) => .int (k : Int)) (fun _ => true) (fun k => zAa (pk k)) (fun ρ => ∃ s0, ρ = [s0, .dat (.list (O.map zAa)), .dat (scr ns)]) (zDR (n := m) (zAw em rfl) (by lia)) (by rw [QW]; lia) ⟨_, hj⟩ ?_ ?_⟩
 ·obtain ⟨k, hk, rfl⟩ := Qr.mp hz
  exact pkI k hk
 ·rintro k hk ρ ⟨s0, rfl⟩
  obtain ⟨dw, d0, d1⟩ := zB9 ns hn (61 + (k : Int)) (O.length : Int) (on k hk)
  have ix := (ix_L d0 d1).1
  refine ⟨[.dat (.int (k : Int)), .dat (.list (O.map zAa)), .dat (scr ns)], rfl, ⟨_, rfl⟩, rfl, fun _ => ?_⟩
  have ln : dLen [.list (O.map zAa)] = some (.int (O.length : Int)) := by rw [len_L, Qg]
  rw [hpk]
  exact oo rfl (zAj (zAw rfl (zAw rfl (zAw (zAj rfl ln) rfl))) dw) ix
 ·rw [zCD, QV]; rfl
section
variable {w h : Nat} {W : C -> Bool} (hw : w <= 5) (hh : h <= 5)
theorem zEk {x : C} : (sol w h fun c => W c && !(c == x)) = fun c => sol w h W c && !(c == x) := by
 funext c
 unfold sol
 rw [Bool.and_assoc]
include hw hh
theorem zDh {a x o : C} (ha : a ∈ opn w h W) : o ∈ hid w h W a x ↔ o ∈ opn w h W /\ seeB (sol w h W) a o = false /\ seeB (sol w h fun c => W c && !(c == x)) a o = true := by
 unfold hid
 rw [QK, Qz]
 constructor
 ·rintro ⟨h1, h2⟩
  rw [zJa (zBW hw hh (zAF.mp ha).1 (zAF.mp h1).1)] at h2
  rw [zEk]
  exact ⟨h1, h2⟩
 ·rintro ⟨h1, h2⟩
  rw [zEk] at h2
  exact ⟨h1, (zJa (zBW hw hh (zAF.mp ha).1 (zAF.mp h1).1)).mpr h2⟩
theorem zK7 {a x o : C} (ha : a ∈ opn w h W) (ho : o ∈ hid w h W a x) : a ∈ hid w h W o x := by
 obtain ⟨h1, h2, h3⟩ := (zDh hw hh ha).mp ho
 have n := zBW hw hh (zAF.mp ha).1 (zAF.mp h1).1
 exact (zDh hw hh h1).mpr ⟨ha, by rw [<- zIZ n]; exact h2, by rw [<- zIZ n]; exact h3⟩
theorem zK8 {a x : C} (ha : a ∈ opn w h W) (hx : inR w h x = true) (wx : W x = true) :
  zBE [.list ((((cells w h).filter fun b => seeB (sol w h W) a b) ++ hid w h W a x).map zAa)] = some (.list ((((cells w h).filter fun b => seeB (sol w h fun c => W c && !(c == x)) a b).filter fun c => !(c == x)).map zAa)) := by
 have l1 := zCO hw hh fun b => seeB (sol w h W) a b
 have l2 : (hid w h W a x).length <= 25 := Qt (QP _ _) (zCg hw hh W)
 have wall : ∀ {c : C}, seeB (sol w h W) a c = true -> c ≠ x := fun {c} q z => by
  rw [z] at q
  unfold seeB sol at q
  rw [hx, wx] at q
  cases q
 refine zGd (Jq.mpr ⟨zDz (zBZ (zCj w h) _), zDz (zBZ (zGg w h W) _), fun c h1 d h2 e => ?_⟩) (by rw [Qm]; lia) (zBZ (zBZ (zCj w h) _) _) fun c => ?_
 ·subst e
  have := ((zDh hw hh ha).mp h2).2.1
  rw [(QK.mp h1).2] at this
  cases this
 ·rw [QK, QK, QC, QK, zDh hw hh ha, zBr]
  constructor
  ·rintro ⟨⟨q1, q2⟩, q3⟩
   cases e : seeB (sol w h W) a c with
   | true => exact .inl ⟨q1, rfl⟩
   | false =>
    refine .inr ⟨zAF.mpr ⟨q1, ?_⟩, rfl, q2⟩
    have := (Qw _ _ ▸ q2 : _ /\ _).1
    rw [zEk] at this
    dsimp only at this
    rw [YN, q3, Bool.and_true, zEj hw hh q1] at this
    exact this
  ·rintro (⟨q1, q2⟩ | ⟨q1, q2, q3⟩)
   ·refine ⟨⟨q1, zI0 (fun d hd => ?_) q2⟩, by simpa using wall q2⟩
    rw [zEk, Qw] at hd
    exact hd.1
   ·refine ⟨⟨(zAF.mp q1).1, q3⟩, ?_⟩
    have : c ≠ x := fun z => by
     have := (zAF.mp q1).2
     rw [z, wx] at this
     cases this
    simpa using this
end
theorem zMr {α : Type} {g : Rho -> Option Out} {ρ : Rho} {I : Rho -> Prop} {gi : Rho -> Option (List D)} {s : D -> Rho -> Option Rho} (item : α -> D) (J : Rho -> Prop) (xs : List α) (hi : gi ρ = some (xs.map item)) (h0 : J ρ)
  (h : ∀ a ∈ xs, ∀ ρ, J ρ -> ∃ ρ1, s (item a) ρ = some ρ1 /\ Nx g ρ1 J) (hr : ∀ ρ', J ρ' -> I ρ') : Nx (sFor gi s g) ρ I := by
 obtain ⟨ρ', e, i⟩ := zE7 item J xs ρ h0 fun a ha ρ hρ => by
  obtain ⟨ρ1, e1, ρ2, e2, i2⟩ := h a ha ρ hρ
  exact ⟨ρ1, ρ2, e1, e2, i2⟩
 exact ⟨ρ', zBu hi e, hr ρ' i⟩
theorem main (ns : List Int) (hn : ns.length <= 63) : Glaw [.list (ns.map PyData.int)] = some (.bool true) := by
 obtain ⟨w, h, W, eF, w1, w4, h1, h4⟩ := zKZ ns hn 0 4 (by decide) (by decide)
 have eF : zCk [scr ns, .int 0, .int 4] = some (flD w h W) := eF
 have w5 : w <= 5 := by lia
 have h5 : h <= 5 := by lia
 have lc := zH0 (W := W) w5 h1 h5
 have lo := zLL (W := W) w5 h1 h5
 have wh : (0 : Int) < ((w * h : Nat) : Int) := YU.mpr (Nat.mul_pos w1 h1)
 have ml : zAt (.int w) (.int h) = some (.int ((w * h : Nat) : Int)) := by rw [zBs (okS (Int.lt_of_lt_of_le (by decide) (YH _)) (Int.lt_of_le_of_lt (Int.ofNat_le.mpr w5) (by decide)))]; rfl
 obtain ⟨dw, d0, d1⟩ := zB9 ns hn 60 ((w * h : Nat) : Int) wh
 obtain ⟨ix, iq⟩ := ix_L (l := cells w h) d0 (by rw [zB8]; exact d1)
 generalize at0 (cells w h) (dr ns 60 ((w * h : Nat) : Int)).toNat = q at ix iq
 have iq : inR w h q = true := zBr.mp iq
 have we := zOn (W := W) w5 h5 iq
 have wo := zJD (W := W) w5 h5 iq
 have c1 : zBw [flD w h W] = some (.list ((cps w h W).map cpD)) := zEB w5 h5
 have c2 : zBw [flD w h fun x => W x || x == q] = some (.list ((cps w h fun x => W x || x == q).map cpD)) := zEB w5 h5
 have c3 : zBw [flD w h fun x => W x && !(x == q)] = some (.list ((cps w h fun x => W x && !(x == q)).map cpD)) := zEB w5 h5
 refine zAB ?_
 unfold glaw
 show _ = some (Out.rt (.bool true))
 rw [show zAD 15 [PyData.list (ns.map PyData.int)] = [.dat (scr ns), .no, .no, .no, .no, .no, .no, .no, .no, .no, .no, .no, .no, .no, .no] from rfl]
 refine zAk (zAv (zAj rfl eF)) (zAk (zAv (zAj rfl c1)) (zAk (zAv (zAj rfl lo)) ?_))
 refine zAk (zAv (oo (zAj rfl lc) (zAj (zAw rfl (zAw rfl (zAw (oo rfl rfl ml) rfl))) dw) ix)) ?_
 refine zAk (zAv (zAj (zAw (zAj rfl we) rfl) c2)) (zAk (zAv (zAj (zAw (zAj rfl wo) rfl) c3)) ?_)
 refine zAk (zAJ (zJi (A := cps w h fun x => W x || x == q) (B := cps w h W) rfl rfl (zEC w5 h5) fun p hp => zGU w5 h5 (fun c hc => by rw [hc]; rfl) hp)) ?_
 refine zAk (zAJ (zJi (A := cps w h W) (B := cps w h fun x => W x && !(x == q)) rfl rfl (zEC w5 h5) fun p hp => zGU w5 h5 (fun c hc => (Qw _ _ ▸ hc : _ /\ _).1) hp)) ?_
 refine zAk (zAJ (zLO (A := cps w h fun x => W x && !(x == q)) (B := cps w h fun x => W x || x == q) (q := q) rfl rfl (zEC w5 h5) (fun p hp => ?_) fun p hp hm => zKh w5 h5 hp hm)) ?_
 ·obtain ⟨a1, a2, _⟩ := (zDg w5 h5).mp hp
  exact zBW w5 h5 (zAF.mp a1).1 (zAF.mp a2).1
 generalize PyData.list ((cps w h W).map cpD) = d2
 generalize PyData.list ((cps w h fun x => W x || x == q).map cpD) = d5
 generalize PyData.list ((cps w h fun x => W x && !(x == q)).map cpD) = d6
 obtain ⟨Z, hZ, lZ, eZ⟩ := zM8 ns hn (zCg w5 h5 W) (ρ := [.dat (scr ns), .dat (flD w h W), .dat d2, .dat (.list ((opn w h W).map zAa)), .dat (zAa q), .dat d5, .dat d6, .no, .no, .no, .no, .no, .no, .no, .no]) rfl rfl
 refine zAk (zAv eZ) ?_
 clear eZ c1 c2 c3 we wo ix dw d0 d1 lc lo ml eF wh iq
 refine zNF zAa (fun ρ => ∃ s8 s9 s10 s11 s12 s13 s14, ρ = [.dat (scr ns), .dat (flD w h W), .dat d2, .dat (.list ((opn w h W).map zAa)), .dat (zAa q), .dat d5, .dat d6, .dat (.list (Z.map zAa)), s8, s9, s10, s11, s12, s13, s14]) Z (zAO rfl rfl) ⟨_, _, _, _, _, _, _, rfl⟩ ?_ ?_
 ·rintro a ha ρ ⟨s8, s9, s10, s11, s12, s13, s14, rfl⟩
  have oa := hZ a ha
  have ia := (zAF.mp oa).1
  have wa := (zAF.mp oa).2
  refine ⟨[.dat (scr ns), .dat (flD w h W), .dat d2, .dat (.list ((opn w h W).map zAa)), .dat (zAa q), .dat d5, .dat d6, .dat (.list (Z.map zAa)), .dat (zAa a), s9, s10, s11, s12, s13, s14], rfl, ?_⟩
  have ie := zLb (W := W) w5 h5 ia wa
  have f1 := zHc (W := W) w5 h5 ia wa
  have lf := zCO w5 h5 fun b => seeB (sol w h W) a b
  refine zMs (zAv (zAj rfl ie)) ?_
  refine zMr zAa (fun ρ => ∃ s10 s11 s12 s13 s14, ρ = [.dat (scr ns), .dat (flD w h W), .dat d2, .dat (.list ((opn w h W).map zAa)), .dat (zAa q), .dat d5, .dat d6, .dat (.list (Z.map zAa)), .dat (zAa a), .dat (.list ((((cells w h).filter W).filter fun x => (hid w h W a x).isEmpty).map zAa)), s10, s11, s12, s13, s14]) ((cells w h).filter W) (zAO rfl rfl) ⟨s10, s11, s12, s13, s14, rfl⟩ ?_ fun ρ' ⟨t10, t11, t12, t13, t14, z⟩ => ⟨_, _, t10, t11, t12, t13, t14, z⟩
  rintro x hx ρ ⟨s10, s11, s12, s13, s14, rfl⟩
  obtain ⟨ix, wx⟩ := QK.mp hx
  have ix := zBr.mp ix
  have wo := zJD (W := W) w5 h5 ix
  have he := zHM (W := W) w5 h5 ia wa ix wx
  have f2 := zHc (W := fun c => W c && !(c == x)) w5 h5 ia (by rw [wa]; rfl)
  have lf2 := zCO w5 h5 fun b => seeB (sol w h fun c => W c && !(c == x)) a b
  have hl : (hid w h W a x).length <= 25 := Qt (QP _ _) (zCg w5 h5 W)
  have hs := zK8 w5 h5 oa ix wx
  have ad := add_L ((cells w h).filter fun b => seeB (sol w h W) a b) (hid w h W a x) (by lia)
  have inI := in_L false x (((cells w h).filter W).filter fun x => (hid w h W a x).isEmpty)
  have cI : (((cells w h).filter W).filter fun x => (hid w h W a x).isEmpty).contains x = (hid w h W a x).isEmpty := by
   rw [Yg, Qz, QK]
   exact ⟨fun z => z.2, fun z => ⟨hx, z⟩⟩
  have hm : ∀ o ∈ hid w h W a x, zB2 [flD w h W, zAa o, zAa x] = some (.list ((hid w h W o x).map zAa)) /\ a ∈ hid w h W o x := fun o ho => by
   have oo := ((zDh w5 h5 oa).mp ho).1
   exact ⟨zHM w5 h5 (zAF.mp oo).1 (zAF.mp oo).2 ix wx, zK7 w5 h5 oa ho⟩
  have he0 := eq_Ls (hid w h W a x) []
  rw [cI] at inI
  generalize ((((cells w h).filter W).filter fun x => (hid w h W a x).isEmpty).map zAa) = I9 at inI ⊢
  generalize hid w h W a x = Hd at he hl hs ad inI hm he0
  generalize ((cells w h).filter fun b => seeB (sol w h W) a b) = Fd at f1 hs ad
  generalize ((cells w h).filter fun b => seeB (sol w h fun c => W c && !(c == x)) a b) = Ft at f2 hs lf2
  generalize flD w h W = fl at wo he f1 hm ⊢
  refine ⟨[.dat (scr ns), .dat fl, .dat d2, .dat (.list ((opn w h W).map zAa)), .dat (zAa q), .dat d5, .dat d6, .dat (.list (Z.map zAa)), .dat (zAa a), .dat (.list I9), .dat (zAa x), s11, s12, s13, s14], rfl, [.dat (scr ns), .dat fl, .dat d2, .dat (.list ((opn w h W).map zAa)), .dat (zAa q), .dat d5, .dat d6, .dat (.list (Z.map zAa)), .dat (zAa a), .dat (.list I9), .dat (zAa x), .dat (.list (Hd.map zAa)), .dat (.list (Ft.map zAa)), .dat (.list (Fd.map zAa)), .dat (.list (([] : List C).map zAa))], ?_, ⟨_, _, _, _, _, rfl⟩⟩
  refine zCL (zAv (zAj rfl he)) (zCL (zAv (zAj (zAw (zAj rfl wo) rfl) f2)) (zCL (zAv (zAj rfl f1)) ?_))
  refine zCL (zAJ (t_neL (l := Ft.filter fun c => !(c == x)) (m := Ft.filter fun c => !(c == x)) (zAT (xs := Ft) zAa (fun c => !(c == x)) zAa (fun ρ => ∃ s0, ρ = [s0, .dat (zAa x)]) (zAO rfl rfl) (by lia) ⟨_, rfl⟩ ?_ rfl) (zAj (zAw (oo rfl rfl ad) rfl) hs) rfl)) ?_
  ·rintro c _ ρ ⟨s0, rfl⟩
   exact ⟨[.dat (zAa c), .dat (zAa x)], rfl, ⟨_, rfl⟩, oB (oo rfl rfl (ne_c c x)), fun _ => rfl⟩
  refine zCL (zAJ (oB (oo (oo rfl rfl inI) (oo rfl rfl he0) ?_))) ?_
  ·cases Hd <;> rfl
  refine zCL (zAv (zAT (xs := Hd) (out := ([] : List C).map zAa) zAa (fun _ => false) zAa (fun ρ => ∃ s0, ρ = [s0, .dat (zAa a), .dat fl, .dat (zAa x)]) (zAO rfl rfl) (by lia) ⟨_, rfl⟩ ?_ ?_)) ?_
  ·rintro o ho ρ ⟨s0, rfl⟩
   obtain ⟨g1, g2⟩ := hm o ho
   have il := in_L true a (hid w h W o x)
   rw [Qz.mpr g2] at il
   exact ⟨[.dat (zAa o), .dat (zAa a), .dat fl, .dat (zAa x)], rfl, ⟨_, rfl⟩, oB (oo rfl (zAj rfl g1) il), fun _ => rfl⟩
  ·rw [zFL fun p hp => rfl]
  ·exact zAJ rfl
 ·rintro ρ ⟨s8, s9, s10, s11, s12, s13, s14, rfl⟩
  exact zAA rfl
end My
namespace My
open PySem PySem.Spec PySem.SeqAt PyProof.Rows L2 CL DL SD ZL SL EL DC
theorem us1 {p : List Value -> Prop} {us : List Value} (h : us.length = 1) (q : ∀ a, p [a]) : p us := by
 rcases us with _ | ⟨a, _ | ⟨b, r⟩⟩
 ·cases h
 ·exact q a
 ·simp at h
theorem us2 {p : List Value -> Prop} {us : List Value} (h : us.length = 2) (q : ∀ a b, p [a, b]) : p us := by
 rcases us with _ | ⟨a, r⟩
 ·cases h
 ·exact us1 (p := fun r => p (a :: r)) (us := r) (by simpa using h) fun b => q a b
theorem us3 {p : List Value -> Prop} {us : List Value} (h : us.length = 3) (q : ∀ a b c, p [a, b, c]) : p us := by
 rcases us with _ | ⟨a, r⟩
 ·cases h
 ·exact us2 (p := fun r => p (a :: r)) (us := r) (by simpa using h) fun b c => q a b c
theorem us4 {p : List Value -> Prop} {us : List Value} (h : us.length = 4) (q : ∀ a b c d, p [a, b, c, d]) : p us := by
 rcases us with _ | ⟨a, r⟩
 ·cases h
 ·exact us3 (p := fun r => p (a :: r)) (us := r) (by simpa using h) fun b c d => q a b c d
theorem all_mk (main : ∀ ns : List Int, ns.length <= 63 -> Glaw [.list (ns.map PyData.int)] = some (.bool true)) {l : PySem.W.OpenLaw} {w : World} {K : PySem.W.Frag} {mg : Str -> Option Value} {fa : Addr} (hfa : mg "law" = some (.ref fa)) (T : ∃ a d, Txt K mg a d) :
  ∃ fd : FuncData, (∀ (s : Shared) (v : Value), BindsTo s fd ⟨[v], []⟩ [("_law_script", v)]) /\ ∀ base : Heap, K.In base -> base.Ns mainGlobals mg -> FnOk l.prog w K mg base CX0 9 fa fd ["_law_script"] (zEl K Glaw) := by
 obtain ⟨a, d, T⟩ := T
 have e := T.F_qt.m.symm.trans hfa
 cases e
 obtain ⟨oc, od, kV, doc, pm, an, cdv, ct, osl, e, _⟩ := T.F_qt.F.ex
 refine ⟨d 29, fun s v => by rw [e]; exact .of_eq rfl, fun base _ _ => ?_⟩
 have G_ql := ok_ql (P := l.prog) (w := w) (base := base) T
 have G_qi := ok_qi (P := l.prog) (w := w) (base := base) T
 have G_qs := ok_qs (P := l.prog) (w := w) (base := base) T
 have G_qp := ok_qp (P := l.prog) (w := w) (base := base) T
 have G_q3 := ok_q3 (P := l.prog) (w := w) (base := base) T
 have G_q6 := ok_q6 (P := l.prog) (w := w) (base := base) T
 have G_qh := ok_qh (P := l.prog) (w := w) (base := base) T
 have G_qd := ok_qd (P := l.prog) (w := w) (base := base) T
 have G_q1 := ok_q1 (P := l.prog) (w := w) (base := base) T G_ql
 have G_qc := ok_qc (P := l.prog) (w := w) (base := base) T G_qi
 have G_qr := ok_qr (P := l.prog) (w := w) (base := base) T G_q3 G_qp
 have G_qf := ok_qf (P := l.prog) (w := w) (base := base) T G_qp G_q3
 have G_qm := ok_qm (P := l.prog) (w := w) (base := base) T G_qp G_q3
 have G_qa := ok_qa (P := l.prog) (w := w) (base := base) T G_qh
 have G_qj := ok_qj (P := l.prog) (w := w) (base := base) T G_qd
 have G_qq := ok_qq (P := l.prog) (w := w) (base := base) T G_q1
 have G_q7 := ok_q7 (P := l.prog) (w := w) (base := base) T G_qf
 have G_qb := ok_qb (P := l.prog) (w := w) (base := base) T G_qs G_q6 G_qm G_qc
 have G_qg := ok_qg (P := l.prog) (w := w) (base := base) T G_qa
 have G_qe := ok_qe (P := l.prog) (w := w) (base := base) T G_qp G_qr
 have G_q0 := ok_q0 (P := l.prog) (w := w) (base := base) T G_qq
 have G_qn := ok_qn (P := l.prog) (w := w) (base := base) T G_q0
 have G_q9 := ok_q9 (P := l.prog) (w := w) (base := base) T G_q0
 have G_q4 := ok_q4 (P := l.prog) (w := w) (base := base) T G_q0
 have G_q2 := ok_q2 (P := l.prog) (w := w) (base := base) T G_qn
 have G_q5 := ok_q5 (P := l.prog) (w := w) (base := base) T G_q2 G_qs G_qc G_q7
 have G_qo := ok_qo (P := l.prog) (w := w) (base := base) T G_q2 G_qs G_qc G_qm
 have G_qk := ok_qk (P := l.prog) (w := w) (base := base) T G_q5 G_qn
 have G_q8 := ok_q8 (P := l.prog) (w := w) (base := base) T G_q5
 have G_qt := ok_qt (P := l.prog) (w := w) (base := base) T G_qg G_qb G_qj G_qd G_qa G_q9 G_q4 G_q8 G_qk G_qo G_qe
 exact law_D G_qt main
theorem fo1 {K : PySem.W.Frag} {h : Heap} {mg : Str -> Option Value} {n : Str} {st : Stmt} {ps : List Str} {f : Addr} {od an : Option Addr} {sl : Array (Option Value)} {oc kV dc pm cd ct : Value} (X : K.In h) (G : h.Ns mainGlobals mg) (hl : ps.length = 1) (hb : ∀ x0, bindArgs (PySem.W.fnOf n n (zBi st) (zA0 st) (zAh st) .none kV dc pm an cd ct) ⟨[x0], []⟩ = pure (List.zip ps [x0]))
  (a : PySem.W.nsIn K mainGlobals n = some (some (.ref f))) (l : K.lookup f = some ⟨oc, od, .func (PySem.W.fnOf n n (zBi st) (zA0 st) (zAh st) .none kV dc pm an cd ct), sl⟩) (c : PySem.W.codeIn K cd n = true) (k : PySem.W.keepIn K (.ref f) = true) : Fo K mg n st ps f (PySem.W.fnOf n n (zBi st) (zA0 st) (zAh st) .none kV dc pm an cd ct) :=
 ⟨zE8 l c k, PySem.W.mg_of X G a, .all fun us hu => us1 (p := fun us => bindArgs _ ⟨us, []⟩ = pure (List.zip _ us)) (hu.trans hl) hb⟩
theorem fo2 {K : PySem.W.Frag} {h : Heap} {mg : Str -> Option Value} {n : Str} {st : Stmt} {ps : List Str} {f : Addr} {od an : Option Addr} {sl : Array (Option Value)} {oc kV dc pm cd ct : Value} (X : K.In h) (G : h.Ns mainGlobals mg) (hl : ps.length = 2) (hb : ∀ x0 x1, bindArgs (PySem.W.fnOf n n (zBi st) (zA0 st) (zAh st) .none kV dc pm an cd ct) ⟨[x0, x1], []⟩ = pure (List.zip ps [x0, x1]))
  (a : PySem.W.nsIn K mainGlobals n = some (some (.ref f))) (l : K.lookup f = some ⟨oc, od, .func (PySem.W.fnOf n n (zBi st) (zA0 st) (zAh st) .none kV dc pm an cd ct), sl⟩) (c : PySem.W.codeIn K cd n = true) (k : PySem.W.keepIn K (.ref f) = true) : Fo K mg n st ps f (PySem.W.fnOf n n (zBi st) (zA0 st) (zAh st) .none kV dc pm an cd ct) :=
 ⟨zE8 l c k, PySem.W.mg_of X G a, .all fun us hu => us2 (p := fun us => bindArgs _ ⟨us, []⟩ = pure (List.zip _ us)) (hu.trans hl) hb⟩
theorem fo3 {K : PySem.W.Frag} {h : Heap} {mg : Str -> Option Value} {n : Str} {st : Stmt} {ps : List Str} {f : Addr} {od an : Option Addr} {sl : Array (Option Value)} {oc kV dc pm cd ct : Value} (X : K.In h) (G : h.Ns mainGlobals mg) (hl : ps.length = 3) (hb : ∀ x0 x1 x2, bindArgs (PySem.W.fnOf n n (zBi st) (zA0 st) (zAh st) .none kV dc pm an cd ct) ⟨[x0, x1, x2], []⟩ = pure (List.zip ps [x0, x1, x2]))
  (a : PySem.W.nsIn K mainGlobals n = some (some (.ref f))) (l : K.lookup f = some ⟨oc, od, .func (PySem.W.fnOf n n (zBi st) (zA0 st) (zAh st) .none kV dc pm an cd ct), sl⟩) (c : PySem.W.codeIn K cd n = true) (k : PySem.W.keepIn K (.ref f) = true) : Fo K mg n st ps f (PySem.W.fnOf n n (zBi st) (zA0 st) (zAh st) .none kV dc pm an cd ct) :=
 ⟨zE8 l c k, PySem.W.mg_of X G a, .all fun us hu => us3 (p := fun us => bindArgs _ ⟨us, []⟩ = pure (List.zip _ us)) (hu.trans hl) hb⟩
noncomputable def cn {α : Type} (x : α) (f : Nat -> α) : Nat -> α
 | 0 => x
 | n + 1 => f n
theorem mk_txt {K : PySem.W.Frag} {mg : Str -> Option Value} {f0 f1 f2 f3 f4 f5 f6 f7 f8 f9 f10 f11 f12 f13 f14 f15 f16 f17 f18 f19 f20 f21 f22 f23 f24 f25 f26 f27 f28 f29 : Addr} {d0 d1 d2 d3 d4 d5 d6 d7 d8 d9 d10 d11 d12 d13 d14 d15 d16 d17 d18 d19 d20 d21 d22 d23 d24 d25 d26 d27 d28 d29 : FuncData} (F0 : Fo K mg "is_whole" s_ql ["thing"] f0 d0) (F1 : Fo K mg "all_cells" s_qi ["floor"] f1 d1) (F2 : Fo K mg "marked" s_qs ["things"] f2 d2) (F3 : Fo K mg "crossed" s_qp ["one", "other"] f3 d3) (F4 : Fo K mg "couples_beside" s_q3 ["cells"] f4 d4) (F5 : Fo K mg "all_couples" s_q6 ["cells"] f5 d5) (F6 : Fo K mg "_law_cell" s_qh ["_law_script", "_law_k"] f6 d6) (F7 : Fo K mg "_law_cells" s_qd ["_law_floor_here"] f7 d7) (F8 : Fo K mg "is_whole_couple" s_q1 ["thing"] f8 d8) (F9 : Fo K mg "open_cells" s_qc ["floor"] f9 d9) (F10 : Fo K mg "pinched" s_qr ["one", "other"] f10 d10) (F11 : Fo K mg "hindrances" s_qf ["solids", "one", "other"] f11 d11) (F12 : Fo K mg "lets_see" s_qm ["solids", "one", "other"] f12 d12) (F13 : Fo K mg "_law_drawn" s_qa ["_law_script", "_law_k", "_law_many"] f13 d13) (F14 : Fo K mg "_law_open" s_qj ["_law_floor_here"] f14 d14) (F15 : Fo K mg "is_cell" s_qq ["floor", "thing"] f15 d15) (F16 : Fo K mg "sole_hiders" s_q7 ["solids", "one", "other"] f16 d16) (F17 : Fo K mg "couples_of" s_qb ["floor"] f17 d17) (F18 : Fo K mg "_law_floor" s_qg ["_law_script", "_law_at", "_law_most"] f18 d18) (F19 : Fo K mg "_law_meets" s_qe ["_law_couple", "_law_cell_here"] f19 d19) (F20 : Fo K mg "refuse_off_floor" s_q0 ["floor", "cell"] f20 d20) (F21 : Fo K mg "is_solid" s_qn ["floor", "cell"] f21 d21) (F22 : Fo K mg "with_solid" s_q9 ["floor", "cell"] f22 d22) (F23 : Fo K mg "without_solid" s_q4 ["floor", "cell"] f23 d23) (F24 : Fo K mg "refuse_not_open" s_q2 ["floor", "cell"] f24 d24) (F25 : Fo K mg "shadows_from" s_q5 ["floor", "cell"] f25 d25) (F26 : Fo K mg "field_of" s_qo ["floor", "cell"] f26 d26) (F27 : Fo K mg "hidden_by" s_qk ["floor", "cell", "wall"] f27 d27) (F28 : Fo K mg "idle_solids" s_q8 ["floor", "cell"] f28 d28) (F29 : Fo K mg "law" s_qt ["_law_script"] f29 d29) (z0 : mg "isinstance" = none) (z1 : mg "int" = none) (z2 : mg "bool" = none) (z3 : mg "range" = none) (z4 : mg "dict" = none) (z5 : mg "abs" = none) (z6 : mg "zip" = none) (z7 : mg "sorted" = none) (z8 : mg "tuple" = none) (z9 : mg "enumerate" = none) (z10 : mg "len" = none) (z11 : mg "set" = none) (z12 : mg "all" = none) : ∃ a d, Txt K mg a d := by
 exact ⟨(cn f0 (cn f1 (cn f2 (cn f3 (cn f4 (cn f5 (cn f6 (cn f7 (cn f8 (cn f9 (cn f10 (cn f11 (cn f12 (cn f13 (cn f14 (cn f15 (cn f16 (cn f17 (cn f18 (cn f19 (cn f20 (cn f21 (cn f22 (cn f23 (cn f24 (cn f25 (cn f26 (cn f27 (cn f28 (fun _ => f29)))))))))))))))))))))))))))))), (cn d0 (cn d1 (cn d2 (cn d3 (cn d4 (cn d5 (cn d6 (cn d7 (cn d8 (cn d9 (cn d10 (cn d11 (cn d12 (cn d13 (cn d14 (cn d15 (cn d16 (cn d17 (cn d18 (cn d19 (cn d20 (cn d21 (cn d22 (cn d23 (cn d24 (cn d25 (cn d26 (cn d27 (cn d28 (fun _ => d29)))))))))))))))))))))))))))))), F0, F1, F2, F3, F4, F5, F6, F7, F8, F9, F10, F11, F12, F13, F14, F15, F16, F17, F18, F19, F20, F21, F22, F23, F24, F25, F26, F27, F28, F29, z0, z1, z2, z3, z4, z5, z6, z7, z8, z9, z10, z11, z12⟩
theorem walk {l : PySem.W.OpenLaw} {q : Program} {loose : List Str} {XP : (Str -> Option Value) -> Heap -> Prop} {YP : World -> Heap -> Prop} {d : DefRec} {K : Params -> PySem.W.Frag} (hn : l.most = some 63) (hdf : d.params.defaults = [])
  (hY : ∀ (w : World) (h : Heap), YP w h -> (K w.params).In h)
  (F : ∀ (w : World) (mg : Str -> Option Value) (fa : Addr) (h : Heap), (K w.params).In h -> h.Ns mainGlobals mg -> mg d.name = some (.ref fa) ->
   ∃ fd : FuncData, (∀ (s : Shared) (u : Value), BindsTo s fd ⟨[u], []⟩ [("_law_script", u)]) /\ ∀ base : Heap, (K w.params).In base -> base.Ns mainGlobals mg -> FnOk l.prog w (K w.params) mg base CX0 9 fa fd ["_law_script"] (zEl (K w.params) Glaw)) :
  PySem.W.WalkO q loose XP YP l.row.toRowW d [] (fun f vs => PySem.call f vs) :=
 L2.walk_of (n := 63) (k := 9) (x := "_law_script") (CX := fun _ => CX0) (sp := fun w => zEl (K w.params) Glaw) hn (by decide) hdf ⟨rfl, by decide, by decide, rfl⟩ hY F (fun _ _ a ns hl _ hS => ⟨a, ns, rfl, hS, hl, fun _ => rfl⟩) fun _ _ _ _ _ z => z
end My
open PySem PySem.W PyProof.Rows
set_option maxRecDepth 100000 in
set_option maxHeartbeats 0 in
theorem PySem.Challenge.cw_lampfloor_k31_whole_solid_holds : PySem.Challenge.rw_lampfloor_k31_whole_solid.Holds := by
 w_on; o_law; k_head; (case hw => w_witness2)
 k_fill
 refine My.walk (l := PySem.Challenge.rw_lampfloor_k31_whole_solid) rfl rfl (fun w h Y => PySem.W.kIn_of Y) ?F
 case F =>
  intro w mg fa h KX G hmg
  refine' My.all_mk My.main hmg (My.mk_txt (My.fo1 KX G rfl (fun _ => rfl) ?_ ?_ ?_ ?_) (My.fo1 KX G rfl (fun _ => rfl) ?_ ?_ ?_ ?_) (My.fo1 KX G rfl (fun _ => rfl) ?_ ?_ ?_ ?_) (My.fo2 KX G rfl (fun _ _ => rfl) ?_ ?_ ?_ ?_) (My.fo1 KX G rfl (fun _ => rfl) ?_ ?_ ?_ ?_) (My.fo1 KX G rfl (fun _ => rfl) ?_ ?_ ?_ ?_) (My.fo2 KX G rfl (fun _ _ => rfl) ?_ ?_ ?_ ?_) (My.fo1 KX G rfl (fun _ => rfl) ?_ ?_ ?_ ?_) (My.fo1 KX G rfl (fun _ => rfl) ?_ ?_ ?_ ?_) (My.fo1 KX G rfl (fun _ => rfl) ?_ ?_ ?_ ?_) (My.fo2 KX G rfl (fun _ _ => rfl) ?_ ?_ ?_ ?_) (My.fo3 KX G rfl (fun _ _ _ => rfl) ?_ ?_ ?_ ?_) (My.fo3 KX G rfl (fun _ _ _ => rfl) ?_ ?_ ?_ ?_) (My.fo3 KX G rfl (fun _ _ _ => rfl) ?_ ?_ ?_ ?_) (My.fo1 KX G rfl (fun _ => rfl) ?_ ?_ ?_ ?_) (My.fo2 KX G rfl (fun _ _ => rfl) ?_ ?_ ?_ ?_) (My.fo3 KX G rfl (fun _ _ _ => rfl) ?_ ?_ ?_ ?_) (My.fo1 KX G rfl (fun _ => rfl) ?_ ?_ ?_ ?_) (My.fo3 KX G rfl (fun _ _ _ => rfl) ?_ ?_ ?_ ?_) (My.fo2 KX G rfl (fun _ _ => rfl) ?_ ?_ ?_ ?_) (My.fo2 KX G rfl (fun _ _ => rfl) ?_ ?_ ?_ ?_) (My.fo2 KX G rfl (fun _ _ => rfl) ?_ ?_ ?_ ?_) (My.fo2 KX G rfl (fun _ _ => rfl) ?_ ?_ ?_ ?_) (My.fo2 KX G rfl (fun _ _ => rfl) ?_ ?_ ?_ ?_) (My.fo2 KX G rfl (fun _ _ => rfl) ?_ ?_ ?_ ?_) (My.fo2 KX G rfl (fun _ _ => rfl) ?_ ?_ ?_ ?_) (My.fo2 KX G rfl (fun _ _ => rfl) ?_ ?_ ?_ ?_) (My.fo3 KX G rfl (fun _ _ _ => rfl) ?_ ?_ ?_ ?_) (My.fo2 KX G rfl (fun _ _ => rfl) ?_ ?_ ?_ ?_) (My.fo1 KX G rfl (fun _ => rfl) ?_ ?_ ?_ ?_) (mg_none_of KX G ?_) (mg_none_of KX G ?_) (mg_none_of KX G ?_) (mg_none_of KX G ?_) (mg_none_of KX G ?_) (mg_none_of KX G ?_) (mg_none_of KX G ?_) (mg_none_of KX G ?_) (mg_none_of KX G ?_) (mg_none_of KX G ?_) (mg_none_of KX G ?_) (mg_none_of KX G ?_) (mg_none_of KX G ?_))
  any_goals k_is
