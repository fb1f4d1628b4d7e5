import PyProof.Rows.All
import Wide.All
import OpenK.AllK
import Wide.FinOn
import Lean
import PyProof.EqAt
import PyProof.EqKinds
import PyProof.TupleCall
import PyProof.Rows.SortShellK
import PyProof.StationsW
import PyProof.SetKind
import PyProof.TupleKey
import PyProof.DictKinds
import PyProof.IsRules
import PyProof.Slots
import PyProof.Rows.SetFrom
import PyProof.SetRoads
import PyProof.WalksMore
import KE.KDictSum
import PyProof.Draws
import PyProof.Rows.EnumRows
import PyProof.ConsumeWalk
import KE.KDictOf
import PyProof.DictRoadsH
import PyProof.AttrMissSeq
import PyProof.Conv_int_bool
import PyProof.ReprNest
import PyProof.FString
import PyProof.ReprReads
import PyProof.ReprLen
import KE.KIsAll
import PyProof.ExcAttrAll.ValueError
import PyProof.StrCalls2
import PyProof.Rows.StrWeight2
import PyProof.EnumMake
import PyProof.FitsReplace
import PyProof.StrLawsOcc
import PyProof.DictRoads
import PyProof.Rows.SortStr
import PyProof.StrWalks
import PyProof.ExcBaseAll.ValueError
import KE.RegKIsAll
import PyProof.Rows.TupDisplay
import PyProof.DictTable
import PySem.Challenge.RW_lampfloor_k73_whole_hidden
noncomputable section
open PySem renaming wpAny_bind → Qa, wpAny_pure → Qb, wpAny_setState_of → QI, sizeLine_eq → Q3, wpAny_holding → Q8, wpAny_newObj_type → Yd, wpAny_call_entry → Yh, wpAny_callSpecial?_slot → Yx, wpAny_truthy_bool → YB, wpAny_setField → YH, wpAny_typeNameOfWhole_keyiter → YI, wpAny_mono → YK, wpAny_Call_Name_kw → YT, wpAny_passesOwn → YZ, codeAny_builtin → Y0, codeAny_mono → Y1, wpAny_field → Y2, wpAny_typeOf → Y3, wpAny_storeSet_of → Y4, putSet_of → Jd, wpAny_specialOf → Jl, getitemInPython_of_ne → Jn, wpAny_letTemporaryGo → Jr, wpAny_forIn_list → Jt, wpAny_isInstance → Ju, wpAny_setEntries_of → Jv, wpAny_execs_nil → Jy
open PySem.Heap renaming get?_push_of_some → Qc, lt_size → Qm, get?_push_size → Qt, get?_update_self → Q1, get?_update_other → Ye, size_push → Jc
open List renaming getElem?_eq_some_iff → Qd, mem_cons_of_mem → Qe, mem_cons_self → Qf, getElem?_eq_getElem → Qg, length_map → Qj, mem_cons → Qk, length_append → Ql, map_cons → Qo, mem_singleton → Qq, getElem?_set_ne → Qs, mem_append_right → Qu, getElem?_set_self → Qv, mem_append → Qz, contains_iff_mem → QA, size_toArray → QF, mem_map → QJ, mem_append_left → QK, mem_of_getElem? → QL, append_assoc → QM, mem_range → QO, getElem?_map → QP, lookup_cons → QQ, length_range → QR, all_eq_true → QS, length_singleton → QT, length_cons → QV, append_nil → QW, getElem?_of_mem → QX, mem_filter → QY, length_take → Q0, length_filter_le → Q2, pairwise_map → Q5, map_append → Ya, pairwise_cons → Yb, take_append_drop → Yc, map_map → Yg, nodup_cons → Yl, drop_eq_getElem_cons → Yq, getElem?_zip_eq_some → Ys, foldl_cons → Yv, length_drop → Yw, all_eq_not_any_not → Yz, getElem?_append_right → YC, getElem?_append_left → YE, getElem_mem → YF, find?_cons → YL, nil_append → YM, getD_eq_getElem?_getD → YX, filterMap_cons → Y9, getElem?_replicate → Ja, filter_cons → Jg, eq_nil_of_length_eq_zero → Jh, any_cons → Jm, filter_congr → Jp, nodup_nil → Jq, map_congr_left → Jw
open Nat renaming le_refl → Qh, le_trans → Qx, ne_of_lt → Qy, lt_of_lt_of_le → QB, zero_le → QU, lt_of_le_of_lt → Yf, not_lt_zero → Ym, le_add_right → Yn, le_of_lt → YA, le_of_lt_succ → YJ, ne_of_gt → YQ, eq_or_lt_of_le → YV, lt_irrefl → Y7, le_of_not_lt → Jb, mul_le_mul → Jf, le_antisymm → Jz
open Option renaming bind_some → Qi, isSome_iff_exists → Y8
open Bool renaming false_eq_true → Qp, false_ne_true → Qw, and_eq_true_iff → QE, and_eq_true → QH, not_eq_true' → Yi, not_eq_true → Yy, not_true → YG, eq_iff_iff → YN
open Array renaming length_toList → Qr, getElem?_eq_getElem → QC, getElem?_toList → QD, getElem?_eq_some_iff → QZ, getElem?_eq_none → Yp, size_map → YW, toList_filterMap → Jj
open Option.some renaming inj → QG
open PySem.SeqAt renaming canLay_of_shaped → QN
open PySem.PassesOwn renaming never → Q6
open PyProof.Rows renaming wpS_bind → Q7, wpS_pure → Yt, slot_tuple_getitem → YD, callWith_type1 → YR, pairsOf_size → Js, KK_mirror_equal → JA
open PySem.Heap.SameBut renaming update → Q9
open LawfulBEq renaming eq_of_beq → Yj
open PySem.Obj renaming data_mapFields → Yk, isFreed_of_fields → YY
open List.Nodup renaming length_le_of_subset → Yo
open Classical renaming byContradiction → Yr
open PyProof.Rows.KeyOrd renaming kle_refl → Yu
open PySem.List renaming filterMap_getElem?_range_length → YO
open PySem.SetTable renaming insertAt_perm → YS
open Int renaming natCast_nonneg → YU, ofNat_lt → Y6, emod_lt_of_pos → Ji, toNat_natCast → Jo, toNat_of_nonneg → Jx
open PySem.Around renaming under_plainId → Y5
open PyProof.Rows.F renaming plain_set_update_loop → Je
open Prod renaming ext → Jk
set_option Elab.async false
set_option linter.all false
set_option maxRecDepth 100000
set_option maxHeartbeats 4000000
set_option compiler.extract_closed false
set_option genInjectivity false
set_option genSizeOf false
set_option genSizeOfSpec false
set_option bootstrap.genMatcherCode false
noncomputable section
namespace L2
open PySem PySem.Spec PyProof.Rows
abbrev Key := Sum Int Str
def zId : Key -> Value -> Bool
 | .inl k, v => Value.isInt k v
 | .inr x, v => Value.isStrOf x v
def keyH (w : World) : Key -> Int
 | .inl k => hashInt k
 | .inr x => hashStr w x
theorem zBH : ∀ {k : Key} {v : Value}, zId k v = true -> (∃ i t, k = Sum.inl i /\ v = Value.int i t) ∨ (∃ x t, k = Sum.inr x /\ v = Value.str x t)
 | .inl i, v, h => by
  obtain ⟨t, e⟩ := Value.isInt_shape (k := i) (v := v) h
  exact .inl ⟨i, t, rfl, e⟩
 | .inr x, v, h => by
  obtain ⟨t, e⟩ := Value.isStrOf_shape (x := x) (v := v) h
  exact .inr ⟨x, t, rfl, e⟩
theorem zLY (a b : Int) : decide ((Sum.inl a : Key) = Sum.inl b) = (a == b) := by
 by_cases e : a = b
 ·subst e; simp
 ·have h : ¬ (Sum.inl a : Key) = Sum.inl b := fun q => e (Sum.inl.inj q)
  rw [decide_eq_false h]
  exact (beq_eq_false_iff_ne.mpr e).symm
theorem zL1 (a b : Str) : decide ((Sum.inr a : Key) = Sum.inr b) = decide (a = b) := by
 by_cases e : a = b
 ·subst e; simp
 ·have h : ¬ (Sum.inr a : Key) = Sum.inr b := fun q => e (Sum.inr.inj q)
  rw [decide_eq_false h, decide_eq_false e]
theorem zLZ (a : Int) (b : Str) : decide ((Sum.inl a : Key) = Sum.inr b) = false := decide_eq_false (fun q => nomatch q)
theorem zL0 (a : Str) (b : Int) : decide ((Sum.inr a : Key) = Sum.inl b) = false := decide_eq_false (fun q => nomatch q)
def zIw (prog : Program) (w : World) : PySem.KeyKind prog w Key where
 is := zId
 hash := keyH w
 inj := fun v a b ha hb => by
  rcases zBH ha with ⟨i, t, rfl, rfl⟩ | ⟨x, t, rfl, rfl⟩
  ·rcases zBH hb with ⟨j, u, rfl, e⟩ | ⟨y, u, rfl, e⟩
   ·injection e with e1 _; rw [e1]
   ·exact nomatch e
  ·rcases zBH hb with ⟨j, u, rfl, e⟩ | ⟨y, u, rfl, e⟩
   ·exact nomatch e
   ·injection e with e1 _; rw [e1]
 byValue := fun k v h => by
  rcases zBH h with ⟨i, t, rfl, rfl⟩ | ⟨x, t, rfl, rfl⟩ <;> rfl
 pyHash := fun hv h => by
  rcases zBH hv with ⟨i, t, rfl, rfl⟩ | ⟨x, t, rfl, rfl⟩
  ·exact wpAny_pyHash_int h
  ·exact wpAny_pyHash_str h
 eqBool := fun hu hv h => by
  rcases zBH hu with ⟨i, t, rfl, rfl⟩ | ⟨x, t, rfl, rfl⟩
  ·rcases zBH hv with ⟨j, u, rfl, rfl⟩ | ⟨y, u, rfl, rfl⟩
   ·rw [zLY] at h; exact wpAny_eqBool_int h
   ·rw [zLZ] at h; exact SeqAt.EqAt.int_str i t y u _ _ _ _ h
  ·rcases zBH hv with ⟨j, u, rfl, rfl⟩ | ⟨y, u, rfl, rfl⟩
   ·rw [zL0] at h; exact SeqAt.EqAt.str_int x t j u _ _ _ _ h
   ·rw [zL1] at h; exact wpAny_eqBool_str h
 «strs» := fun k x t v h => by
  rcases zBH h with ⟨i, u, rfl, e⟩ | ⟨y, u, rfl, e⟩
  ·exact nomatch e
  ·injection e with e1 _
   subst e1
   cases v <;> rfl
end L2
namespace L2
open PySem PySem.Spec PyProof.Rows
inductive V where
 | non | bl (b : Bool) | int (i : Int) | str (x : Str) | byt (b : Array UInt8) | flt (b : UInt64) | ref (a : Addr) | ty (n : String)
 deriving DecidableEq
def RelV : V -> Value -> Prop
 | .non, u => u = Value.none
 | .bl b, u => u = Value.bool b
 | .int i, u => ∃ t, u = Value.int i t
 | .str x, u => ∃ t, u = Value.str x t
 | .byt b, u => ∃ t, u = Value.bytes b t
 | .flt b, u => ∃ t, u = Value.float b t
 | .ref a, u => u = Value.ref a
 | .ty n, u => u = Value.type n
abbrev Vals : List V -> List Value -> Prop := Paired RelV
theorem Vals.length {xs : List V} {us : List Value} (r : Vals xs us) : xs.length = us.length := Paired.length r
theorem Vals.get : ∀ {xs : List V} {us : List Value} {i : Nat} {x : V}, Vals xs us -> xs[i]? = some x -> ∃ u, us[i]? = some u /\ RelV x u
 | _, _, _, _, .nil, e => by simp at e
 | _, _, 0, _, .cons r _, e => by simp at e; subst e; exact ⟨_, rfl, r⟩
 | _, _, i + 1, x, .cons _ t, e => by
  obtain ⟨u, h1, h2⟩ := Vals.get (i := i) (x := x) t (by simpa using e)
  exact ⟨u, by simpa using h1, h2⟩
theorem Vals.append : ∀ {xs ys : List V} {us ws : List Value}, Vals xs us -> Vals ys ws -> Vals (xs ++ ys) (us ++ ws)
 | _, _, _, _, .nil, s => s
 | _, _, _, _, .cons r t, s => .cons r (Vals.append t s)
theorem Vals.take : ∀ {xs : List V} {us : List Value} (n : Nat), Vals xs us -> Vals (xs.take n) (us.take n)
 | _, _, 0, _ => .nil
 | _, _, _ + 1, .nil => .nil
 | _, _, n + 1, .cons r t => .cons r (Vals.take n t)
theorem Vals.drop : ∀ {xs : List V} {us : List Value} (n : Nat), Vals xs us -> Vals (xs.drop n) (us.drop n)
 | _, _, 0, r => r
 | _, _, _ + 1, .nil => .nil
 | _, _, n + 1, .cons _ t => Vals.drop n t
def RelO : Option V -> Option Value -> Prop
 | some v, some u => RelV v u
 | none, none => True
 | _, _ => False
def KV {κ : Type} : List (κ × V) -> List (κ × Value) -> Prop := Paired fun (p : κ × V) (q : κ × Value) => p.1 = q.1 /\ RelV p.2 q.2
def kV : Key -> V
 | .inl i => .int i
 | .inr x => .str x
inductive HO where
 | lst (xs : List V)
 | tup (xs : List V)
 | dK (kvs : List (Key × V)) | dT (kvs : List (List Key × V))
 | set (S : Int -> Bool) (n : Nat)
 | ins (C dx : Addr) (fs : List (Str × V))
 | own (x : Addr)
 | xd (fs : List (Str × V))
 | met (f x : Addr)
 | rng (lo hi : Int)
 | frz (o : Obj) (u : HO)
 | tbl (ps : Array Value)
 | ext (φ : Heap -> Prop)
abbrev Hp := Addr -> Option HO
def upd (H : Hp) (a : Addr) (o : HO) : Hp := fun b => if b = a then some o else H b
theorem zAL {H : Hp} {a : Addr} {o : HO} : upd H a o a = some o := by unfold upd; rw [if_pos rfl]
theorem zAm {H : Hp} {a b : Addr} {o : HO} (h : b ≠ a) : upd H a o b = H b := by unfold upd; rw [if_neg h]
theorem zBA {H : Hp} {a b : Addr} {o : HO} (h : H a = some o) (h' : H b = none) : a ≠ b := by
 intro e; subst e; rw [h] at h'; cases h'
section
variable (P : Program) (w : World)
def zAN (H : Hp) (h : Heap) (a : Addr) : HO -> Prop
 | .lst xs => xs.length <= sizeLine /\ ∃ (its : List Value) (n : Nat), Vals xs its /\ h.get? a = some { cls := .type "list", data := .seq its.toArray n }
 | .tup xs => xs.length <= sizeLine /\ ∃ its : List Value, Vals xs its /\ IsTup h a its.toArray
 | .dK kvs => kvs.length <= sizeLine /\ (a == sysModules) = false /\ ∃ vs, KV kvs vs /\ h.DictOf (zIw P w) a vs
 | .dT kvs => kvs.length <= sizeLine /\ (a == sysModules) = false /\ ∃ xs : List (List Key × Addr × Value),
   Paired (fun (p : List Key × V) (q : List Key × Addr × Value) => p.1 = q.1 /\ H q.2.1 = some (.tup (p.1.map kV)) /\ RelV p.2 q.2.2) kvs xs /\
   ∃ o es ep, h.get? a = some o /\ o.ExactDict /\ o.data = .dict es ep /\ es.toList = xs.map (entryOfKey (tupleKind (zIw P w))) /\ (xs.map (·.1)).Nodup
 | .set S n => h.SetOf (intKind P w) a S n
 | .ins C dx fs => H dx = some (.own a) /\ fs.length <= 1000 /\ dx ≠ a /\ h.get? a = some (PySem.W.instObj C dx) /\
   ∃ mA, h.Ns1 dx mA /\ (∀ f, RelO (fs.lookup f) (mA f)) /\ PySem.Within mA (fs.map (·.1))
 | .own _ => ∃ o, h.get? a = some o
 | .xd fs => ∃ mA, h.Ns1 a mA /\ ∀ f, RelO (fs.lookup f) (mA f)
 | .rng lo hi => ∃ t u v, h.get? a = some { cls := .type "range", data := .fields #[.int lo t, .int hi u, .int 1 v] }
 | .frz o u => h.get? a = some o /\ zAN H h a u
 | .tbl ps => h.get? a = some { cls := .none, data := .fields ps }
 | .met f x => h.get? a = some (PySem.W.methodObj (.ref f) (.ref x))
 | .ext φ => φ h /\ (∃ o, h.get? a = some o) /\ ∀ h1 h2 : Heap, φ h1 -> (∀ o, h1.get? a = some o -> h2.get? a = some o) -> φ h2
def HOk (H : Hp) (h : Heap) : Prop := ∀ a o, H a = some o -> zAN P w H h a o
end
section
variable {P : Program} {w : World} {H H' : Hp} {h h' : Heap} {a : Addr} {o : HO}
theorem zAN.lt (x : zAN P w H h a o) : a < h.objs.size := by
 cases o with
 | lst xs => obtain ⟨_, _, _, _, e⟩ := x; exact Qm e
 | tup xs => obtain ⟨_, _, _, p⟩ := x; exact p.lt
 | dK kvs => obtain ⟨_, _, _, _, o, _, _, e, _⟩ := x; exact Qm e
 | dT kvs => obtain ⟨_, _, _, _, o, _, _, e, _⟩ := x; exact Qm e
 | set S n => obtain ⟨o, _, _, _, e, _⟩ := x; exact Qm e
 | ins C dx fs => obtain ⟨_, _, _, e, _⟩ := x; exact Qm e
 | own y => obtain ⟨_, e⟩ := x; exact Qm e
 | xd fs => obtain ⟨_, ⟨_, _, _, e, _⟩, _⟩ := x; exact Qm e
 | rng lo hi => obtain ⟨_, _, _, e⟩ := x; exact Qm e
 | frz ob u => obtain ⟨e, _⟩ := x; exact Qm e
 | tbl ps => exact Qm (show h.get? a = some _ from x)
 | met f y => exact Qm (show h.get? a = some _ from x)
 | ext φ => obtain ⟨_, ⟨_, e⟩, _⟩ := x; exact Qm e
theorem Paired.mapP {α β : Type} {F G : α -> β -> Prop} : ∀ {l₁ : List α} {l₂ : List β}, Paired F l₁ l₂ -> (∀ a b, F a b -> G a b) -> Paired G l₁ l₂
 | _, _, .nil, _ => .nil
 | _, _, .cons r t, f => .cons (f _ _ r) (Paired.mapP t f)
theorem zAN.stay (x : zAN P w H h a o) (k : ∀ b u, (b = a ∨ H b = some (.own a)) -> h.get? b = some u -> h'.get? b = some u)
  (ho : ∀ b, H b = some (.own a) -> H' b = some (.own a)) (ht : ∀ b xs, H b = some (.tup xs) -> H' b = some (.tup xs)) : zAN P w H' h' a o := by
 induction o with
 | lst xs => obtain ⟨z, its, n, r, e⟩ := x; exact ⟨z, its, n, r, k _ _ (.inl rfl) e⟩
 | tup xs => obtain ⟨z, its, r, ob, e, c⟩ := x; exact ⟨z, its, r, ob, k _ _ (.inl rfl) e, c⟩
 | dK kvs => obtain ⟨z, y, vs, r, ob, es, ep, e, c⟩ := x; exact ⟨z, y, vs, r, ob, es, ep, k _ _ (.inl rfl) e, c⟩
 | dT kvs =>
  obtain ⟨z, y, xs, r, ob, es, ep, e, c⟩ := x
  exact ⟨z, y, xs, Paired.mapP r fun p q z => ⟨z.1, ht _ _ z.2.1, z.2.2⟩, ob, es, ep, k _ _ (.inl rfl) e, c⟩
 | set S n => obtain ⟨ob, es, ep, t, e, c⟩ := x; exact ⟨ob, es, ep, t, k _ _ (.inl rfl) e, c⟩
 | ins C dx fs =>
  obtain ⟨d, z, ne, e, mA, ⟨od, es, ep, e2, c⟩, r⟩ := x
  exact ⟨ho _ d, z, ne, k _ _ (.inl rfl) e, mA, ⟨od, es, ep, k _ _ (.inr d) e2, c⟩, r⟩
 | own y => obtain ⟨ob, e⟩ := x; exact ⟨ob, k _ _ (.inl rfl) e⟩
 | xd fs => obtain ⟨mA, ⟨od, es, ep, e, c⟩, r⟩ := x; exact ⟨mA, ⟨od, es, ep, k _ _ (.inl rfl) e, c⟩, r⟩
 | rng lo hi => obtain ⟨t, u, v, e⟩ := x; exact ⟨t, u, v, k _ _ (.inl rfl) e⟩
 | frz ob u ih => obtain ⟨e, q⟩ := x; exact ⟨k _ _ (.inl rfl) e, ih q⟩
 | tbl ps =>
  have e : h.get? a = some { cls := .none, data := .fields ps } := x
  show h'.get? a = some { cls := .none, data := .fields ps }
  exact k a _ (.inl rfl) e
 | met f y =>
  have e : h.get? a = some (PySem.W.methodObj (.ref f) (.ref y)) := x
  show h'.get? a = some (PySem.W.methodObj (.ref f) (.ref y))
  exact k a _ (.inl rfl) e
 | ext φ => obtain ⟨p, ⟨o, e⟩, st⟩ := x; exact ⟨st _ _ p fun o q => k _ _ (.inl rfl) q, ⟨o, k _ _ (.inl rfl) e⟩, st⟩
theorem HOk.lt (x : HOk P w H h) (e : H a = some o) : a < h.objs.size := (x a o e).lt
theorem HOk.fresh (x : HOk P w H h) (e : h.objs.size <= a) : H a = none := by
 cases q : H a with
 | none => rfl
 | some u => exact absurd (QB (x.lt q) e) (Y7 _)
theorem HOk.kept (x : HOk P w H h) (k : ∀ b u, h.get? b = some u -> h'.get? b = some u) : HOk P w H h' := fun a o e =>
 (x a o e).stay (fun b u _ q => k b u q) (fun _ q => q) fun _ _ q => q
theorem HOk.laid (x : HOk P w H h) (k : ∀ b u, h.get? b = some u -> h'.get? b = some u) (hp : h.objs.size <= a) (new : zAN P w (upd H a o) h' a o) : HOk P w (upd H a o) h' := fun b u e => by
 have hn := x.fresh hp
 by_cases hb : b = a
 ·subst hb; rw [zAL] at e; cases e; exact new
 ·rw [zAm hb] at e
  exact (x b u e).stay (fun c v _ q => k c v q) (fun c q => by rw [zAm (zBA q hn)]; exact q) fun c xs q => by rw [zAm (zBA q hn)]; exact q
end
def Rd (H : Hp) (a : Addr) (u : HO) : Prop := H a = some u ∨ ∃ o, H a = some (.frz o u)
theorem Rd.ok {P : Program} {w : World} {H : Hp} {h : Heap} {a : Addr} {u : HO} (r : Rd H a u) (x : HOk P w H h) : zAN P w H h a u := by
 rcases r with r | ⟨o, r⟩
 ·exact x a u r
 ·obtain ⟨_, q⟩ := x a _ r
  exact q
def Mut : Option HO -> Prop
 | some (.lst _) => True
 | some (.dK _) => True
 | some (.dT _) => True
 | some (.set _ _) => True
 | some (.ins _ _ _) => True
 | some (.ext _) => True
 | _ => False
section
variable {P : Program} {w : World} {H : Hp} {h h' : Heap} {x e : Addr} {o' : HO}
theorem HOk.write (ok : HOk P w H h) (mu : Mut (H x)) (he : e = x ∨ H e = some (.own x)) (k : ∀ b u, b ≠ e -> h.get? b = some u -> h'.get? b = some u) (heo : ∃ u, h'.get? e = some u)
  (new : zAN P w (upd H x o') h' x o') : HOk P w (upd H x o') h' := fun b u q => by
 have nown : ∀ c y, H c = some (.own y) -> c ≠ x := fun c y r z => by subst z; rw [r] at mu; exact mu
 have ntup : ∀ c xs, H c = some (.tup xs) -> c ≠ x := fun c xs r z => by subst z; rw [r] at mu; exact mu
 by_cases hb : b = x
 ·subst hb; rw [zAL] at q; cases q; exact new
 ·rw [zAm hb] at q
  by_cases hbe : b = e
  ·have q' : H b = some (.own x) := by
    rcases he with z | z
    ·exact absurd (hbe.trans z) hb
    ·rw [hbe]; exact z
   rw [q] at q'; cases q'
   obtain ⟨v, hv⟩ := heo
   exact ⟨v, by rw [hbe]; exact hv⟩
  ·refine (ok b u q).stay (fun c v hc r => k c v ?_ r) (fun c r => by rw [zAm (nown c b r)]; exact r) fun c xs r => by rw [zAm (ntup c xs r)]; exact r
   rcases hc with rfl | hc
   ·exact hbe
   ·rintro rfl
    rcases he with z | z
    ·exact nown c b hc z
    ·rw [hc] at z; cases z; exact hb rfl
end
structure Un (fs ex : List Addr) (H H' : Hp) (h h' : Heap) : Prop where
 keep : ∀ b o, h.get? b = some o -> H b = none -> b ∉ fs -> b ∉ ex -> h'.get? b = some o
 slot : ∀ b o, h.get? b = some o -> H b = none -> b ∈ fs -> b ∉ ex -> ∃ sl, h'.get? b = some { o with slots := sl }
 free : ∀ b o, h.get? b = some o -> H b = none -> b ∉ ex -> H' b = none
 there : ∀ b o, h.get? b = some o -> b ∉ ex -> ∃ o', h'.get? b = some o'
 tups : ∀ b xs, H b = some (.tup xs) -> H' b = some (.tup xs)
 frzs : ∀ b o u, H b = some (.frz o u) -> H' b = some (.frz o u)
 tbls : ∀ b ps, H b = some (.tbl ps) -> ∃ more, H' b = some (.tbl (ps ++ more))
section
variable {fs fs' ex ex' : List Addr} {H H1 H2 : Hp} {h h1 h2 h' : Heap} {a x e : Addr} {o : HO}
theorem Un.any (u : Un fs ex H H1 h h1) {b : Addr} {ob : Obj} (q : h.get? b = some ob) (n : H b = none) (hx : b ∉ ex) : ∃ sl, h1.get? b = some { ob with slots := sl } := by
 by_cases hb : b ∈ fs
 ·exact u.slot b ob q n hb hx
 ·exact ⟨ob.slots, u.keep b ob q n hb hx⟩
theorem Un.kept (k : ∀ b u, h.get? b = some u -> h'.get? b = some u) : Un fs ex H H h h' :=
 ⟨fun b ob q _ _ _ => k b ob q, fun b ob q _ _ _ => ⟨ob.slots, k b ob q⟩, fun _ _ _ n _ => n, fun b ob q _ => ⟨ob, k b ob q⟩, fun _ _ q => q, fun _ _ _ q => q, fun _ ps q => ⟨#[], by rw [q]; simp⟩⟩
theorem Un.refl : Un fs ex H H h h := Un.kept fun _ _ q => q
theorem Un.laid (k : ∀ b u, h.get? b = some u -> h'.get? b = some u) (hp : h.objs.size <= a) (hn : H a = none) : Un fs ex H (upd H a o) h h' where
 keep := fun b u q _ _ _ => k b u q
 slot := fun b u q _ _ _ => ⟨u.slots, k b u q⟩
 free := fun b u q n _ => by rw [zAm (Qy (QB (Qm q) hp))]; exact n
 there := fun b u q _ => ⟨u, k b u q⟩
 tups := fun b xs q => by rw [zAm (zBA q hn)]; exact q
 frzs := fun b u xs q => by rw [zAm (zBA q hn)]; exact q
 tbls := fun b ps q => ⟨#[], by rw [zAm (zBA q hn), q]; simp⟩
theorem Un.write (mu : Mut (H x)) (he : e = x ∨ H e = some (.own x)) (k : ∀ b u, b ≠ e -> h.get? b = some u -> h'.get? b = some u) (heo : ∃ u, h'.get? e = some u) : Un fs ex H (upd H x o) h h' := by
 have hx : ∀ b, H b = none -> b ≠ x := fun b n z => by subst z; rw [n] at mu; exact mu
 have hb : ∀ b, H b = none -> b ≠ e := fun b n z => by
  subst z
  rcases he with r | r
  ·exact hx b n r
  ·rw [n] at r; cases r
 have hm : ∀ b u, H b = some u -> ¬ Mut (some u) -> b ≠ x := fun b u q nm z => by subst z; rw [q] at mu; exact nm mu
 refine ⟨fun b u q n _ _ => k b u (hb b n) q, fun b u q n _ _ => ⟨u.slots, k b u (hb b n) q⟩, fun b u q n _ => by rw [zAm (hx b n)]; exact n, fun b u q _ => ?_,
  fun b xs q => by rw [zAm (hm b _ q fun z => z)]; exact q, fun b u xs q => by rw [zAm (hm b _ q fun z => z)]; exact q, fun b ps q => ⟨#[], by rw [zAm (hm b _ q fun z => z), q]; simp⟩⟩
 by_cases hbe : b = e
 ·subst hbe; exact heo
 ·exact ⟨u, k b u hbe q⟩
end
def trk (h : Heap) (H : Hp) : List Addr := (List.range h.objs.size).filter fun a => (H a).isSome
def hidT (h : Heap) (H : Hp) : Heap := PySem.W.hideAll h (trk h H)
theorem zLx (h : Heap) (H : Hp) : (hidT h H).objs.size = h.objs.size := PySem.W.hideAll_size _ _
theorem zLw {h : Heap} {H : Hp} {b : Addr} {o : Obj} (e : h.get? b = some o) (n : H b = none) : (hidT h H).get? b = some o :=
 PySem.W.hideAll_get _ e fun hm => by
  have q : (H b).isSome = true := (QY.mp hm).2
  rw [n] at q; simp at q
theorem zMF {h : Heap} {H : Hp} {b : Addr} {o : Obj} (e : (hidT h H).get? b = some o) : h.get? b = some o /\ H b = none := by
 have e' : h.get? b = some o := PySem.W.of_hideAll (trk h H) e
 refine ⟨e', ?_⟩
 cases q : H b with
 | none => rfl
 | some x =>
  have hm : b ∈ trk h H := QY.mpr ⟨QO.mpr (Qm e'), by simp [q]⟩
  have z : (hidT h H).get? b = none := PySem.W.hideAll_none (trk h H) hm
  rw [z] at e; cases e
end L2
namespace L2
open PySem PySem.Spec PyProof.Rows
structure Mod (K : PySem.W.Frag) (mg : Str -> Option Value) (base : Heap) : Prop where
 kin : K.In base
 glob : base.Ns mainGlobals mg
 blt : ∃ mb, base.Ns builtinsNs mb /\ ∀ x : Str, x ≠ "__name__" -> mb x = bootBuiltins x
 nolimit : base.NoLimit
structure Cx where
 prog : Program
 w : World
 K : PySem.W.Frag
 mg : Str -> Option Value
 base : Heap
 A : Around
 N : List Str
 s₀ : Shared
 H₀ : Hp
 env : Env
 outer : List Env
 stack : List Env
 ex : List Addr
 fn : Str -> Bool
 calm : Bool
 pn : List (Addr × Obj)
 xe : Value -> Shared -> Prop
def frs (l : List Env) : List Addr := l.filterMap (·.frame)
abbrev Cx.fs (X : Cx) : List Addr := frs X.outer
def Vis (sc : Scope) (x : Str) : Prop := sc.names.lookup x = some .local ∨ sc.names.lookup x = some .cell ∨ sc.names.lookup x = some .free
def Loc (sc : Scope) (x : Str) : Prop := sc.names.lookup x = some .local ∨ sc.names.lookup x = some .cell
def Look (env : Env) (h : Heap) (m : Str -> Option Value) (x : Str) (u : Value) : Prop :=
 (env.kindOf x = some .local /\ m x = some u) ∨ ((env.kindOf x = some .cell ∨ env.kindOf x = some .free) /\ ∃ c, env.cells.lookup x = some c /\ h.IsCell c (some u))
structure Cx.Ok (X : Cx) : Prop where
 mod : Mod X.K X.mg X.base
 kind : X.env.scope.kind = .function
 glob : X.env.globals = mainGlobals
 blt : X.env.builtins = builtinsNs
 above : X.s₀.heap.objs.size <= X.env.locals
 inj : ∀ x y c, X.env.cells.lookup x = some c -> X.env.cells.lookup y = some c -> x = y
 has : ∀ x, (X.env.kindOf x = some .cell ∨ X.env.kindOf x = some .free) -> ∃ c, X.env.cells.lookup x = some c
 cab : ∀ x c, X.fn x = true -> X.env.cells.lookup x = some c -> X.s₀.heap.objs.size <= c
 hd : X.calm = true -> X.A.handled = none
 frames : X.A.frames = some X.stack
 stk : X.stack = X.outer ∨ (X.stack = X.env :: X.outer /\ X.env.frame = some X.env.locals)
 exf : ∀ b ∈ X.ex, b ≠ X.env.locals /\ ∀ x c, X.env.cells.lookup x = some c -> c ≠ b
 bs : ∀ b o, X.base.get? b = some o -> X.s₀.heap.get? b = some o /\ X.H₀ b = none
 bsz : X.base.objs.size <= X.s₀.heap.objs.size
 noex : ∀ b o, X.base.get? b = some o -> b ∉ X.ex
 exfs : ∀ b ∈ X.ex, b ∉ X.fs
 funs : X.s₀.heap.FunFrames X.base X.outer
 frf : ∀ b ∈ X.fs, X.H₀ b = none
structure Inv (X : Cx) (pins : List (Addr × Obj)) (σ : List (Option V)) (H : Hp) (s : Shared) : Prop where
 ok : X.Ok
 os : s.os = X.s₀.os
 bare : AllBare s.gens
 base : Un X.fs X.ex X.H₀ H X.s₀.heap s.heap
 loc : ∃ m, s.heap.Ns X.env.locals m /\ ∀ (i : Nat) (x : Str) (v : V), X.N[i]? = some x -> σ[i]? = some (some v) -> Vis X.env.scope x -> ∃ u, RelV v u /\ Look X.env s.heap m x u
 cell : ∀ x c, X.env.cells.lookup x = some c -> ∃ v, s.heap.IsCell c v
 free : H X.env.locals = none
 freeC : ∀ x c, X.env.cells.lookup x = some c -> H c = none
 pin : ∀ p ∈ X.pn ++ pins, s.heap.get? p.1 = some p.2 /\ H p.1 = none /\ p.1 ≠ X.env.locals /\ p.1 ∉ X.fs /\ ∀ v, p.2.data ≠ .cell v
 hok : HOk X.prog X.w H s.heap
 len : σ.length = X.N.length
section
variable {X : Cx} {pins : List (Addr × Obj)} {σ : List (Option V)} {H H' : Hp} {s : Shared} {h' : Heap}
theorem Cx.Ok.nofr (ok : X.Ok) {b : Addr} {o : Obj} (e : X.base.get? b = some o) : b ∉ X.fs := fun hb => by
 have := (ok.funs.mem hb).1
 rw [e] at this; cases this
theorem Inv.bs (I : Inv X pins σ H s) : ∀ b o, X.base.get? b = some o -> s.heap.get? b = some o /\ H b = none := fun b o e =>
 ⟨I.base.keep b o (I.ok.bs b o e).1 (I.ok.bs b o e).2 (I.ok.nofr e) (I.ok.noex b o e), I.base.free b o (I.ok.bs b o e).1 (I.ok.bs b o e).2 (I.ok.noex b o e)⟩
theorem Inv.bk (I : Inv X pins σ H s) : ∀ b o, X.base.get? b = some o -> s.heap.get? b = some o := fun b o e => (I.bs b o e).1
theorem Inv.mod (I : Inv X pins σ H s) : Mod X.K X.mg X.base := I.ok.mod
theorem Inv.kIn (I : Inv X pins σ H s) : X.K.In s.heap := I.ok.mod.kin.keeps I.bk
theorem Inv.lt (I : Inv X pins σ H s) : X.env.locals < s.heap.objs.size := let ⟨_, hn, _⟩ := I.loc; hn.lt
theorem Inv.sz (I : Inv X pins σ H s) : X.s₀.heap.objs.size <= s.heap.objs.size := Qx I.ok.above (YA I.lt)
theorem Inv.nofs (I : Inv X pins σ H s) {a : Addr} (h : s.heap.objs.size <= a) : a ∉ X.fs := fun hb => by
 obtain ⟨_, o, ho, _⟩ := I.ok.funs.mem hb
 exact absurd (QB (Qm ho) (Qx I.sz h)) (Y7 _)
theorem Inv.cne (I : Inv X pins σ H s) : ∀ x c, X.env.cells.lookup x = some c -> c ≠ X.env.locals := fun x c e z => by
 obtain ⟨v, o, ho, hd⟩ := I.cell x c e
 obtain ⟨m, ⟨o', es, ep, ho', hd', _⟩, _⟩ := I.loc
 rw [z, ho'] at ho; cases ho; rw [hd'] at hd; cases hd
theorem Inv.funs (I : Inv X pins σ H s) : s.heap.FunFrames X.base X.outer := by
 have all : ∀ (l : List Env), (∀ b ∈ frs l, b ∈ X.fs) -> X.s₀.heap.FunFrames X.base l -> s.heap.FunFrames X.base l := by
  intro l
  induction l with
  | nil => intro _ _; trivial
  | cons env r ih =>
   intro hs hl
   obtain ⟨hk, ⟨L, o, hf, hn, ho, hd⟩, hr⟩ := hl
   have hL : L ∈ X.fs := hs L (by unfold frs; rw [Y9, hf]; exact Qf)
   obtain ⟨sl, e⟩ := I.base.slot L o ho (I.ok.frf L hL) hL fun z => I.ok.exfs L z hL
   exact ⟨hk, ⟨L, _, hf, hn, e, hd⟩, ih (fun b hb => hs b (by unfold frs; rw [Y9, hf]; exact Qe _ hb)) hr⟩
 exact all X.outer (fun _ hb => hb) I.ok.funs
theorem Inv.stack (I : Inv X pins σ H s) : s.heap.FunFrames X.base X.stack := by
 rcases I.ok.stk with e | ⟨e, hf⟩
 ·rw [e]; exact I.funs
 ·rw [e]
  obtain ⟨m, hn, _⟩ := I.loc
  refine .cons (by rw [I.ok.kind]; decide) hf hn ?_ I.funs
  exact Heap.get?_none_of_le (Qx I.ok.bsz I.ok.above)
theorem Inv.stkSub (I : Inv X pins σ H s) : ∀ b ∈ frs X.stack, b ∈ X.env.locals :: X.fs := fun b hb => by
 rcases I.ok.stk with e | ⟨e, hf⟩
 ·rw [e] at hb; exact Qe _ hb
 ·rw [e] at hb
  unfold frs at hb
  rw [Y9, hf] at hb
  exact hb
theorem Inv.stkFree (I : Inv X pins σ H s) : ∀ b ∈ frs X.stack, H b = none := fun b hb => by
 rcases Qk.mp (I.stkSub b hb) with e | hb
 ·rw [e]; exact I.free
 ·obtain ⟨_, o, ho, _⟩ := I.ok.funs.mem hb
  exact I.base.free b o ho (I.ok.frf b hb) fun z => I.ok.exfs b z hb
theorem Inv.step {g' : Array GenState} {t' : Nat} {d' : Drawn} {ch : List Addr} (I : Inv X pins σ H s)
  (hch : ∀ b ∈ ch, (b ∈ X.ex ∨ X.s₀.heap.objs.size <= b) /\ b ≠ X.env.locals /\ (∀ x c, X.env.cells.lookup x = some c -> c ≠ b) /\ ∀ p ∈ X.pn ++ pins, p.1 ≠ b)
  (keep : ∀ b o, b ≠ X.env.locals -> b ∉ X.fs -> b ∉ ch -> s.heap.get? b = some o -> H b = none -> h'.get? b = some o)
  (slot : ∀ b o, b ≠ X.env.locals -> b ∈ X.fs -> b ∉ ch -> s.heap.get? b = some o -> H b = none -> ∃ sl, h'.get? b = some { o with slots := sl }) (free : ∀ b o, b ∉ ch -> s.heap.get? b = some o -> H b = none -> H' b = none)
  (there : ∀ b o, b ∉ ch -> s.heap.get? b = some o -> ∃ o', h'.get? b = some o')
  (tups : ∀ b xs, H b = some (.tup xs) -> H' b = some (.tup xs)) (frzs : ∀ b o u, H b = some (.frz o u) -> H' b = some (.frz o u)) (tbls : ∀ b ps, H b = some (.tbl ps) -> ∃ more, H' b = some (.tbl (ps ++ more)))
  (ns : ∀ m, s.heap.Ns X.env.locals m -> h'.Ns X.env.locals m) (hok : HOk X.prog X.w H' h') (hg : AllBare g') :
  Inv X pins σ H' { s with heap := h', gens := g', drawn := d', toks := t' } := by
 have neL : ∀ b o, X.s₀.heap.get? b = some o -> b ≠ X.env.locals := fun b o e => Qy (QB (Qm e) I.ok.above)
 have neC : ∀ b o, X.s₀.heap.get? b = some o -> b ∉ X.ex -> b ∉ ch := fun b o e hx hb => by
  rcases (hch b hb).1 with z | z
  ·exact hx z
  ·exact absurd (QB (Qm e) z) (Y7 _)
 have cellK : ∀ x c, X.env.cells.lookup x = some c -> ∀ v, s.heap.IsCell c v -> h'.IsCell c v := fun x c e v zz => by
  obtain ⟨o, ho, hd⟩ := zz
  have nch : c ∉ ch := fun z => (hch c z).2.2.1 x c e rfl
  by_cases hc : c ∈ X.fs
  ·obtain ⟨sl, q⟩ := slot c o (I.cne x c e) hc nch ho (I.freeC x c e)
   exact ⟨_, q, hd⟩
  ·exact ⟨o, keep c o (I.cne x c e) hc nch ho (I.freeC x c e), hd⟩
 refine ⟨I.ok, I.os, hg, ⟨fun b o e n hb hx => ?_, fun b o e n hb hx => ?_, fun b o e n hx => ?_, fun b o e hx => ?_, fun b xs e => tups b xs (I.base.tups b xs e), fun b o xs e => frzs b o xs (I.base.frzs b o xs e), fun b ps e => ?_⟩, ?_, fun x c e => ?_, ?_, fun x c e => ?_, fun p hp => ?_, hok, I.len⟩
 ·exact keep b o (neL b o e) hb (neC b o e hx) (I.base.keep b o e n hb hx) (I.base.free b o e n hx)
 ·obtain ⟨sl, e1⟩ := I.base.slot b o e n hb hx
  obtain ⟨sl', e2⟩ := slot b _ (neL b o e) hb (neC b o e hx) e1 (I.base.free b o e n hx)
  exact ⟨sl', e2⟩
 ·obtain ⟨o', e1⟩ := I.base.there b o e hx
  exact free b o' (neC b o e hx) e1 (I.base.free b o e n hx)
 ·obtain ⟨o', e1⟩ := I.base.there b o e hx
  exact there b o' (neC b o e hx) e1
 ·obtain ⟨m1, e1⟩ := I.base.tbls b ps e
  obtain ⟨m2, e2⟩ := tbls b _ e1
  exact ⟨m1 ++ m2, by rw [e2, Array.append_assoc]⟩
 ·obtain ⟨m, hn, hl⟩ := I.loc
  refine ⟨m, ns m hn, fun i x v e1 e2 e3 => ?_⟩
  obtain ⟨u, r, l⟩ := hl i x v e1 e2 e3
  refine ⟨u, r, ?_⟩
  rcases l with l | ⟨k, c, e, z⟩
  ·exact .inl l
  ·exact .inr ⟨k, c, e, cellK x c e _ z⟩
 ·obtain ⟨v, z⟩ := I.cell x c e
  exact ⟨v, cellK x c e v z⟩
 ·obtain ⟨m, ⟨o, _, _, ho, _⟩, _⟩ := I.loc
  exact free _ o (fun z => (hch _ z).2.1 rfl) ho I.free
 ·obtain ⟨v, o, ho, hd⟩ := I.cell x c e
  exact free c o (fun z => (hch c z).2.2.1 x c e rfl) ho (I.freeC x c e)
 ·obtain ⟨e, n, ne, nf, d⟩ := I.pin p hp
  have nch : p.1 ∉ ch := fun z => (hch p.1 z).2.2.2 p hp rfl
  exact ⟨keep p.1 p.2 ne nf nch e n, free p.1 p.2 nch e n, ne, nf, d⟩
theorem Inv.un {t' : Nat} (I : Inv X pins σ H s) (u : Un X.fs [] H H' s.heap h') (hok : HOk X.prog X.w H' h') : Inv X pins σ H' { s with heap := h', toks := t' } := by
 obtain ⟨m, ⟨o, es, ep, ho, r⟩, _⟩ := id I.loc
 obtain ⟨sl, hL⟩ := u.any ho I.free (by simp)
 exact I.step (g' := s.gens) (d' := s.drawn) (ch := []) (fun _ z => nomatch z) (fun b o _ hb _ e n => u.keep b o e n hb (by simp)) (fun b o _ hb _ e n => u.slot b o e n hb (by simp)) (fun b o _ e n => u.free b o e n (by simp)) (fun b o _ e => u.there b o e (by simp)) u.tups u.frzs u.tbls (fun m' hm => by
  obtain ⟨o', es', ep', ho', r'⟩ := hm
  rw [ho] at ho'; cases ho'
  exact ⟨_, es', ep', hL, r'⟩) hok I.bare
theorem Inv.call {g' : Array GenState} {t' : Nat} {d' : Drawn} {ch : List Addr} (I : Inv X pins σ H s) (u : Un (frs X.stack) ch H H' s.heap h') (hok : HOk X.prog X.w H' h') (hg : AllBare g')
  (hch : ∀ b ∈ ch, (b ∈ X.ex ∨ X.s₀.heap.objs.size <= b) /\ b ≠ X.env.locals /\ (∀ x c, X.env.cells.lookup x = some c -> c ≠ b) /\ ∀ p ∈ X.pn ++ pins, p.1 ≠ b) :
  Inv X pins σ H' { s with heap := h', gens := g', drawn := d', toks := t' } := by
 obtain ⟨m, ⟨o, es, ep, ho, r⟩, _⟩ := id I.loc
 obtain ⟨sl, hL⟩ := u.any ho I.free fun z => (hch _ z).2.1 rfl
 exact I.step (ch := ch) hch (fun b o hL hb hc e n => u.keep b o e n (fun z => (Qk.mp (I.stkSub b z)).elim hL hb) hc) (fun b o _ _ hc e n => u.any e n hc) (fun b o hc e n => u.free b o e n hc) (fun b o hc e => u.there b o e hc) u.tups u.frzs u.tbls (fun m' hm => by
  obtain ⟨o', es', ep', ho', r'⟩ := hm
  rw [ho] at ho'; cases ho'
  exact ⟨_, es', ep', hL, r'⟩) hok hg
theorem Inv.turned {t' : Nat} {it : Addr} (I : Inv X pins σ H s) (k : ∀ b o, b ≠ it -> s.heap.get? b = some o -> h'.get? b = some o) (hn : H it = none) (hL : it ≠ X.env.locals)
  (h1 : it ∈ X.ex ∨ X.s₀.heap.objs.size <= it) (h2 : ∀ x c, X.env.cells.lookup x = some c -> c ≠ it) (h3 : ∀ p ∈ X.pn ++ pins, p.1 ≠ it) : Inv X pins σ H { s with heap := h', toks := t' } := by
 have nit : ∀ b u, H b = some u -> b ≠ it := fun b u e z => by rw [z, hn] at e; cases e
 refine I.step (g' := s.gens) (d' := s.drawn) (ch := [it]) (fun b hb => ?_) (fun b o _ _ hc e _ => k b o (fun z => hc (by simp [z])) e) (fun b o _ _ hc e _ => ⟨o.slots, k b o (fun z => hc (by simp [z])) e⟩) (fun _ _ _ _ n => n)
  (fun b o hc e => ⟨o, k b o (fun z => hc (by simp [z])) e⟩) (fun _ _ e => e) (fun _ _ _ e => e) (fun b ps e => ⟨#[], by rw [e]; simp⟩) (fun m hm => ?_) (fun b u e => ?_) I.bare
 ·have e : b = it := by simpa using hb
  subst e
  exact ⟨h1, hL, h2, h3⟩
 ·obtain ⟨o, es, ep, ho, r⟩ := hm
  exact ⟨o, es, ep, k _ o (Ne.symm hL) ho, r⟩
 ·refine (I.hok b u e).stay (fun c v hc q => k c v ?_ q) (fun _ q => q) fun _ _ q => q
  rcases hc with z | z
  ·rw [z]; exact nit b u e
  ·exact nit c _ z
theorem Inv.tok (I : Inv X pins σ H s) (t : Nat) : Inv X pins σ H { s with toks := t } := I.un (h' := s.heap) (t' := t) Un.refl I.hok
theorem Inv.kept {t' : Nat} (I : Inv X pins σ H s) (k : ∀ b u, s.heap.get? b = some u -> h'.get? b = some u) : Inv X pins σ H { s with heap := h', toks := t' } := I.un (Un.kept k) (I.hok.kept k)
theorem Inv.laid {a : Addr} {o : HO} {t' : Nat} (I : Inv X pins σ H s) (k : ∀ b u, s.heap.get? b = some u -> h'.get? b = some u) (hp : s.heap.objs.size <= a) (new : zAN X.prog X.w (upd H a o) h' a o) :
  Inv X pins σ (upd H a o) { s with heap := h', toks := t' } := I.un (Un.laid k hp (I.hok.fresh hp)) (I.hok.laid k hp new)
theorem Inv.write {x e : Addr} {o : HO} {t' : Nat} (I : Inv X pins σ H s) (mu : Mut (H x)) (he : e = x ∨ H e = some (.own x)) (k : ∀ b u, b ≠ e -> s.heap.get? b = some u -> h'.get? b = some u) (heo : ∃ u, h'.get? e = some u)
  (new : zAN X.prog X.w (upd H x o) h' x o) : Inv X pins σ (upd H x o) { s with heap := h', toks := t' } := I.un (Un.write mu he k heo) (I.hok.write mu he k heo new)
theorem Inv.pins_of {pins' : List (Addr × Obj)} (I : Inv X pins σ H s) (h : ∀ p ∈ pins', s.heap.get? p.1 = some p.2 /\ H p.1 = none /\ p.1 ≠ X.env.locals /\ p.1 ∉ X.fs /\ ∀ v, p.2.data ≠ .cell v) : Inv X pins' σ H s :=
 ⟨I.ok, I.os, I.bare, I.base, I.loc, I.cell, I.free, I.freeC, fun p hp => (Qz.mp hp).elim (fun z => I.pin p (QK _ z)) (h p), I.hok, I.len⟩
theorem zIG {N : List Str} (hN : N.Nodup) {i j : Nat} {x : Str} (a : N[i]? = some x) (b : N[j]? = some x) : i = j := by
 obtain ⟨h1, e1⟩ := Qd.mp a
 obtain ⟨h2, e2⟩ := Qd.mp b
 exact (List.getElem_inj hN).mp (e1.trans e2.symm)
theorem zJA {M : Model} {A : Around} {E : Value -> Shared -> Prop} {i : Nat} {x : Str} {v : V} {u : Value} {Q : Unit -> Shared -> Prop} (I : Inv X pins σ H s) (hN : X.N.Nodup) (hi : X.N[i]? = some x) (hx : Loc X.env.scope x) (r : RelV v u)
  (h : ∀ s', Inv X pins (σ.set i (some v)) H s' -> (∃ a, Heap.SameBut a s.heap s'.heap /\ (a = X.env.locals ∨ X.env.cells.lookup x = some a)) -> Q () s') (hf : X.fn x = true ∨ X.env.scope.names.lookup x = some .local := by first | exact .inl rfl | exact .inr rfl | assumption) : wpAny M A (storeName X.env x u) Q E s := by
 obtain ⟨m, hn, hl⟩ := id I.loc
 have hcls : (X.env.scope.kind == .class || (X.env.scope.kind == .module && X.env.locals != X.env.globals)) = false := by rw [I.ok.kind]; rfl
 have hiσ : i < σ.length := by rw [I.len]; exact (Qd.mp hi).1
 have cne := I.cne
 have tracked : ∀ {a : Addr} {h' : Heap}, (∃ o, s.heap.get? a = some o /\ H a = none) -> Heap.SameBut a s.heap h' -> HOk X.prog X.w H h' := fun {a h'} ha hs b ob e => by
  obtain ⟨_, _, hfree⟩ := ha
  refine (I.hok b ob e).stay (fun c w' hc q => (hs.2 c ?_).trans q) (fun _ q => q) fun _ _ q => q
  rintro rfl
  rcases hc with rfl | hc
  ·rw [hfree] at e; cases e
  ·rw [hfree] at hc; cases hc
 rcases hx with hk | hk
 ·refine wpAny_storeName_local hk hn (fun h' hn' hs => ?_) hcls
  obtain ⟨oL, _, _, hoL, _⟩ := id hn
  refine h _ ⟨I.ok, I.os, I.bare, ⟨fun b o e n hb hx => ?_, fun b o e n hb hx => ?_, I.base.free, fun b o e hx => ?_, I.base.tups, I.base.frzs, I.base.tbls⟩, ⟨_, hn', fun j y v' e1 e2 e3 => ?_⟩, fun y c e => ?_, I.free, I.freeC, fun p hp => ?_, tracked ⟨oL, hoL, I.free⟩ hs, by simpa using I.len⟩ ⟨_, hs, .inl rfl⟩
  ·exact (hs.2 b (Qy (QB (Qm e) I.ok.above))).trans (I.base.keep b o e n hb hx)
  ·obtain ⟨sl, e1⟩ := I.base.slot b o e n hb hx
   exact ⟨sl, (hs.2 b (Qy (QB (Qm e) I.ok.above))).trans e1⟩
  ·obtain ⟨o', e1⟩ := I.base.there b o e hx
   exact ⟨o', (hs.2 b (Qy (QB (Qm e) I.ok.above))).trans e1⟩
  ·by_cases hj : j = i
   ·subst hj
    rw [hi] at e1; cases e1
    rw [Qv hiσ] at e2
    cases e2
    exact ⟨u, r, .inl ⟨hk, by simp⟩⟩
   ·rw [Qs (Ne.symm hj)] at e2
    obtain ⟨u', r', q⟩ := hl j y v' e1 e2 e3
    refine ⟨u', r', ?_⟩
    rcases q with ⟨k, e⟩ | ⟨k, c, e, z⟩
    ·refine .inl ⟨k, ?_⟩
     have : y ≠ x := fun e => hj (zIG hN e1 (e ▸ hi))
     simp [this, e]
    ·exact .inr ⟨k, c, e, z.sameBut hs (cne y c e)⟩
  ·obtain ⟨w', z⟩ := I.cell y c e
   exact ⟨w', z.sameBut hs (cne y c e)⟩
  ·obtain ⟨e, n, ne, nf, d⟩ := I.pin p hp
   exact ⟨(hs.2 p.1 ne).trans e, n, ne, nf, d⟩
 ·have hfn : X.fn x = true := by
   rcases hf with z | z
   ·exact z
   ·rw [z] at hk; cases hk
  obtain ⟨c, hc⟩ := I.ok.has x (.inl hk)
  obtain ⟨w', z⟩ := I.cell x c hc
  refine wpAny_storeName_cell I.ok.kind hk hc z (fun h' hc' hs => ?_)
  obtain ⟨oc, hoc, hocd⟩ := id z
  refine h { s with heap := h' } ⟨I.ok, I.os, I.bare, ⟨fun b o e n hb hx => ?_, fun b o e n hb hx => ?_, I.base.free, fun b o e hx => ?_, I.base.tups, I.base.frzs, I.base.tbls⟩, ⟨m, hn.sameBut hs (Ne.symm (cne x c hc)), fun j y v' e1 e2 e3 => ?_⟩, fun y c' e => ?_, I.free, I.freeC, fun p hp => ?_, tracked ⟨oc, hoc, I.freeC x c hc⟩ hs, by simpa using I.len⟩ ⟨c, hs, .inr hc⟩
  ·exact (hs.2 b (Qy (QB (Qm e) (I.ok.cab x c hfn hc)))).trans (I.base.keep b o e n hb hx)
  ·obtain ⟨sl, e1⟩ := I.base.slot b o e n hb hx
   exact ⟨sl, (hs.2 b (Qy (QB (Qm e) (I.ok.cab x c hfn hc)))).trans e1⟩
  ·obtain ⟨o', e1⟩ := I.base.there b o e hx
   exact ⟨o', (hs.2 b (Qy (QB (Qm e) (I.ok.cab x c hfn hc)))).trans e1⟩
  ·by_cases hj : j = i
   ·subst hj
    rw [hi] at e1; cases e1
    rw [Qv hiσ] at e2
    cases e2
    exact ⟨u, r, .inr ⟨.inl hk, c, hc, hc'⟩⟩
   ·rw [Qs (Ne.symm hj)] at e2
    obtain ⟨u', r', q⟩ := hl j y v' e1 e2 e3
    refine ⟨u', r', ?_⟩
    rcases q with q | ⟨k, c', e, z'⟩
    ·exact .inl q
    ·refine .inr ⟨k, c', e, z'.sameBut hs ?_⟩
     rintro rfl
     exact hj (zIG hN e1 (I.ok.inj _ _ _ e hc ▸ hi))
  ·by_cases hcc : c' = c
   ·subst hcc; exact ⟨_, hc'⟩
   ·obtain ⟨w2, z2⟩ := I.cell y c' e
    exact ⟨w2, z2.sameBut hs hcc⟩
  ·obtain ⟨e, n, ne, nf, d⟩ := I.pin p hp
   refine ⟨(hs.2 p.1 ?_).trans e, n, ne, nf, d⟩
   intro q
   rw [q, hoc] at e
   have q' : oc = p.2 := QG e
   exact d w' (by rw [<- q']; exact hocd)
theorem zJz {M : Model} {A : Around} {E : Value -> Shared -> Prop} {i : Nat} {x : Str} {v : V} {u : Value} {Q : Unit -> Shared -> Prop} (I : Inv X pins σ H s) (hN : X.N.Nodup) (hi : X.N[i]? = some x) (hx : Loc X.env.scope x) (r : RelV v u)
  (h : ∀ s', Inv X pins (σ.set i (some v)) H s' -> Q () s') (hf : X.fn x = true ∨ X.env.scope.names.lookup x = some .local := by first | exact .inl rfl | exact .inr rfl | assumption) : wpAny M A (storeName X.env x u) Q E s :=
 zJA I hN hi hx r (fun s' I' _ => h s' I') hf
theorem Inv.call' {s' : Shared} {ch : List Addr} (I : Inv X pins σ H s) (ho : s'.os = s.os) (u : Un (frs X.stack) ch H H' s.heap s'.heap) (hok : HOk X.prog X.w H' s'.heap) (hg : AllBare s'.gens)
  (hch : ∀ b ∈ ch, (b ∈ X.ex ∨ X.s₀.heap.objs.size <= b) /\ b ≠ X.env.locals /\ (∀ x c, X.env.cells.lookup x = some c -> c ≠ b) /\ ∀ p ∈ X.pn ++ pins, p.1 ≠ b) : Inv X pins σ H' s' := by
 obtain ⟨h', g', d', t', o'⟩ := s'
 have e : o' = s.os := ho
 subst e
 exact I.call (g' := g') (t' := t') (d' := d') u hok hg hch
end
abbrev XK := Value -> Option Addr -> Hp -> Prop
abbrev St := List (Option V)
abbrev VK := V -> Hp -> Prop
abbrev TE := St -> Hp -> VK -> Prop
abbrev TT := St -> Hp -> (Bool -> Hp -> Prop) -> Prop
abbrev TA := St -> Hp -> (List V -> Hp -> Prop) -> Prop
structure Ends where
 nx : St -> Hp -> Prop
 rt : VK
 bk : St -> Hp -> Prop := fun _ _ => False
 ct : St -> Hp -> Prop := fun _ _ => False
abbrev TS := Ends -> St -> Hp -> Prop
def EP (X : Cx) (pins : List (Addr × Obj)) (σ : St) (Q : VK) (u : Value) (s' : Shared) : Prop := ∃ v H', Inv X pins σ H' s' /\ RelV v u /\ Q v H'
def TP (X : Cx) (pins : List (Addr × Obj)) (σ : St) (Q : Bool -> Hp -> Prop) (b : Bool) (s' : Shared) : Prop := ∃ H', Inv X pins σ H' s' /\ Q b H'
def AP (X : Cx) (pins : List (Addr × Obj)) (σ : St) (Q : List V -> Hp -> Prop) (us : List Value) (s' : Shared) : Prop := ∃ vs H', Inv X pins σ H' s' /\ Vals vs us /\ Q vs H'
def SP (X : Cx) (pins : List (Addr × Obj)) (D : Ends) (f : Flow) (s' : Shared) : Prop :=
 match f with
 | .next => ∃ σ' H', Inv X pins σ' H' s' /\ D.nx σ' H'
 | .brk => ∃ σ' H', Inv X pins σ' H' s' /\ D.bk σ' H'
 | .cont => ∃ σ' H', Inv X pins σ' H' s' /\ D.ct σ' H'
 | .ret u => ∃ v σ' H', Inv X pins σ' H' s' /\ RelV v u /\ D.rt v H'
def PE (X : Cx) (e : Expr) (t : TE) : Prop :=
 ∀ (pins : List (Addr × Obj)) (s : Shared) (σ : St) (H : Hp) (Q : VK), Inv X pins σ H s -> t σ H Q -> wpAny (model X.prog X.w) X.A (eval e X.env) (EP X pins σ Q) X.xe s
def PT (X : Cx) (e : Expr) (t : TT) : Prop :=
 ∀ (pins : List (Addr × Obj)) (s : Shared) (σ : St) (H : Hp) (Q : Bool -> Hp -> Prop), Inv X pins σ H s -> t σ H Q -> wpAny (model X.prog X.w) X.A (isTrue e X.env (eval e X.env)) (TP X pins σ Q) X.xe s
def PW (X : Cx) (e : Expr) (t : TT) : Prop :=
 ∀ (whole : Sem Value) (pins : List (Addr × Obj)) (s : Shared) (σ : St) (H : Hp) (Q : Bool -> Hp -> Prop), Inv X pins σ H s -> t σ H Q -> wpAny (model X.prog X.w) X.A (isTrue e X.env whole) (TP X pins σ Q) X.xe s
theorem PW.pt {X : Cx} {e : Expr} {t : TT} (h : PW X e t) : PT X e t := h _
def PA (X : Cx) (es : List Expr) (t : TA) : Prop :=
 ∀ (pos : Pos) (pins : List (Addr × Obj)) (s : Shared) (σ : St) (H : Hp) (Q : List V -> Hp -> Prop), Inv X pins σ H s -> t σ H Q -> wpAny (model X.prog X.w) X.A (spliced (backTo pos (starEach es X.env))) (AP X pins σ Q) X.xe s
def PS (X : Cx) (st : Stmt) (t : TS) : Prop :=
 ∀ (pins : List (Addr × Obj)) (s : Shared) (σ : St) (H : Hp) (D : Ends), Inv X pins σ H s -> t D σ H -> wpAny (model X.prog X.w) X.A (exec st X.env) (SP X pins D) X.xe s
def PSs (X : Cx) (st : List Stmt) (t : TS) : Prop :=
 ∀ (pins : List (Addr × Obj)) (s : Shared) (σ : St) (H : Hp) (D : Ends), Inv X pins σ H s -> t D σ H -> wpAny (model X.prog X.w) X.A (execs st X.env) (SP X pins D) X.xe s
theorem thn {α : Type} {t : Sem α} {Q Q' : α -> Shared -> Prop} {M : Model} {A : Around} {E : Value -> Shared -> Prop} {s : Shared} (h : wpAny M A t Q E s) (hQ : ∀ a s, Q a s -> Q' a s) : wpAny M A t Q' E s := YK h hQ fun _ _ x => x
end L2
namespace L2
open PySem PySem.Spec PyProof.Rows
section
variable {X : Cx}
def tVar (i : Nat) : TE := fun σ H Q => ∃ v, σ[i]? = some (some v) /\ Q v H
def tC (v : V) : TE := fun _ H Q => Q v H
theorem zCS {i : Nat} {x : Str} {pos : Pos} (hN : X.N[i]? = some x) (hv : Vis X.env.scope x) (hd : (x == ("__debug__" : Str)) = false := by decide) (hcd : (x == ("__classdict__" : Str)) = false := by decide) : PE X (.Name x pos) (tVar i) := by
 intro pins s σ H Q I h
 obtain ⟨v, e, h⟩ := h
 obtain ⟨m, hn, hl⟩ := I.loc
 obtain ⟨u, r, l⟩ := hl i x v hN e hv
 have fin : EP X pins σ Q u s := ⟨v, H, I, r, h⟩
 rcases l with ⟨hk, hm⟩ | ⟨hk, c, hc, hcell⟩
 ·exact wpAny_Name (wpAny_loadName_local I.ok.kind hk hn hm fin) hd
 ·rcases hk with hk | hk
  ·exact wpAny_Name (wpAny_loadName_cell I.ok.kind hk hc hcell fin) hd
  ·exact wpAny_Name (wpAny_loadName_free I.ok.kind hk hc hcell fin hcd) hd
theorem zM9 {i j pos} : PE X (.Constant (.int i) j pos) (tC (.int i)) := fun _ _ _ H _ I h => wpAny_Constant_int ⟨.int i, H, I.tok _, ⟨_, rfl⟩, h⟩
theorem pe_bl {b j pos} : PE X (.Constant (.bool b) j pos) (tC (.bl b)) := fun _ _ _ H _ I h => Constant_bool ⟨.bl b, H, I, rfl, h⟩
theorem zNa {j pos} : PE X (.Constant .none j pos) (tC .non) := fun _ _ _ H _ I h => Constant_none ⟨.non, H, I, rfl, h⟩
theorem zFX {x j pos} : PE X (.Constant (.str x) j pos) (tC (.str x)) := fun _ _ _ H _ I h => Calls.Constant_str ⟨.str x, H, I.tok _, ⟨_, rfl⟩, h⟩
def Gl (X : Cx) (x : Str) : Prop := X.env.kindOf x = some .globalImplicit
theorem zDt {E : Value -> Shared -> Prop} {pins : List (Addr × Obj)} {s : Shared} {σ : St} {H : Hp} {x : Str} {u : Value} {pos : Pos} {Q : Value -> Shared -> Prop} (I : Inv X pins σ H s) (hg : Gl X x) (hm : X.mg x = some u) (h : Q u s)
  (hd : (x == ("__debug__" : Str)) = false := by decide) : wpAny (model X.prog X.w) X.A (eval (.Name x pos) X.env) Q E s :=
 Calls.Name_function_global I.ok.kind hg (Calls.loadGlobal_global (by rw [I.ok.glob]; exact I.mod.glob.keeps I.bk) hm h) hd
theorem zCc {E : Value -> Shared -> Prop} {pins : List (Addr × Obj)} {s : Shared} {σ : St} {H : Hp} {x : Str} {u : Value} {pos : Pos} {Q : Value -> Shared -> Prop} (I : Inv X pins σ H s) (hg : Gl X x) (hm : X.mg x = none) (hv : bootBuiltins x = some u) (h : Q u s)
  (hn : x ≠ "__name__" := by decide) (hd : (x == ("__debug__" : Str)) = false := by decide) : wpAny (model X.prog X.w) X.A (eval (.Name x pos) X.env) Q E s := by
 obtain ⟨mb, h1, h2⟩ := I.mod.blt
 exact Calls.Name_function_global I.ok.kind hg (Calls.loadGlobal_builtin (by rw [I.ok.glob]; exact I.mod.glob.keeps I.bk) hm (by rw [I.ok.blt]; exact h1.keeps I.bk) ((h2 x hn).trans hv) h) hd
theorem zIT {x : Str} {v : V} {u : Value} {pos : Pos} (hg : Gl X x) (hm : X.mg x = some u) (r : RelV v u) (hd : (x == ("__debug__" : Str)) = false := by decide) : PE X (.Name x pos) (tC v) :=
 fun _ _ _ H _ I h => zDt I hg hm ⟨v, H, I, r, h⟩ hd
theorem zM0 {x : Str} {v : V} {u : Value} {pos : Pos} (hg : Gl X x) (hm : X.mg x = none) (hv : bootBuiltins x = some u) (r : RelV v u) (hn : x ≠ "__name__" := by decide) (hd : (x == ("__debug__" : Str)) = false := by decide) : PE X (.Name x pos) (tC v) :=
 fun _ _ _ H _ I h => zCc I hg hm hv ⟨v, H, I, r, h⟩ hn hd
variable {a b : Expr} {ta tb : TE} {pos : Pos}
def tB (t : TE) : TT := fun σ H Q => t σ H fun x H1 => ∃ c, x = .bl c /\ Q c H1
theorem zND {e : Expr} {t : TE} (h : PE X e t) (he : ∀ whole, isTrue e X.env whole = (do let v <- whole; standAt e.pos; holding [v] (truthy v)) := by intro _; rfl) : PT X e (tB t) := by
 intro pins s σ H Q I hw
 refine isTrue_plain (thn (h pins s σ H _ I hw) fun v s1 ⟨x, H1, I1, r1, q1⟩ => ?_) (he _)
 obtain ⟨d, rfl, q⟩ := q1
 cases r1
 exact YB ⟨H1, I1, q⟩
variable {tA tB' : TT} {rest : List Expr}
def tAnd (t u : TT) : TT := fun σ H Q => t σ H fun c H1 => if c = true then u σ H1 Q else Q false H1
def tOr (t u : TT) : TT := fun σ H Q => t σ H fun c H1 => if c = true then Q true H1 else u σ H1 Q
def tNot (t : TT) : TT := fun σ H Q => t σ H fun c H1 => Q (!c) H1
theorem zNM (ha : PT X a tA) : PW X (.BoolOp .And [a] pos) tA := by
 intro wh pins s σ H Q I h
 refine isTrue_and (thn (ha pins s σ H Q I h) fun c s1 e => ?_)
 cases c with
 | true => exact isTrue_and_nil e
 | false => exact e
theorem zNN (ha : PT X a tA) : PW X (.BoolOp .Or [a] pos) tA := by
 intro wh pins s σ H Q I h
 refine isTrue_or (thn (ha pins s σ H Q I h) fun c s1 e => ?_)
 cases c with
 | false => exact isTrue_or_nil e
 | true => exact e
theorem zNL (ha : PT X a tA) (hb : PW X (.BoolOp .And (b :: rest) pos) tB') : PW X (.BoolOp .And (a :: b :: rest) pos) (tAnd tA tB') := by
 intro wh pins s σ H Q I h
 refine isTrue_and (thn (ha pins s σ H _ I h) fun c s1 zz => ?_)
 obtain ⟨H1, I1, q1⟩ := zz
 cases c with
 | true => exact hb wh pins s1 σ H1 Q I1 q1
 | false => exact ⟨H1, I1, q1⟩
theorem pw_or (ha : PT X a tA) (hb : PW X (.BoolOp .Or (b :: rest) pos) tB') : PW X (.BoolOp .Or (a :: b :: rest) pos) (tOr tA tB') := by
 intro wh pins s σ H Q I h
 refine isTrue_or (thn (ha pins s σ H _ I h) fun c s1 zz => ?_)
 obtain ⟨H1, I1, q1⟩ := zz
 cases c with
 | true => exact ⟨H1, I1, q1⟩
 | false => exact hb wh pins s1 σ H1 Q I1 q1
theorem zNC (ha : PT X a tA) : PT X (.UnaryOp .Not a pos) (tNot tA) := by
 intro pins s σ H Q I h
 exact isTrue_not (ha pins s σ H (fun c H1 => Q (!c) H1) I h)
def tAndV (ta tb : TE) : TE := fun σ H Q => ta σ H fun x H1 => ∃ c, x = .bl c /\ if c = true then tb σ H1 Q else Q (.bl false) H1
def tNotV (ta : TE) : TE := fun σ H Q => ta σ H fun x H1 => ∃ c, x = .bl c /\ Q (.bl (!c)) H1
theorem zNc {op} {t : TE} (h : PE X a t) : PE X (.BoolOp op [a] pos) t := fun pins s σ H Q I hw => BoolOp_one (h pins s σ H Q I hw)
theorem zMZ (ha : PE X a ta) (hb : PE X (.BoolOp .And (b :: rest) pos) tb) : PE X (.BoolOp .And (a :: b :: rest) pos) (tAndV ta tb) := by
 intro pins s σ H Q I h
 refine BoolOp_and (thn (ha pins s σ H _ I h) fun v s1 zz => ?_)
 obtain ⟨x, H1, I1, r1, q1⟩ := zz
 obtain ⟨c, rfl, q1⟩ := q1
 cases r1
 refine YB ?_
 cases c with
 | true => exact hb pins s1 σ H1 Q I1 q1
 | false => exact ⟨.bl false, H1, I1, rfl, q1⟩
theorem zNb (ha : PE X a ta) : PE X (.UnaryOp .Not a pos) (tNotV ta) := by
 intro pins s σ H Q I h
 refine UnaryOp_ (thn (ha pins s σ H _ I h) fun v s1 zz => ?_)
 obtain ⟨x, H1, I1, r1, q1⟩ := zz
 obtain ⟨c, rfl, q1⟩ := q1
 cases r1
 exact not_of (YB ⟨.bl (!c), H1, I1, rfl, q1⟩)
def tIf (t : TT) (ta tb : TE) : TE := fun σ H Q => t σ H fun c H1 => if c = true then ta σ H1 Q else tb σ H1 Q
theorem zM8 {c : Expr} (hc : PT X c tA) (ha : PE X a ta) (hb : PE X b tb) : PE X (.IfExp c a b pos) (tIf tA ta tb) := by
 intro pins s σ H Q I h
 refine wpAny_IfExp (thn (hc pins s σ H _ I h) fun d s1 zz => ?_)
 obtain ⟨H1, I1, q1⟩ := zz
 cases d with
 | true => exact ha pins s1 σ H1 Q I1 q1
 | false => exact hb pins s1 σ H1 Q I1 q1
end
end L2
namespace L2
open PySem PySem.Spec PyProof.Rows
def SqL (K : PySem.W.Frag) (H : Hp) (a : Addr) (xs : List V) : Prop :=
 Rd H a (.lst xs) ∨
  ∃ (o : Obj) (its : Array Value) (n : Nat), K.lookup a = some o /\ o.cls = .type "list" /\ o.dict = none /\ o.data = .seq its n /\ its.size <= sizeLine /\ Vals xs its.toList
def SqT (K : PySem.W.Frag) (H : Hp) (a : Addr) (xs : List V) : Prop :=
 Rd H a (.tup xs) ∨
  ∃ (o : Obj) (its : Array Value) (n : Nat), K.lookup a = some o /\ o.cls = .type "tuple" /\ o.data = .seq its n /\ its.size <= sizeLine /\ Vals xs its.toList
def absV : Value -> Option V
 | .none => some .non
 | .bool b => some (.bl b)
 | .int i _ => some (.int i)
 | .str x _ => some (.str x)
 | .bytes b _ => some (.byt b)
 | .float b _ => some (.flt b)
 | .ref a => some (.ref a)
 | .type n => some (.ty n)
 | _ => none
theorem RelV.abs {x : V} {u : Value} (r : RelV x u) : absV u = some x := by
 cases x with
 | non => cases r; rfl
 | bl _ => cases r; rfl
 | int _ => obtain ⟨t, rfl⟩ := r; rfl
 | str _ => obtain ⟨t, rfl⟩ := r; rfl
 | byt _ => obtain ⟨t, rfl⟩ := r; rfl
 | flt _ => obtain ⟨t, rfl⟩ := r; rfl
 | ref _ => cases r; rfl
 | ty _ => cases r; rfl
theorem RelV.inj {x y : V} {u : Value} (r : RelV x u) (q : RelV y u) : x = y := QG (r.abs.symm.trans q.abs)
theorem Vals.inj {xs ys : List V} {us : List Value} (h : Vals xs us) (h' : Vals ys us) : xs = ys := by
 induction h generalizing ys with
 | nil => cases h'; rfl
 | cons r t ih =>
  cases h' with
  | cons r' t' => rw [r.inj r', ih t']
section
variable {X : Cx} {pins : List (Addr × Obj)} {σ : St} {H : Hp} {s : Shared} {a : Addr} {xs ys : List V}
theorem SqL.of {K : PySem.W.Frag} (h : H a = some (.lst xs)) : SqL K H a xs := .inl (.inl h)
theorem Inv.list (I : Inv X pins σ H s) (h : SqL X.K H a xs) : ∃ its : List Value, Vals xs its /\ PlainL s.heap a its.toArray /\ xs.length <= sizeLine := by
 rcases h with h | ⟨o, its, n, hk, hc, hd, hs, hz, r⟩
 ·obtain ⟨z, its, n, r, e⟩ := h.ok I.hok
  exact ⟨its, r, ⟨_, n, e, rfl, rfl, rfl⟩, z⟩
 ·refine ⟨its.toList, r, ⟨o, n, I.kIn a o hk, hc, hd, by simpa using hs⟩, ?_⟩
  have e := r.length
  simp only [Qr] at e
  lia
theorem Inv.tuple (I : Inv X pins σ H s) (h : SqT X.K H a xs) : ∃ its : List Value, Vals xs its /\ IsTup s.heap a its.toArray /\ xs.length <= sizeLine := by
 rcases h with h | ⟨o, its, n, hk, hc, hs, hz, r⟩
 ·obtain ⟨z, its, r, p⟩ := h.ok I.hok
  exact ⟨its, r, p, z⟩
 ·refine ⟨its.toList, r, ⟨o, I.kIn a o hk, hc, n, by simpa using hs⟩, ?_⟩
  have e := r.length
  simp only [Qr] at e
  lia
theorem Inv.list_inj (I : Inv X pins σ H s) (h : SqL X.K H a xs) (h' : SqL X.K H a ys) : xs = ys := by
 obtain ⟨its, r, ⟨o, n, e, _, _, d⟩, _⟩ := I.list h
 obtain ⟨its', r', ⟨o', n', e', _, _, d'⟩, _⟩ := I.list h'
 rw [e] at e'; cases e'
 rw [d] at d'
 injection d' with d1 _
 have : its = its' := by simpa using congrArg Array.toList d1
 subst this
 exact r.inj r'
theorem Inv.tuple_inj (I : Inv X pins σ H s) (h : SqT X.K H a xs) (h' : SqT X.K H a ys) : xs = ys := by
 obtain ⟨its, r, ⟨o, e, _, n, d⟩, _⟩ := I.tuple h
 obtain ⟨its', r', ⟨o', e', _, n', d'⟩, _⟩ := I.tuple h'
 rw [e] at e'; cases e'
 rw [d] at d'
 injection d' with d1 _
 have : its = its' := by simpa using congrArg Array.toList d1
 subst this
 exact r.inj r'
end
abbrev Cx.wish (X : Cx) (E : Value -> Shared -> Prop) : Cx := { X with xe := E }
abbrev Cx.nox (X : Cx) : Cx := X.wish fun _ _ => False
theorem Cx.Ok.wish {X : Cx} (ok : X.Ok) (E : Value -> Shared -> Prop) : (X.wish E).Ok :=
 ⟨ok.mod, ok.kind, ok.glob, ok.blt, ok.above, ok.inj, ok.has, ok.cab, ok.hd, ok.frames, ok.stk, ok.exf, ok.bs, ok.bsz, ok.noex, ok.exfs, ok.funs, ok.frf⟩
theorem Cx.Ok.unwish {X : Cx} {E : Value -> Shared -> Prop} (ok : (X.wish E).Ok) : X.Ok :=
 ⟨ok.mod, ok.kind, ok.glob, ok.blt, ok.above, ok.inj, ok.has, ok.cab, ok.hd, ok.frames, ok.stk, ok.exf, ok.bs, ok.bsz, ok.noex, ok.exfs, ok.funs, ok.frf⟩
section
variable {X : Cx} {pins : List (Addr × Obj)} {σ : St} {H : Hp} {s : Shared} {E : Value -> Shared -> Prop}
theorem Inv.wish (I : Inv X pins σ H s) (E : Value -> Shared -> Prop) : Inv (X.wish E) pins σ H s := ⟨I.ok.wish E, I.os, I.bare, I.base, I.loc, I.cell, I.free, I.freeC, I.pin, I.hok, I.len⟩
theorem Inv.unwish (I : Inv (X.wish E) pins σ H s) : Inv X pins σ H s := ⟨I.ok.unwish, I.os, I.bare, I.base, I.loc, I.cell, I.free, I.freeC, I.pin, I.hok, I.len⟩
theorem SP.unwish {D : Ends} {f : Flow} {s' : Shared} (h : SP (X.wish E) pins D f s') : SP X pins D f s' := by
 cases f with
 | next => obtain ⟨σ', H', I, q⟩ := h; exact ⟨σ', H', I.unwish, q⟩
 | brk => obtain ⟨σ', H', I, q⟩ := h; exact ⟨σ', H', I.unwish, q⟩
 | cont => obtain ⟨σ', H', I, q⟩ := h; exact ⟨σ', H', I.unwish, q⟩
 | ret u => obtain ⟨v, σ', H', I, r, q⟩ := h; exact ⟨v, σ', H', I.unwish, r, q⟩
theorem PSs.nox {st : List Stmt} {t : TS} (h : PSs X.nox st t) : PSs X st t := fun pins s σ H D I hw =>
 YK (h pins s σ H D (I.wish _) hw) (fun _ _ q => q.unwish) fun _ _ z => False.elim z
end
section
variable {X : Cx} {st : Stmt} {rest : List Stmt} {t u : TS} {e : Expr} {te : TE} {pos : Pos}
def tNext : TS := fun D σ H => D.nx σ H
def tSeq (t u : TS) : TS := fun D σ H => t { D with nx := u D } σ H
theorem zNy : PSs X [] tNext := fun _ _ σ H _ I h => Jy ⟨σ, H, I, h⟩
theorem zNx (h1 : PS X st t) (h2 : PSs X rest u) : PSs X (st :: rest) (tSeq t u) := by
 intro pins s σ H D I h
 refine wpAny_execs_cons (thn (h1 pins s σ H { D with nx := u D } I h) fun f s1 q => ?_)
 cases f with
 | next =>
  obtain ⟨σ', H', I', q⟩ := q
  exact h2 pins s1 σ' H' D I' q
 | ret v => exact q
 | brk => exact q
 | cont => exact q
theorem zNz (h1 : PS X st t) : PSs X [st] t := by
 intro pins s σ H D I h
 refine wpAny_execs_cons (thn (h1 pins s σ H D I h) fun f s1 q => ?_)
 cases f with
 | next => exact Jy q
 | ret v => exact q
 | brk => exact q
 | cont => exact q
theorem Inv.quiet {pins : List (Addr × Obj)} {σ : St} {H : Hp} {s : Shared} (I : Inv X pins σ H s) : interactive X.env = false := by simp [interactive, I.ok.kind]
def tDrop (te : TE) : TS := fun D σ H => te σ H fun _ H1 => D.nx σ H1
theorem zEr (he : PE X e te) (hs : swapsWith e none pos.line X.env = pure false := by rfl) : PS X (.Expr e pos) (tDrop te) := by
 intro pins s σ H D I h
 exact wpAny_Expr_any (thn (he pins s σ H _ I h) fun v s1 ⟨x, H1, I1, r1, q1⟩ => ⟨σ, H1, I1, q1⟩) I.quiet hs
def tRet (te : TE) : TS := fun D σ H => te σ H D.rt
theorem zI5 (he : PE X e te) : PS X (.Return (some e) pos) (tRet te) := by
 intro pins s σ H D I h
 exact wpAny_Return_some (thn (he pins s σ H _ I h) fun v s1 ⟨x, H1, I1, r1, q1⟩ => ⟨x, σ, H1, I1, r1, q1⟩)
def tIfS (c : TT) (t u : TS) : TS := fun D σ H => c σ H fun b H1 => if b = true then t D σ H1 else u D σ H1
theorem ps_if {c : Expr} {a b : List Stmt} {tc : TT} (hc : PT X c tc) (ha : PSs X a t) (hb : PSs X b u) : PS X (.If c a b pos) (tIfS tc t u) := by
 intro pins s σ H D I h
 refine wpAny_If (thn (hc pins s σ H _ I h) fun d s1 zz => ?_)
 obtain ⟨H1, I1, q1⟩ := zz
 cases d with
 | true => exact ha pins s1 σ H1 D I1 q1
 | false => exact hb pins s1 σ H1 D I1 q1
end
abbrev TG := V -> St -> Hp -> (St -> Hp -> Prop) -> Prop
abbrev TGs := List V -> St -> Hp -> (St -> Hp -> Prop) -> Prop
def PG (X : Cx) (target : Expr) (t : TG) : Prop :=
 ∀ (pins : List (Addr × Obj)) (s : Shared) (σ : St) (H : Hp) (v : V) (u : Value) (Q : St -> Hp -> Prop), Inv X pins σ H s -> RelV v u -> t v σ H Q ->
  wpAny (model X.prog X.w) X.A (assign target X.env u) (fun _ s' => ∃ σ' H', Inv X pins σ' H' s' /\ Q σ' H') X.xe s
def PGs (X : Cx) (ts : List Expr) (t : TGs) : Prop :=
 ∀ (pins : List (Addr × Obj)) (s : Shared) (σ : St) (H : Hp) (vs : List V) (us : List Value) (Q : St -> Hp -> Prop), Inv X pins σ H s -> Vals vs us -> t vs σ H Q ->
  wpAny (model X.prog X.w) X.A (assignInOrder ((assignEach ts X.env).map (·.2)) us) (fun _ s' => ∃ σ' H', Inv X pins σ' H' s' /\ Q σ' H') X.xe s
section
variable {X : Cx} {pos : Pos}
def zD5 (i : Nat) : TG := fun v σ H Q => Q (σ.set i (some v)) H
theorem zNg {i : Nat} {x : Str} (hN : X.N.Nodup) (hi : X.N[i]? = some x) (hx : Loc X.env.scope x) (hf : X.fn x = true ∨ X.env.scope.names.lookup x = some .local := by first | exact .inl rfl | exact .inr rfl | assumption) : PG X (.Name x pos) (zD5 i) := by
 intro pins s σ H v u Q I r h
 exact wpAny_assign_Name (zJz I hN hi hx r (fun s' I' => ⟨_, H, I', h⟩) hf)
def gNil : TGs := fun vs σ H Q => vs = [] /\ Q σ H
def gCons (t : TG) (u : TGs) : TGs := fun vs σ H Q => ∃ v r, vs = v :: r /\ t v σ H fun σ' H' => u r σ' H' Q
theorem zNj : PGs X [] gNil := by
 intro pins s σ H vs us Q I r h
 obtain ⟨e, h⟩ := h
 subst e
 cases r
 exact assignInOrder_nil ⟨σ, H, I, h⟩
theorem zNi {e : Expr} {es : List Expr} {t : TG} {u : TGs} (h1 : PG X e t) (h2 : PGs X es u)
  (hs : (assignEach (e :: es) X.env).map (·.2) = assign e X.env :: (assignEach es X.env).map (·.2) := by rfl) : PGs X (e :: es) (gCons t u) := by
 intro pins s σ H vs us Q I r h
 obtain ⟨v, vr, e1, h⟩ := h
 subst e1
 cases r with
 | cons r rr =>
  rw [hs]
  refine assignInOrder_cons (thn (h1 pins s σ H _ _ _ I r h) fun _ s1 zz => ?_)
  obtain ⟨σ1, H1, I1, q1⟩ := zz
  exact h2 pins s1 σ1 H1 _ _ Q I1 rr q1
def gTup (K : PySem.W.Frag) (n : Nat) (t : TGs) : TG := fun v σ H Q => ∃ a xs, v = .ref a /\ SqT K H a xs /\ xs.length = n /\ t xs σ H Q
theorem zNh {es : List Expr} {k : Nat} {t : TGs} {n : Nat} (hc : X.calm = true) (h : PGs X es t)
  (hn : (assignEach es X.env).length = n := by rfl) (hst : (assignEach es X.env).findIdx? (·.1) = none := by rfl) : PG X (.Tuple es k pos) (gTup X.K n t) := by
 intro pins s σ H v u Q I r hw
 obtain ⟨a, xs, e1, hq, hl, hw⟩ := hw
 subst e1
 cases r
 obtain ⟨its, rv, ht, hz⟩ := I.tuple hq
 refine assign_Tuple_tuple (I.ok.hd hc) ht (by simp [hn, <- hl, rv.length]) hst fun h' hx => ?_
 have I1 : Inv X pins σ H { s with heap := h' } := I.kept (t' := s.toks) fun b o e => hx b o (Qy (Qm e)) e
 exact h pins _ σ H xs _ Q I1 (by simpa using rv) hw
def tAsg (te : TE) (g : TG) : TS := fun D σ H => te σ H fun x H1 => g x σ H1 D.nx
theorem zCk {i : Nat} {x : Str} {e : Expr} {te : TE} {pos' : Pos} (hN : X.N.Nodup) (hi : X.N[i]? = some x) (hx : Loc X.env.scope x) (he : PE X e te) (hs : swapsWith e (some (.Name x pos')) pos.line X.env = pure false := by rfl) (hf : X.fn x = true ∨ X.env.scope.names.lookup x = some .local := by first | exact .inl rfl | exact .inr rfl | assumption) :
  PS X (.Assign [.Name x pos'] e pos) (tAsg te (zD5 i)) := by
 intro pins s σ H D I h
 refine wpAny_Assign_Name (thn (he pins s σ H _ I h) fun v s1 ⟨y, H1, I1, r1, q1⟩ => ?_) hs
 exact zJz I1 hN hi hx r1 (fun s2 I2 => ⟨_, H1, I2, q1⟩) hf
end
section
variable {X : Cx} {pos : Pos}
def zOu (c : TT) (tb : TS) : TS := fun D σ H => ∃ W : Nat -> St -> Hp -> Prop, (∃ m, W m σ H) /\ ∀ m σ H, W m σ H ->
 c σ H fun b H1 => if b = true then ∃ N : St -> Hp -> Prop, (∀ σ' H', N σ' H' -> ∃ m', m' < m /\ W m' σ' H') /\ tb { D with nx := N, ct := N, bk := D.nx } σ H1 else D.nx σ H1
theorem zNw {c : Expr} {body : List Stmt} {tc : TT} {tb : TS} (hp : PassesOwn (model X.prog X.w) X.A X.env X.xe) (hc : PT X c tc) (hb : PSs X body tb) : PS X (.While c body [] pos) (zOu tc tb) := by
 intro pins s σ H D I h
 obtain ⟨W, ⟨m0, w0⟩, turn⟩ := h
 refine wpAny_While (codeAny_whileLoop (fun n s' => ∃ σ' H', Inv X pins σ' H' s' /\ W n σ' H') ?_ m0 ⟨σ, H, I, w0⟩)
 rintro n s1 ⟨σ1, H1, I1, w1⟩
 refine YZ hp (thn (hc pins s1 σ1 H1 _ I1 (turn n σ1 H1 w1)) fun b s2 zz => ?_)
 obtain ⟨H2, I2, q2⟩ := zz
 cases b with
 | true =>
  obtain ⟨N, hN, q2⟩ := q2
  rw [if_pos rfl]
  refine YZ hp (thn (hb pins s2 σ1 H2 _ I2 q2) fun f s3 q3 => ?_)
  cases f with
  | next =>
   obtain ⟨σ3, H3, I3, n3⟩ := q3
   obtain ⟨m', hm, w3⟩ := hN σ3 H3 n3
   exact ⟨m', hm, σ3, H3, I3, w3⟩
  | cont =>
   obtain ⟨σ3, H3, I3, n3⟩ := q3
   obtain ⟨m', hm, w3⟩ := hN σ3 H3 n3
   exact ⟨m', hm, σ3, H3, I3, w3⟩
  | brk => exact q3
  | ret v => exact q3
 | false =>
  rw [if_neg Qw]
  exact Jy ⟨σ1, H2, I2, q2⟩
end
structure It where
 go : Nat -> Hp -> Prop
 yld : Nat -> Hp -> V -> Hp -> Prop
 stop : Nat -> Hp -> Prop
def FpOk (X : Cx) (pins : List (Addr × Obj)) (H : Hp) (b : Addr) : Prop :=
 H b = none /\ b ≠ X.env.locals /\ b ∉ X.fs /\ (b ∈ X.ex ∨ X.s₀.heap.objs.size <= b) /\ (∀ x c, X.env.cells.lookup x = some c -> c ≠ b) /\ ∀ p ∈ X.pn ++ pins, p.1 ≠ b
theorem Inv.fpOk {X : Cx} {pins : List (Addr × Obj)} {σ : St} {H H' : Hp} {s : Shared} {b : Addr} (I : Inv X pins σ H s) (hb : s.heap.objs.size <= b) (hn : H' b = none) : FpOk X pins H' b := by
 refine ⟨hn, YQ (QB I.lt hb), I.nofs hb, .inr (Qx I.sz hb), fun x c e z => ?_, fun p hp z => ?_⟩
 ·obtain ⟨v, q⟩ := I.cell x c e
  exact absurd (QB q.lt (by rw [z]; exact hb)) (Y7 _)
 ·exact absurd (QB (Qm (I.pin p hp).1) (by rw [z]; exact hb)) (Y7 _)
structure Turn (P : Program) (w : World) (K : PySem.W.Frag) (tg : Expr) (J : It) (fp : List Addr) (it : Addr) (tn : Nat -> Heap -> Prop) : Prop where
 mem : it ∈ fp
 obj : ∀ i h, tn i h -> ∀ b ∈ fp, ∃ o, h.get? b = some o /\ ∀ v, o.data ≠ .cell v
 keep : ∀ i h h', tn i h -> (∀ b ∈ fp, ∀ o, h.get? b = some o -> h'.get? b = some o) -> tn i h'
 item : ∀ (X : Cx), X.prog = P -> X.w = w -> X.K = K -> X.calm = true -> ∀ (i : Nat) (pins : List (Addr × Obj)) (s : Shared) (σ : St) (H : Hp) (E : Value -> Shared -> Prop), Inv X pins σ H s -> (∀ b ∈ fp, FpOk X pins H b) -> tn i s.heap -> J.go i H ->
  wpAny (model P w) X.A (pyNext (.ref it)) (fun r s1 => ∃ u, r = some u /\
   wpAny (model P w) X.A (letOwnedTupleGo tg (.ref it) u) (fun _ s2 => ∃ x H', Inv X pins σ H' s2 /\ RelV x u /\ J.yld i H x H' /\ tn (i + 1) s2.heap /\ ∀ b ∈ fp, H' b = none) E s1) E s
 done : ∀ (X : Cx), X.prog = P -> X.w = w -> X.K = K -> X.calm = true -> ∀ (i : Nat) (pins : List (Addr × Obj)) (s : Shared) (σ : St) (H : Hp) (E : Value -> Shared -> Prop), Inv X pins σ H s -> (∀ b ∈ fp, FpOk X pins H b) -> tn i s.heap -> J.stop i H ->
  wpAny (model P w) X.A (pyNext (.ref it)) (fun r s1 => r = none /\ Inv X pins σ H s1) E s
 self : ∀ (A : Around) (i : Nat) (s : Shared) (Q : Value -> Shared -> Prop) (E : Value -> Shared -> Prop), tn i s.heap -> Q (.ref it) s -> wpAny (model P w) A (pyIter (.ref it)) Q E s
abbrev TI := St -> Hp -> (It -> Hp -> Prop) -> Prop
def PIE (X : Cx) (pins : List (Addr × Obj)) (σ : St) (tg : Expr) (R : It -> Hp -> Prop) (itv : Value) (s2 : Shared) : Prop :=
 ∃ (it : Addr) (fp : List Addr) (tn : Nat -> Heap -> Prop) (J : It) (H' : Hp), itv = .ref it /\ Inv X pins σ H' s2 /\ Turn X.prog X.w X.K tg J fp it tn /\ tn 0 s2.heap /\ (∀ b ∈ fp, FpOk X pins H' b) /\ R J H'
def PI (X : Cx) (tg iter : Expr) (wi : TI) : Prop :=
 ∀ (pins : List (Addr × Obj)) (s : Shared) (σ : St) (H : Hp) (R : It -> Hp -> Prop), Inv X pins σ H s -> wi σ H R ->
  wpAny (model X.prog X.w) X.A (eval iter X.env) (fun v s1 => wpAny (model X.prog X.w) X.A (pyIter v) (PIE X pins σ tg R) X.xe s1) X.xe s
theorem zCJ {M : Model} {A : Around} {E : Value -> Shared -> Prop} {s : Shared} {tg : Expr} {it : Addr} {u : Value} {o : Obj} {n : String} {vs : Array Value} {Q : Unit -> Shared -> Prop} (ho : s.heap.get? it = some o) (hc : o.cls = .type n) (hd : o.data = .fields vs)
  (hn : ["enumerate", "zip", "dict_itemiterator", "dict_reverseitemiterator", "odict_iterator", "itertools.zip_longest", "itertools.pairwise"].contains n = false) (hQ : Q () s) : wpAny M A (letOwnedTupleGo tg (.ref it) u) Q E s := by
 unfold letOwnedTupleGo
 cases tg <;> first
  | exact Qb hQ
  | (cases u <;> first
    | exact Qb hQ
    | (refine Qa (wpAny_load ho ?_)
       rw [hc, hd]
       show wpAny M A (if (["enumerate", "zip", "dict_itemiterator", "dict_reverseitemiterator", "odict_iterator", "itertools.zip_longest", "itertools.pairwise"].contains n && vs[0]? == some (rawInt _)) = true then _ else _) Q E s
       rw [if_neg (by intro h; rw [hn, Bool.false_and] at h; cases h)]
       exact Qb hQ))
def Itl (K : PySem.W.Frag) (a : Addr) : It :=
 ⟨fun i H => ∃ xs x, SqL K H a xs /\ xs[i]? = some x, fun i H x H' => H' = H /\ ∀ xs, SqL K H a xs -> xs[i]? = some x, fun i H => ∃ xs, SqL K H a xs /\ xs.length <= i⟩
def Itt (K : PySem.W.Frag) (a : Addr) : It :=
 ⟨fun i H => ∃ xs x, SqT K H a xs /\ xs[i]? = some x, fun i H x H' => H' = H /\ ∀ xs, SqT K H a xs -> xs[i]? = some x, fun i H => ∃ xs, SqT K H a xs /\ xs.length <= i⟩
def Itr (lo : Int) (n : Nat) : It := ⟨fun i _ => i < n, fun i H x H' => H' = H /\ x = .int (lo + i), fun i _ => n <= i⟩
theorem zOH {P : Program} {w : World} {K : PySem.W.Frag} {tg : Expr} (a it : Addr) : Turn P w K tg (Itl K a) [it] it (fun i h => h.IsListIter it a i) where
 mem := by simp
 obj := fun i h st b hb => by
  have e : b = it := by simpa using hb
  subst e
  obtain ⟨o, e, c, d⟩ := st
  exact ⟨o, e, fun v z => by rw [d] at z; cases z⟩
 keep := fun i h h' st k => st.at fun o e => k it (by simp) o e
 item := by
  intro X hP hw hK hc i pins s σ H E I hf st hg
  subst hP hw hK
  obtain ⟨xs, x, hq, hx⟩ := hg
  obtain ⟨its, rv, p, hz⟩ := I.list hq
  obtain ⟨u, hu, ru⟩ := rv.get hx
  obtain ⟨f0, f1, f2, f3, f4, f5⟩ := hf it (by simp)
  refine wpAny_pyNext_list_item st p.isList (x := u) (by simpa using hu) fun h' st' sb => ?_
  have I1 : Inv X pins σ H { s with heap := h' } := I.turned (t' := s.toks) (fun b o hb e => (sb.2 b hb).trans e) f0 f1 f3 f4 f5
  obtain ⟨o, e, c, d⟩ := id st'
  exact ⟨u, rfl, zCJ (s := { s with heap := h' }) e c d (by decide) ⟨x, H, I1, ru, ⟨rfl, fun ys hy => by rw [I.list_inj hy hq]; exact hx⟩, st', fun b hb => (hf b hb).1⟩⟩
 done := by
  intro X hP hw hK hc i pins s σ H E I hf st hg
  subst hP hw hK
  obtain ⟨xs, hq, hx⟩ := hg
  obtain ⟨its, rv, p, hz⟩ := I.list hq
  obtain ⟨f0, f1, f2, f3, f4, f5⟩ := hf it (by simp)
  have hl := rv.length
  exact wpAny_pyNext_list_end (I.ok.hd hc) st p.isList (by simp; lia) fun h' eb => ⟨rfl, I.turned (t' := s.toks) (fun b o hb e => eb b o hb e) f0 f1 f3 f4 f5⟩
 self := fun _ _ _ _ _ st h => wpAny_pyIter_listiter st h
theorem zOL {P : Program} {w : World} {K : PySem.W.Frag} {tg : Expr} (a it : Addr) : Turn P w K tg (Itt K a) [it] it (fun i h => h.IsTupleIter it a i) where
 mem := by simp
 obj := fun i h st b hb => by
  have e : b = it := by simpa using hb
  subst e
  obtain ⟨o, e, c, d⟩ := st
  exact ⟨o, e, fun v z => by rw [d] at z; cases z⟩
 keep := fun i h h' st k => st.at fun o e => k it (by simp) o e
 item := by
  intro X hP hw hK hc i pins s σ H E I hf st hg
  subst hP hw hK
  obtain ⟨xs, x, hq, hx⟩ := hg
  obtain ⟨its, rv, p, hz⟩ := I.tuple hq
  obtain ⟨u, hu, ru⟩ := rv.get hx
  obtain ⟨f0, f1, f2, f3, f4, f5⟩ := hf it (by simp)
  refine wpAny_pyNext_tuple_item st (show s.heap.IsTuple a its.toArray from p) (x := u) (by simpa using hu) fun h' st' sb => ?_
  have I1 : Inv X pins σ H { s with heap := h' } := I.turned (t' := s.toks) (fun b o hb e => (sb.2 b hb).trans e) f0 f1 f3 f4 f5
  obtain ⟨o, e, c, d⟩ := id st'
  exact ⟨u, rfl, zCJ (s := { s with heap := h' }) e c d (by decide) ⟨x, H, I1, ru, ⟨rfl, fun ys hy => by rw [I.tuple_inj hy hq]; exact hx⟩, st', fun b hb => (hf b hb).1⟩⟩
 done := by
  intro X hP hw hK hc i pins s σ H E I hf st hg
  subst hP hw hK
  obtain ⟨xs, hq, hx⟩ := hg
  obtain ⟨its, rv, p, hz⟩ := I.tuple hq
  obtain ⟨f0, f1, f2, f3, f4, f5⟩ := hf it (by simp)
  have hl := rv.length
  exact wpAny_pyNext_tuple_end (I.ok.hd hc) st (show s.heap.IsTuple a its.toArray from p) (by simp; lia) fun h' eb => ⟨rfl, I.turned (t' := s.toks) (fun b o hb e => eb b o hb e) f0 f1 f3 f4 f5⟩
 self := fun _ _ _ _ _ st h => wpAny_pyIter_tupleiter st h
theorem zOI {P : Program} {w : World} {K : PySem.W.Frag} {tg : Expr} (it : Addr) (lo : Int) (n : Nat) : Turn P w K tg (Itr lo n) [it] it (fun i h => IsRangeIter h it (lo + (i : Nat) * 1) ((n : Int) - (i : Nat)) 1) where
 mem := by simp
 obj := fun i h st b hb => by
  have e : b = it := by simpa using hb
  subst e
  exact ⟨_, st, fun v z => by
   have z' : Data.fields _ = Data.cell v := z
   cases z'⟩
 keep := fun i h h' st k => k it (by simp) _ st
 item := by
  intro X hP hw hK hc i pins s σ H E I hf st hg
  subst hP hw hK
  obtain ⟨f0, f1, f2, f3, f4, f5⟩ := hf it (by simp)
  have W := Walks.range (prog := X.prog) (w := X.w) (I.ok.hd hc) it lo 1 n
  refine W.item i s _ _ hg st fun v h' tk hv st' kk => ?_
  obtain ⟨t, rfl⟩ := hv
  have I1 : Inv X pins σ H { s with heap := h', toks := tk } := I.turned (fun b o hb e => kk b o (by simpa using hb) e) f0 f1 f3 f4 f5
  refine ⟨_, rfl, zCJ (s := { s with heap := h', toks := tk }) (n := "range_iterator") st' rfl rfl (by decide) ⟨.int (lo + i), H, I1, ⟨t, ?_⟩, ⟨rfl, rfl⟩, st', fun b hb => (hf b hb).1⟩⟩
  rw [Int.mul_one]
 done := by
  intro X hP hw hK hc i pins s σ H E I hf st hg
  subst hP hw hK
  obtain ⟨f0, f1, f2, f3, f4, f5⟩ := hf it (by simp)
  exact wpAny_pyNext_range_end (I.ok.hd hc) st (by have : n <= i := hg; lia) fun h' eb => ⟨rfl, I.turned (t' := s.toks) (fun b o hb e => eb b o hb e) f0 f1 f3 f4 f5⟩
 self := fun _ _ _ _ _ st h => wpAny_pyIter_rangeiter st h
end L2
namespace L2
open PySem PySem.Spec PyProof.Rows
section
variable {X : Cx} {tg : Expr}
theorem zNQ {pins : List (Addr × Obj)} {σ : St} {H : Hp} {s : Shared} {R : It -> Hp -> Prop} {E : Value -> Shared -> Prop} {lo hi : Int} {t u v : Tok} {tk : Nat} (I : Inv X pins σ H s) (h1 : -(2 ^ 62) <= lo) (h2 : lo < 2 ^ 62) (h3 : -(2 ^ 62) <= hi) (h4 : hi < 2 ^ 62)
  (q : R (Itr lo (hi - lo).toNat) H) : wpAny (model X.prog X.w) X.A (pyIter (.ref s.heap.objs.size)) (PIE X pins σ tg R) E { s with heap := s.heap.push { cls := .type "range", data := .fields #[.int lo t, .int hi u, .int 1 v] }, toks := tk } := by
 refine wpAny_pyIter_range (IsRange.new ..) (small_one h1 h2 h3 h4) ?_
 have I1 : Inv X pins σ H { s with heap := s.heap.push { cls := .type "range", data := .fields #[.int lo t, .int hi u, .int 1 v] }, toks := tk } := I.kept fun b o e => Qc _ e
 refine ⟨(s.heap.push { cls := .type "range", data := .fields #[.int lo t, .int hi u, .int 1 v] }).objs.size, [(s.heap.push { cls := .type "range", data := .fields #[.int lo t, .int hi u, .int 1 v] }).objs.size], _, _, H, rfl,
  I1.kept (t' := tk) fun b o e => Qc _ e, zOI _ lo (hi - lo).toNat, ?_, fun b hb => ?_, q⟩
 ·have e1 : lo + ((0 : Nat) : Int) * 1 = lo := by simp
  have e2 : (((hi - lo).toNat : Nat) : Int) - ((0 : Nat) : Int) = Builtin.Range.rangeSize lo hi 1 := by rw [rangeSize_one]; split <;> lia
  show IsRangeIter _ _ (lo + ((0 : Nat) : Int) * 1) ((((hi - lo).toNat : Nat) : Int) - ((0 : Nat) : Int)) 1
  rw [e1, e2]
  exact Qt _ rfl
 ·have e : b = (s.heap.push { cls := .type "range", data := .fields #[.int lo t, .int hi u, .int 1 v] }).objs.size := by simpa using hb
  subst e
  exact I1.fpOk (Qh _) (I1.hok.fresh (Qh _))
def zA0 (ta : TA) : TI := fun σ H R => ta σ H fun vs H1 => ∃ j : Int, vs = [.int j] /\ -(2 ^ 62) <= j /\ j < 2 ^ 62 /\ R (Itr 0 j.toNat) H1
theorem zNk {a : Expr} {ta : TA} {p pos : Pos} (hg : Gl X "range") (hm : X.mg "range" = none) (ha : PA X [a] ta) (hs : starEach [a] X.env = [(false, eval a X.env)] := by rfl) : PI X tg (.Call (.Name "range" p) [a] [] pos) (zA0 ta) := by
 intro pins s σ H R I h
 refine Call_ (zCc I hg hm boot_range (YR (thn (ha pos pins s σ H _ I h) fun us s1 ⟨vs, H1, I1, r1, q1⟩ => ?_) hs rfl))
 obtain ⟨j, e, q1, q2, q⟩ := q1
 subst e
 cases r1 with
 | cons r rr =>
  cases rr
  obtain ⟨t, rfl⟩ := r
  exact call_range_1 (zNQ I1 (by lia) (by lia) q1 q2 (by simpa using q))
def tFor (wi : TI) (g : TG) (tb : TS) : TS := fun D σ H => wi σ H fun J H1 => ∃ W : Nat -> Nat -> St -> Hp -> Prop, (∃ m, W 0 m σ H1) /\ ∀ i m σ H, W i m σ H ->
 (J.stop i H /\ D.nx σ H) ∨ (J.go i H /\ ∃ N : St -> Hp -> Prop, (∀ σ' H', N σ' H' -> ∃ m', m' < m /\ W (i + 1) m' σ' H') /\ ∀ x H', J.yld i H x H' -> g x σ H' fun σ2 H2 => tb { D with nx := N, ct := N, bk := D.nx } σ2 H2)
def zDC (fp : List Addr) (h : Heap) : List (Addr × Obj) := fp.filterMap fun b => (h.get? b).map fun o => (b, o)
theorem zEi {fp : List Addr} {h : Heap} {b : Addr} {o : Obj} (hb : b ∈ fp) (e : h.get? b = some o) : (b, o) ∈ zDC fp h := List.mem_filterMap.mpr ⟨b, hb, by rw [e]; rfl⟩
theorem zMG {fp : List Addr} {h : Heap} {p : Addr × Obj} (hp : p ∈ zDC fp h) : p.1 ∈ fp /\ h.get? p.1 = some p.2 := by
 obtain ⟨b, hb, e⟩ := List.mem_filterMap.mp hp
 cases q : h.get? b with
 | none => rw [q] at e; cases e
 | some o =>
  rw [q] at e
  have e' : (b, o) = p := QG e
  subst e'
  exact ⟨hb, q⟩
theorem Inv.pinned {pins : List (Addr × Obj)} {σ : St} {H : Hp} {s : Shared} {fp : List Addr} (I : Inv X pins σ H s) (hf : ∀ b ∈ fp, FpOk X pins H b) (ho : ∀ b ∈ fp, ∃ o, s.heap.get? b = some o /\ ∀ v, o.data ≠ .cell v) : Inv X (pins ++ zDC fp s.heap) σ H s :=
 I.pins_of fun p hp => (Qz.mp hp).elim (fun z => I.pin p (Qu _ z)) fun z => by
  obtain ⟨hb, e⟩ := zMG z
  obtain ⟨f0, f1, f2, _⟩ := hf p.1 hb
  obtain ⟨o, e', d⟩ := ho p.1 hb
  rw [e] at e'; cases e'
  exact ⟨e, f0, f1, f2, d⟩
theorem Inv.unpinned {pins pl : List (Addr × Obj)} {σ : St} {H : Hp} {s : Shared} (I : Inv X (pins ++ pl) σ H s) : Inv X pins σ H s := I.pins_of fun p hp => I.pin p (Qu _ (QK _ hp))
theorem zNv {iter : Expr} {body : List Stmt} {wi : TI} {g : TG} {tb : TS} {pos : Pos} (hp : PassesOwn (model X.prog X.w) X.A X.env X.xe) (hc : X.calm = true) (hi : PI X tg iter wi) (hg : PG X tg g) (hb : PSs X body tb)
  (hs : ∀ x, foldedSetIterable iter X.env x = pure x := by intro _; rfl) : PS X (.For tg iter body [] pos) (tFor wi g tb) := by
 intro pins s σ H D I h
 refine wpAny_For (thn (hi pins s σ H _ I h) fun v s1 h1 => thn h1 fun itv s2 h2 => ?_) hs
 obtain ⟨it, fp, tn, J, H2, e, I2, T, st2, f2, W, ⟨m0, w0⟩, turn⟩ := h2
 subst e
 have stat : ∀ {H' : Hp}, (∀ b ∈ fp, H' b = none) -> ∀ b ∈ fp, FpOk X pins H' b := fun hn b hb => ⟨hn b hb, (f2 b hb).2⟩
 refine codeAny_forLoop_any (fun n s' => ∃ i σ' H', Inv X pins σ' H' s' /\ tn i s'.heap /\ (∀ b ∈ fp, H' b = none) /\ W i n σ' H') ?_ m0 ⟨0, σ, H2, I2, st2, fun b hb => (f2 b hb).1, w0⟩
 rintro n s3 ⟨i, σ3, H3, I3, st3, fr3, w3⟩
 rcases turn i n σ3 H3 w3 with ⟨stop, qn⟩ | ⟨go, N, hN, step⟩
 ·refine YZ hp (thn (T.done X rfl rfl rfl hc i pins s3 σ3 H3 X.xe I3 (stat fr3) st3 stop) fun r s4 zz => ?_)
  obtain ⟨hr, I4⟩ := zz
  subst hr
  exact Jy ⟨σ3, H3, I4, qn⟩
 ·refine YZ hp (thn (T.item X rfl rfl rfl hc i pins s3 σ3 H3 X.xe I3 (stat fr3) st3 go) fun r s4 zz => ?_)
  obtain ⟨u, hr, h4⟩ := zz
  subst hr
  refine YZ hp (thn h4 fun _ s5 zz => ?_)
  obtain ⟨x, H5, I5, r5, y5, st5, fr5⟩ := zz
  have I5' := I5.pinned (stat fr5) (T.obj _ _ st5)
  refine YZ hp (thn (hg _ s5 σ3 H5 x u _ I5' r5 (step x H5 y5)) fun _ s6 zz => ?_)
  obtain ⟨σ6, H6, I6, q6⟩ := zz
  refine YZ hp (thn (hb _ s6 σ6 H6 _ I6 q6) fun f s7 q7 => ?_)
  have again : ∀ {σ7 : St} {H7 : Hp}, Inv X (pins ++ zDC fp s5.heap) σ7 H7 s7 -> N σ7 H7 -> ∃ m, m < n /\ ∃ i σ' H', Inv X pins σ' H' s7 /\ tn i s7.heap /\ (∀ b ∈ fp, H' b = none) /\ W i m σ' H' := fun {σ7 H7} I7 n7 => by
   obtain ⟨m', hm, w7⟩ := hN σ7 H7 n7
   refine ⟨m', hm, i + 1, σ7, H7, I7.unpinned, T.keep _ _ _ st5 fun b hb o e => (I7.pin (b, o) (Qu _ (Qu _ (zEi hb e)))).1, fun b hb => ?_, w7⟩
   obtain ⟨o, e, d⟩ := T.obj _ _ st5 b hb
   exact (I7.pin (b, o) (Qu _ (Qu _ (zEi hb e)))).2.1
  cases f with
  | next => obtain ⟨σ7, H7, I7, n7⟩ := q7; exact again I7 n7
  | cont => obtain ⟨σ7, H7, I7, n7⟩ := q7; exact again I7 n7
  | brk => obtain ⟨σ7, H7, I7, q7⟩ := q7; exact ⟨σ7, H7, I7.unpinned, q7⟩
  | ret v => obtain ⟨x7, σ7, H7, I7, r7, q7⟩ := q7; exact ⟨x7, σ7, H7, I7.unpinned, r7, q7⟩
end
end L2
namespace L2
open PySem PySem.Spec PyProof.Rows
abbrev R2 := V -> V -> Hp -> VK -> Prop
def OpR (X : Cx) (f : Value -> Value -> Sem Value) (r : R2) : Prop :=
 ∀ (pins : List (Addr × Obj)) (s : Shared) (σ : St) (H : Hp) (x y : V) (v u : Value) (Q : VK), Inv X pins σ H s -> RelV x v -> RelV y u -> r x y H Q ->
  wpAny (model X.prog X.w) X.A (f v u) (EP X pins σ Q) X.xe s
def UnR (X : Cx) (f : Value -> Sem Value) (r : V -> Hp -> VK -> Prop) : Prop :=
 ∀ (pins : List (Addr × Obj)) (s : Shared) (σ : St) (H : Hp) (x : V) (v : Value) (Q : VK), Inv X pins σ H s -> RelV x v -> r x H Q ->
  wpAny (model X.prog X.w) X.A (f v) (EP X pins σ Q) X.xe s
def zAH (X : Cx) (f : Value) (r : List V -> Hp -> VK -> Prop) : Prop :=
 ∀ (pins : List (Addr × Obj)) (s : Shared) (σ : St) (H : Hp) (xs : List V) (us : List Value) (Q : VK), Inv X pins σ H s -> Vals xs us -> r xs H Q ->
  wpAny (model X.prog X.w) X.A (call f us) (EP X pins σ Q) X.xe s
def tOp (r : R2) (ta tb : TE) : TE := fun σ H Q => ta σ H fun x H1 => tb σ H1 fun y H2 => r x y H2 Q
def tUn (r : V -> Hp -> VK -> Prop) (ta : TE) : TE := fun σ H Q => ta σ H fun x H1 => r x H1 Q
def rI (C : Int -> Int -> Prop) (g : Int -> Int -> V) : R2 := fun x y H Q => ∃ i j, x = .int i /\ y = .int j /\ C i j /\ Q (g i j) H
def rI0 (g : Int -> Int -> V) : R2 := fun x y H Q => ∃ i j, x = .int i /\ y = .int j /\ Q (g i j) H
def rU (g : Int -> V) : V -> Hp -> VK -> Prop := fun x H Q => ∃ i, x = .int i /\ Q (g i) H
section
variable {X : Cx} {a b c : Expr} {ta tb tc : TE} {pos : Pos}
theorem binT (ha : PE X a ta) (hb : PE X b tb) {pins : List (Addr × Obj)} {s : Shared} {σ : St} {H : Hp} {R : V -> V -> Hp -> Prop} (I : Inv X pins σ H s)
  (h : ta σ H fun x H1 => tb σ H1 fun y H2 => R x y H2) {Q : Value -> Shared -> Prop} {f : Value -> Value -> Sem Value}
  (hf : ∀ v u s2 x y H2, Inv X pins σ H2 s2 -> RelV x v -> RelV y u -> R x y H2 -> wpAny (model X.prog X.w) X.A (f v u) Q X.xe s2) :
  wpAny (model X.prog X.w) X.A (eval a X.env) (fun v s₁ => wpAny (model X.prog X.w) X.A (eval b X.env) (fun u s₂ => wpAny (model X.prog X.w) X.A (f v u) Q X.xe s₂) X.xe s₁) X.xe s := by
 refine thn (ha pins s σ H _ I h) fun v s1 zz => ?_
 obtain ⟨x, H1, I1, r1, q1⟩ := zz
 refine thn (hb pins s1 σ H1 _ I1 q1) fun u s2 zz => ?_
 obtain ⟨y, H2, I2, r2, q2⟩ := zz
 exact hf v u s2 x y H2 I2 r1 r2 q2
theorem pe_op {op : Operator} {r : R2} (ho : OpR X (binaryOp op) r) (ha : PE X a ta) (hb : PE X b tb) : PE X (.BinOp a op b pos) (tOp r ta tb) := by
 intro pins s σ H Q I h
 exact wpAny_BinOp (binT ha hb I h fun v u s2 x y H2 I2 rx ry q => ho pins s2 σ H2 x y v u Q I2 rx ry q)
theorem pe_un {op : UnaryOp} {r : V -> Hp -> VK -> Prop} (ho : UnR X (unaryOp op) r) (ha : PE X a ta) : PE X (.UnaryOp op a pos) (tUn r ta) := by
 intro pins s σ H Q I h
 exact UnaryOp_ (thn (ha pins s σ H _ I h) fun v s1 ⟨x, H1, I1, r1, q1⟩ => ho pins s1 σ H1 x v Q I1 r1 q1)
theorem opI {f : Value -> Value -> Sem Value} {C : Int -> Int -> Prop} {g : Int -> Int -> Int}
  (rule : ∀ (i j : Int) (t u : Tok) (s : Shared) (Q : Value -> Shared -> Prop) (E : Value -> Shared -> Prop), C i j -> Q (.int (g i j) s.toks) { s with toks := s.toks + 1 } -> wpAny (model X.prog X.w) X.A (f (.int i t) (.int j u)) Q E s) :
  OpR X f (rI C fun i j => .int (g i j)) := by
 intro pins s σ H x y v u Q I rx ry h
 obtain ⟨i, j, rfl, rfl, hc, q⟩ := h
 obtain ⟨t, rfl⟩ := rx
 obtain ⟨t', rfl⟩ := ry
 exact rule i j t t' s _ _ hc ⟨.int (g i j), H, I.tok _, ⟨_, rfl⟩, q⟩
theorem opI0 {f : Value -> Value -> Sem Value} {g : Int -> Int -> Int}
  (rule : ∀ (i j : Int) (t u : Tok) (s : Shared) (Q : Value -> Shared -> Prop) (E : Value -> Shared -> Prop), Q (.int (g i j) s.toks) { s with toks := s.toks + 1 } -> wpAny (model X.prog X.w) X.A (f (.int i t) (.int j u)) Q E s) :
  OpR X f (rI0 fun i j => .int (g i j)) := by
 intro pins s σ H x y v u Q I rx ry h
 obtain ⟨i, j, rfl, rfl, q⟩ := h
 obtain ⟨t, rfl⟩ := rx
 obtain ⟨t', rfl⟩ := ry
 exact rule i j t t' s _ _ ⟨.int (g i j), H, I.tok _, ⟨_, rfl⟩, q⟩
theorem opB0 {f : Value -> Value -> Sem Value} {g : Int -> Int -> Bool}
  (rule : ∀ (i j : Int) (t u : Tok) (s : Shared) (Q : Value -> Shared -> Prop) (E : Value -> Shared -> Prop), Q (.bool (g i j)) s -> wpAny (model X.prog X.w) X.A (f (.int i t) (.int j u)) Q E s) :
  OpR X f (rI0 fun i j => .bl (g i j)) := by
 intro pins s σ H x y v u Q I rx ry h
 obtain ⟨i, j, rfl, rfl, q⟩ := h
 obtain ⟨t, rfl⟩ := rx
 obtain ⟨t', rfl⟩ := ry
 exact rule i j t t' s _ _ ⟨.bl (g i j), H, I, rfl, q⟩
def CDiv (i j : Int) : Prop := 0 < j /\ j < 1073741824
def CMul (i j : Int) : Prop := (-(2 ^ 64) < i /\ i < 2 ^ 64) ∨ (-(2 ^ 64) < j /\ j < 2 ^ 64)
theorem CMul.ok {i j : Int} (h : CMul i j) : IntMulOk i j := by
 rcases h with ⟨h1, h2⟩ | ⟨h1, h2⟩
 ·exact .of_left (intBits_le_64 h1 h2)
 ·exact .of_right (intBits_le_64 h1 h2)
theorem zMJ : OpR X (binaryOp .Add) (rI0 fun i j => .int (i + j)) := opI0 fun _ _ _ _ _ _ _ q => add_int q
theorem zMR : OpR X (binaryOp .Sub) (rI0 fun i j => .int (i - j)) := opI0 fun _ _ _ _ _ _ _ q => sub_int q
theorem zMP : OpR X (binaryOp .Mult) (rI CMul fun i j => .int (i * j)) := opI fun _ _ _ _ _ _ _ hc q => mul_int q hc.ok
theorem zMM : OpR X (binaryOp .FloorDiv) (rI CDiv fun i j => .int (i / j)) := opI fun i j _ _ _ _ _ hc q => by
 have h1 : (0 : Int) < j := hc.1
 have h2 : j < 1073741824 := hc.2
 exact floordiv_int (by lia) (by rw [Int.fdiv_eq_ediv_of_nonneg i (by lia)]; exact q) (.inl (PyProof.noPylong_small (by lia)))
theorem zMO : OpR X (binaryOp .Mod) (rI (fun _ j => 0 < j) fun i j => .int (i % j)) := opI fun i j _ _ _ _ _ hc q => by
 have h1 : (0 : Int) < j := hc
 exact mod_int' (by lia) (by rw [Int.fmod_eq_emod_of_nonneg i (by lia)]; exact q)
theorem unI {f : Value -> Sem Value} {g : Int -> Int}
  (rule : ∀ (i : Int) (t : Tok) (s : Shared) (Q : Value -> Shared -> Prop) (E : Value -> Shared -> Prop), Q (.int (g i) s.toks) { s with toks := s.toks + 1 } -> wpAny (model X.prog X.w) X.A (f (.int i t)) Q E s) :
  UnR X f (rU fun i => .int (g i)) := by
 intro pins s σ H x v Q I rx h
 obtain ⟨i, rfl, q⟩ := h
 obtain ⟨t, rfl⟩ := rx
 exact rule i t s _ _ ⟨.int (g i), H, I.tok _, ⟨_, rfl⟩, q⟩
theorem zOQ : UnR X (unaryOp .USub) (rU fun i => .int (-i)) := unI fun _ _ _ _ _ q => neg_int q
end
section
variable {X : Cx} {a b c : Expr} {ta tb tc : TE} {pos : Pos}
theorem zHs {pins : List (Addr × Obj)} {σ : St} {H : Hp} {s : Shared} {Q : VK} {k k' : Bool} (I : Inv X pins σ H s) (q : Q (.bl k) H) (e : k = k') : EP X pins σ Q (.bool k') s := by
 subst e
 exact ⟨.bl k, H, I, rfl, q⟩
theorem op_lt : OpR X (compareOp .Lt) (rI0 fun i j => .bl (decide (i < j))) := opB0 fun _ _ _ _ _ _ _ q => lt_int q
theorem op_le : OpR X (compareOp .LtE) (rI0 fun i j => .bl (decide (i <= j))) := opB0 fun _ _ _ _ _ _ _ q => le_int q
theorem op_gt : OpR X (compareOp .Gt) (rI0 fun i j => .bl (decide (j < i))) := opB0 fun _ _ _ _ _ _ _ q => gt_int q
theorem zMN : OpR X (compareOp .Is) (fun x y H Q => y = .non /\ Q (.bl (decide (x = .non))) H) := by
 intro pins s σ H x y v u Q I rx ry h
 obtain ⟨rfl, q⟩ := h
 cases ry
 refine is_none_gen (zHs I q ?_)
 cases x <;> first
  | (cases rx; rfl)
  | (obtain ⟨t, rfl⟩ := rx; rfl)
theorem zMQ : OpR X (compareOp .IsNot) (fun x y H Q => y = .non /\ Q (.bl (!decide (x = .non))) H) := by
 intro pins s σ H x y v u Q I rx ry h
 obtain ⟨rfl, q⟩ := h
 cases ry
 refine isnot_none_gen (zHs I q ?_)
 cases x <;> first
  | (cases rx; rfl)
  | (obtain ⟨t, rfl⟩ := rx; rfl)
theorem OpR.or {f : Value -> Value -> Sem Value} {r r' : R2} (h : OpR X f r) (h' : OpR X f r') : OpR X f (fun x y H Q => r x y H Q ∨ r' x y H Q) := by
 intro pins s σ H x y v u Q I rx ry q
 rcases q with q | q
 ·exact h pins s σ H x y v u Q I rx ry q
 ·exact h' pins s σ H x y v u Q I rx ry q
theorem zAC (b : Expr) {op : CmpOp} (h : op ≠ .In := by decide) (h2 : op ≠ .NotIn := by decide) : behindInMarks op b = false := by
 have e1 : (op == CmpOp.In) = false := by cases op <;> first | rfl | exact absurd rfl h
 have e2 : (op == CmpOp.NotIn) = false := by cases op <;> first | rfl | exact absurd rfl h2
 cases b <;> simp [behindInMarks, e1, e2]
theorem zM4 {op : CmpOp} {r : R2} (ho : OpR X (compareOp op) r) (ha : PE X a ta) (hb : PE X b tb) (hm : behindInMarks op b = false) : PE X (.Compare a [op] [b] pos) (tOp r ta tb) := by
 intro pins s σ H Q I h
 exact wpAny_Compare1 (binT ha hb I h fun v u s2 x y H2 I2 rx ry q => ho pins s2 σ H2 x y v u Q I2 rx ry q) hm
def zGk (t : TE) : TT := fun σ H Q => t σ H fun x H' => ∃ k, x = .bl k /\ Q k H'
theorem zNB {op : CmpOp} {r : R2} (ho : OpR X (compareOp op) r) (ha : PE X a ta) (hb : PE X b tb) (hm : behindInMarks op b = false) : PT X (.Compare a [op] [b] pos) (zGk (tOp r ta tb)) := by
 intro pins s σ H Q I h
 refine wpAny_isTrue_Compare1 (thn (ha pins s σ H _ I h) fun v s1 ⟨x, H1, I1, r1, q1⟩ => thn (hb pins s1 σ H1 _ I1 q1) fun u s2 ⟨y, H2, I2, r2, q2⟩ =>
  thn (ho pins s2 σ H2 x y v u _ I2 r1 r2 q2) fun c s3 ⟨z, H3, I3, r3, k, e, q3⟩ => ?_) hm
 subst e
 cases r3
 exact YB ⟨H3, I3, q3⟩
def zGi (r r' : R2) (ta tb tc : TE) : TE := fun σ H Q => ta σ H fun x H1 => tb σ H1 fun y H2 => r x y H2 fun z H3 => ∃ k, z = .bl k /\
 (if k = true then tc σ H3 fun w' H4 => r' y w' H4 Q else Q (.bl false) H3)
theorem zM3 {op op' : CmpOp} {r r' : R2} (ho : OpR X (compareOp op) r) (ho' : OpR X (compareOp op') r') (ha : PE X a ta) (hb : PE X b tb) (hc : PE X c tc)
  (hm : lastMarks [op, op'] [b, c] = false := by with_unfolding_all rfl) : PE X (.Compare a [op, op'] [b, c] pos) (zGi r r' ta tb tc) := by
 intro pins s σ H Q I h
 refine Compare_chain (thn (ha pins s σ H _ I h) fun v s1 ⟨x, H1, I1, r1, q1⟩ => chain_link (thn (hb pins s1 σ H1 _ I1 q1) fun u s2 ⟨y, H2, I2, r2, q2⟩ =>
  thn (ho pins s2 σ H2 x y v u _ I2 r1 r2 q2) fun d s3 ⟨z, H3, I3, r3, k, e, q3⟩ => ?_)) hm
 subst e
 cases r3
 refine YB ?_
 cases k with
 | false => exact ite_ff ⟨.bl false, H3, I3, rfl, q3⟩
 | true => exact ite_tt (chain_last (thn (hc pins s3 σ H3 _ I3 q3) fun w' s4 ⟨z', H4, I4, r4, q4⟩ => ho' pins s4 σ H4 y z' u w' Q I4 r2 r4 q4))
theorem zNA {op op' : CmpOp} {r r' : R2} (ho : OpR X (compareOp op) r) (ho' : OpR X (compareOp op') r') (ha : PE X a ta) (hb : PE X b tb) (hc : PE X c tc)
  (hm : lastMarks [op, op'] [b, c] = false := by with_unfolding_all rfl) : PT X (.Compare a [op, op'] [b, c] pos) (zGk (zGi r r' ta tb tc)) := by
 intro pins s σ H Q I h
 refine isTrue_chain (thn (ha pins s σ H _ I h) fun v s1 ⟨x, H1, I1, r1, q1⟩ => test_link (thn (hb pins s1 σ H1 _ I1 q1) fun u s2 ⟨y, H2, I2, r2, q2⟩ =>
  thn (ho pins s2 σ H2 x y v u _ I2 r1 r2 q2) fun d s3 ⟨z, H3, I3, r3, k, e, q3⟩ => ?_)) hm
 subst e
 cases r3
 refine YB ?_
 cases k with
 | false =>
  obtain ⟨k', e', q'⟩ := q3
  cases e'
  exact ite_ff ⟨H3, I3, q'⟩
 | true =>
  refine ite_tt (test_last (thn (hc pins s3 σ H3 _ I3 q3) fun w' s4 ⟨z', H4, I4, r4, q4⟩ => thn (ho' pins s4 σ H4 y z' u w' _ I4 r2 r4 q4) fun d' s5 zz => ?_))
  obtain ⟨z2, H5, I5, r5, k2, e2, q5⟩ := zz
  subst e2
  cases r5
  exact YB ⟨H5, I5, q5⟩
theorem zDv : (sizeLine : Nat) < 2 ^ 63 := by rw [Q3]; decide
theorem zMK : OpR X (binaryOp .Add) (fun x y H Q => ∃ i j, x = .str i /\ y = .str j /\ i.length + j.length <= sizeLine /\ Q (.str (i ++ j)) H) := by
 intro pins s σ H x y v u Q I rx ry h
 obtain ⟨i, j, rfl, rfl, hz, q⟩ := h
 obtain ⟨t, rfl⟩ := rx
 obtain ⟨t', rfl⟩ := ry
 exact add_str (fun t' tk => ⟨.str (i ++ j), H, I.tok _, ⟨_, rfl⟩, q⟩) hz
theorem zBU {x : V} {us : List Value} (r : Vals [x] us) : ∃ u, us = [u] /\ RelV x u := by
 cases r with
 | cons r1 r2 => cases r2; exact ⟨_, rfl, r1⟩
theorem zGo {x y : V} {us : List Value} (r : Vals [x, y] us) : ∃ u w', us = [u, w'] /\ RelV x u /\ RelV y w' := by
 cases r with
 | cons r1 r2 =>
  cases r2 with
  | cons r3 r4 => cases r4; exact ⟨_, _, rfl, r1, r3⟩
theorem zKf : zAH X (.builtin "abs") (fun xs H Q => ∃ i, xs = [.int i] /\ Q (.int (if i < 0 then -i else i)) H) := by
 intro pins s σ H xs us Q I r h
 obtain ⟨i, rfl, q⟩ := h
 obtain ⟨u, rfl, t, rfl⟩ := zBU r
 exact call_abs_int fun u tk => ⟨.int (if i < 0 then -i else i), H, I.tok _, ⟨_, rfl⟩, q⟩
theorem zKk (hc : X.calm = true) : zAH X (.builtin "max") (fun xs H Q => ∃ i j, xs = [.int i, .int j] /\ Q (.int (if j > i then j else i)) H) := by
 intro pins s σ H xs us Q I r h
 obtain ⟨i, j, rfl, q⟩ := h
 obtain ⟨u, w', rfl, ⟨t, rfl⟩, ⟨t', rfl⟩⟩ := zGo r
 refine max_two_ints (I.ok.hd hc) fun h' tk k => ⟨_, H, I.kept k, ?_, q⟩
 by_cases hj : j > i
 ·rw [if_pos hj, if_pos hj]; exact ⟨_, rfl⟩
 ·rw [if_neg hj, if_neg hj]; exact ⟨_, rfl⟩
theorem zKl (hc : X.calm = true) : zAH X (.builtin "min") (fun xs H Q => ∃ i j, xs = [.int i, .int j] /\ Q (.int (if j < i then j else i)) H) := by
 intro pins s σ H xs us Q I r h
 obtain ⟨i, j, rfl, q⟩ := h
 obtain ⟨u, w', rfl, ⟨t, rfl⟩, ⟨t', rfl⟩⟩ := zGo r
 refine min_two_ints (I.ok.hd hc) fun h' tk k => ⟨_, H, I.kept k, ?_, q⟩
 by_cases hj : j < i
 ·rw [if_pos hj, if_pos hj]; exact ⟨_, rfl⟩
 ·rw [if_neg hj, if_neg hj]; exact ⟨_, rfl⟩
end
end L2
namespace L2
open PySem PySem.Spec PyProof.Rows
section
variable {prog : Program} {w : World} {A : Around} {E : Value -> Shared -> Prop} {s : Shared} {K : PySem.W.Frag} {x dx C f : Addr} {mA : Str -> Option Value} {name : Str} {v : Value}
end
section
variable {P : Program} {w : World} {H H' : Hp} {h h' : Heap} {a C dx : Addr} {fs fs' : List (Str × V)}
end
section
variable {X : Cx} {pins : List (Addr × Obj)} {σ : St} {H : Hp} {s : Shared} {a C dx : Addr} {fs : List (Str × V)} {f : Str} {v : V} {A : Around} {E : Value -> Shared -> Prop}
end
section
variable {X : Cx} {o e value : Expr} {f : Str} {pos pos' tpos : Pos} {ta tv : TE}
end
section
variable {X : Cx} {pins : List (Addr × Obj)} {σ : St} {H : Hp} {s : Shared} {A : Around} {E : Value -> Shared -> Prop} {Q : Value -> Shared -> Prop} {c : Value} {b : Bool}
end
end L2
namespace L2
open PySem PySem.Spec PyProof.Rows
structure Room (k : Nat) (A : Around) : Prop where
 hd : A.handled = none
 dp : A.depth + 3 * k + 5 < recursionLimit
 un : A.units + 16 * k + 200 < cLine
 gd : A.guards = some []
theorem Room.mono {j k : Nat} {A : Around} (r : Room k A) (h : j <= k) : Room j A := ⟨r.hd, by have := r.dp; lia, by have := r.un; lia, r.gd⟩
theorem Room.deeper {k : Nat} {A : Around} (r : Room (k + 1) A) (env : Env) : Room k (A.deeper env) :=
 ⟨r.hd, by have := r.dp; show A.depth + 1 + 3 * k + 5 < _; lia, by have := r.un; show A.units + 3 + 16 * k + 200 < _; lia, r.gd⟩
theorem Room.depth {k : Nat} {A : Around} (r : Room k A) : A.depth < recursionLimit := by have := r.dp; lia
def tNil : TA := fun _ H Q => Q [] H
def tCons (ta : TE) (tr : TA) : TA := fun σ H Q => ta σ H fun x H1 => tr σ H1 fun xs H2 => Q (x :: xs) H2
section
variable {X : Cx} {e : Expr} {es : List Expr} {te : TE} {t : TA} {pos : Pos}
theorem zCR : PA X [] tNil := fun _ _ _ _ H Q I h => Calls.spliced_nil ⟨[], H, I, .nil, h⟩
theorem zCj (ha : PE X e te) (hr : PA X es t) (hs : starEach (e :: es) X.env = (false, eval e X.env) :: starEach es X.env := by rfl) : PA X (e :: es) (tCons te t) := by
 intro pos pins s σ H Q I h
 rw [hs]
 show wpAny _ _ (spliced ((false, eval e X.env) :: backTo pos (starEach es X.env))) _ _ s
 refine Calls.spliced_cons (thn (ha pins s σ H _ I h) fun u s1 zz => ?_)
 obtain ⟨x, H1, I1, r1, q1⟩ := zz
 exact thn (hr pos pins s1 σ H1 _ I1 q1) fun us s2 ⟨xs, H2, I2, r2, q2⟩ => ⟨x :: xs, H2, I2, .cons r1 r2, q2⟩
def tTup (t : TA) : TE := fun σ H Q => t σ H fun xs H1 => xs.length <= sizeLine /\ ∀ p, H1 p = none -> Q (.ref p) (upd H1 p (.tup xs))
def tLst (t : TA) : TE := fun σ H Q => t σ H fun xs H1 => xs.length <= sizeLine /\ ∀ p, H1 p = none -> Q (.ref p) (upd H1 p (.lst xs))
theorem zNe {x1} (h : PA X es t) : PE X (.Tuple es x1 pos) (tTup t) := by
 intro pins s σ H Q I hq
 refine wpAny_Tuple_spliced (thn (h pos pins s σ H _ I hq) fun us s1 ⟨xs, H1, I1, r, z, q⟩ => ⟨by rw [<- r.length]; exact z, ?_⟩)
 have hf : H1 s1.heap.objs.size = none := I1.hok.fresh (Qh _)
 refine ⟨.ref s1.heap.objs.size, upd H1 s1.heap.objs.size (.tup xs), I1.laid (t' := s1.toks) (fun b u e => Qc _ e) (Qh _) ?_, rfl, q _ hf⟩
 exact ⟨z, us, r, ⟨_, Qt _ rfl, rfl, _, rfl⟩⟩
theorem zIW (h : PA X es t) : PE X (.List es pos) (tLst t) := by
 intro pins s σ H Q I hq
 refine wpAny_List_spliced (thn (h pos pins s σ H _ I hq) fun us s1 ⟨xs, H1, I1, r, z, q⟩ => ⟨by rw [<- r.length]; exact z, ?_⟩)
 have hf : H1 s1.heap.objs.size = none := I1.hok.fresh (Qh _)
 refine ⟨.ref s1.heap.objs.size, upd H1 s1.heap.objs.size (.lst xs), I1.laid (t' := s1.toks) (fun b u e => Qc _ e) (Qh _) ?_, rfl, q _ hf⟩
 exact ⟨z, us, 0, r, Qt _ rfl⟩
end
abbrev Sp := List V -> Hp -> VK -> XK -> Prop
abbrev CXT := List Env -> Hp -> Shared -> XK -> Value -> Shared -> Prop
structure Env0 (P : Program) (w : World) (K : PySem.W.Frag) (mg : Str -> Option Value) (base : Heap) (A : Around) (outer : List Env) (s : Shared) (H : Hp) : Prop where
 frames : A.frames = some outer
 mod : Mod K mg base
 bs : ∀ b o, base.get? b = some o -> s.heap.get? b = some o /\ H b = none
 bsz : base.objs.size <= s.heap.objs.size
 funs : s.heap.FunFrames base outer
 frf : ∀ b ∈ frs outer, H b = none
 hok : HOk P w H s.heap
 bare : AllBare s.gens
def CE (outer : List Env) (P : Program) (w : World) (H : Hp) (s : Shared) (Q : VK) (u : Value) (s' : Shared) : Prop :=
 ∃ v H', s'.os = s.os /\ AllBare s'.gens /\ Un (frs outer) [] H H' s.heap s'.heap /\ HOk P w H' s'.heap /\ RelV v u /\ Q v H'
def CR (CX : CXT) (outer : List Env) (P : Program) (w : World) (H : Hp) (s : Shared) (Q : VK) (E : XK) (r : Result) (s' : Shared) : Prop :=
 match r with
 | .ok (.ret u) => CE outer P w H s Q u s'
 | .ok _ => False
 | .error e => CX outer H s E e s'
structure FnOk (P : Program) (w : World) (K : PySem.W.Frag) (mg : Str -> Option Value) (base : Heap) (CX : CXT) (k : Nat) (f : Addr) (fd : FuncData) (ps : List Str) (sp : Sp) : Prop where
 len : ∀ vs H Q E, sp vs H Q E -> vs.length = ps.length
 run : ∀ (A : Around) (outer : List Env) (s : Shared) (H : Hp) (args : Args) (us : List Value) (vs : List V) (Q : VK) (E : XK), Room k A -> Env0 P w K mg base A outer s H -> BindsTo s fd args (ps.zip us) -> Vals vs us -> sp vs H Q E ->
  codeAny (model P w) A (.call (.ref f) args) (CR CX outer P w H s Q E) s
theorem FnOk.imp {P : Program} {w : World} {K : PySem.W.Frag} {mg : Str -> Option Value} {base : Heap} {CX : CXT} {k : Nat} {f : Addr} {fd : FuncData} {ps : List Str} {sp sp' : Sp} (F : FnOk P w K mg base CX k f fd ps sp)
  (h : ∀ vs H Q E, sp' vs H Q E -> sp vs H Q E) : FnOk P w K mg base CX k f fd ps sp' :=
 ⟨fun vs H Q E q => F.len vs H Q E (h _ _ _ _ q), fun A outer s H args us vs Q E hr he hb hv hs => F.run A outer s H args us vs Q E hr he hb hv (h _ _ _ _ hs)⟩
section
variable {X : Cx} {pins : List (Addr × Obj)} {σ : St} {H : Hp} {s s' : Shared}
theorem Inv.env0 (I : Inv X pins σ H s) : Env0 X.prog X.w X.K X.mg X.base X.A X.stack s H :=
 ⟨I.ok.frames, I.ok.mod, I.bs, Qx I.ok.bsz I.sz, I.stack, I.stkFree, I.hok, I.bare⟩
theorem Inv.after {Q : VK} {u : Value} (I : Inv X pins σ H s) (h : CE X.stack X.prog X.w H s Q u s') : EP X pins σ Q u s' := by
 obtain ⟨v, H', os, bare, un, hok, r, q⟩ := h
 obtain ⟨hh, g, d, t, os'⟩ := s'
 obtain rfl : os' = s.os := os
 exact ⟨v, H', I.call (h' := hh) (g' := g) (d' := d) (t' := t) (ch := []) un hok bare (fun b z => absurd z (by simp)), r, q⟩
end
def tCall (sp : Sp) (dvs : List V) (E : XK) (t : TA) : TE := fun σ H Q => t σ H fun vs H1 => sp (vs ++ dvs) H1 Q E
def Binds (K : PySem.W.Frag) (fd : FuncData) (ps : List Str) (ds : List Value) : Prop :=
 ∀ (s : Shared) (us : List Value), K.In s.heap -> (us ++ ds).length = ps.length -> BindsTo s fd ⟨us, []⟩ (ps.zip (us ++ ds))
theorem Binds.all {K : PySem.W.Frag} {fd : FuncData} {ps : List Str} (h : ∀ us : List Value, us.length = ps.length -> bindArgs fd ⟨us, []⟩ = pure (ps.zip us)) : Binds K fd ps [] := fun s us _ hl => by
 rw [QW] at hl ⊢
 exact .of_eq (h us hl)
def zEN (CX : CXT) (X : Cx) (E : XK) : Prop := ∀ (pins : List (Addr × Obj)) (σ : St) (H : Hp) (s : Shared) (e : Value) (s' : Shared), Inv X pins σ H s -> CX X.stack H s E e s' -> X.xe e s'
section
variable {X : Cx} {CX : CXT} {k : Nat} {f C : Addr} {fd : FuncData} {ps : List Str} {sp : Sp} {dvs : List V} {ds : List Value} {E : XK} {x m : Str} {p pos apos : Pos} {e o : Expr} {es : List Expr} {ta : TE} {t : TA}
theorem zN0 {pins : List (Addr × Obj)} {σ : St} {H : Hp} {s : Shared} {Q : VK} {us : List Value} {vs : List V} (F : FnOk X.prog X.w X.K X.mg X.base CX k f fd ps sp) (hr : Room k X.A) (hb : Binds X.K fd ps ds) (hd : Vals dvs ds) (hx : zEN CX X E)
  (I : Inv X pins σ H s) (r : Vals vs us) (h : sp (vs ++ dvs) H Q E) : wpAny (model X.prog X.w) X.A (call (.ref f) us) (EP X pins σ Q) X.xe s := by
 have r2 : Vals (vs ++ dvs) (us ++ ds) := r.append hd
 have hl : (us ++ ds).length = ps.length := by rw [<- r2.length]; exact F.len _ _ _ _ h
 refine wpAny_call (Y1 (F.run X.A X.stack s H ⟨us, []⟩ (us ++ ds) (vs ++ dvs) Q E hr I.env0 (hb s us I.kIn hl) r2 h) fun r s' hq => ?_)
 cases r with
 | error e => exact hx pins σ H s e s' I hq
 | ok fl =>
  cases fl with
  | ret u => exact I.after hq
  | next => exact False.elim hq
  | brk => exact False.elim hq
  | cont => exact False.elim hq
theorem zM1 (F : FnOk X.prog X.w X.K X.mg X.base CX k f fd ps sp) (hr : Room k X.A) (hg : Gl X x) (hm : X.mg x = some (.ref f)) (hk : PySem.W.keepIn X.K (.ref f) = true) (hb : Binds X.K fd ps ds) (hd : Vals dvs ds) (hx : zEN CX X E)
  (ha : PA X (e :: es) t) (hdb : (x == ("__debug__" : Str)) = false := by decide) (he : starEach (e :: es) X.env = (false, eval e X.env) :: starEach es X.env := by rfl) (hpl : (backTo pos (starEach es X.env)).any (·.1) = false := by rfl) :
  PE X (.Call (.Name x p) (e :: es) [] pos) (tCall sp dvs E t) := by
 intro pins s σ H Q I h
 refine YT (zDt I hg hm ?_ hdb)
 refine PySem.W.callWith_K (h₀ := X.base) I.ok.mod.kin hk (thn (ha pos pins s σ H _ I h) fun us s1 ⟨vs, H1, I1, r, q⟩ => ⟨I1.kIn, ?_⟩) he hpl
 exact zN0 F hr hb hd hx I1 r q
end
section
variable {X : Cx} {CX : CXT} {k : Nat} {f C : Addr} {fd : FuncData} {ps ks : List Str} {sp : Sp} {E : XK} {x m : Str} {p pos apos kpos : Pos} {e o : Expr} {es : List Expr} {kws : List Keyword} {te ta : TE} {t tk : TA} {nm : Option Str}
variable {g : List Value -> List Value -> List Value} {gV : List V -> List V -> List V}
end
structure zAr (N P : List Str) (sc : Scope) : Prop where
 kind : sc.kind = .function
 co : sc.isCoroutine = false
 gen : sc.isGenerator = false
 nd : N.Nodup
 pre : N.take P.length = P
 par : ∀ x ∈ P, sc.names.lookup x = some .local ∨ sc.names.lookup x = some .cell
 nofree : ∀ y ∈ sc.names, y.2 ≠ .free
theorem zGP {kindOf : Str -> Option NameKind} {x : Str} : ∀ {binds : List (Str × Value)} {m : Str -> Option Value}, (∀ v, (x, v) ∉ binds) -> bindL kindOf binds m x = m x
 | [], _, _ => rfl
 | (n, v) :: r, m, h => by
  unfold bindL
  rw [zGP fun w hw => h w (Qe _ hw)]
  split
  ·have : x ≠ n := by rintro rfl; exact h v Qf
   simp [this]
  ·rfl
theorem zGN {kindOf : Str -> Option NameKind} {x : Str} : ∀ {binds : List (Str × Value)} {m : Str -> Option Value}, (∀ v, (x, v) ∉ binds) -> bindC kindOf binds m x = m x
 | [], _, _ => rfl
 | (n, v) :: r, m, h => by
  unfold bindC
  rw [zGN fun w hw => h w (Qe _ hw)]
  split
  ·rfl
  ·have : x ≠ n := by rintro rfl; exact h v Qf
   simp [this]
theorem zGO {kindOf : Str -> Option NameKind} {x : Str} {v : Value} : ∀ {P : List Str} {vs : List Value} {i : Nat} {m : Str -> Option Value}, P.Nodup -> P[i]? = some x -> vs[i]? = some v -> kindOf x = some .local ->
  bindL kindOf (P.zip vs) m x = some v
 | [], _, _, _, _, h, _, _ => by simp at h
 | _ :: _, [], _, _, _, _, h, _ => by simp at h
 | p :: P, w :: vs, 0, m, nd, h1, h2, hk => by
  simp at h1 h2; subst h1; subst h2
  show bindL kindOf ((p, w) :: P.zip vs) m p = _
  unfold bindL
  rw [zGP fun v hv => (Yl.mp nd).1 (List.of_mem_zip hv).1, if_pos hk]
  simp
 | p :: P, w :: vs, i + 1, m, nd, h1, h2, hk => by
  show bindL kindOf ((p, w) :: P.zip vs) m x = _
  unfold bindL
  exact zGO (i := i) (Yl.mp nd).2 (by simpa using h1) (by simpa using h2) hk
theorem zGM {kindOf : Str -> Option NameKind} {x : Str} {v : Value} : ∀ {P : List Str} {vs : List Value} {i : Nat} {m : Str -> Option Value}, P.Nodup -> P[i]? = some x -> vs[i]? = some v -> kindOf x ≠ some .local ->
  bindC kindOf (P.zip vs) m x = some v
 | [], _, _, _, _, h, _, _ => by simp at h
 | _ :: _, [], _, _, _, _, h, _ => by simp at h
 | p :: P, w :: vs, 0, m, nd, h1, h2, hk => by
  simp at h1 h2; subst h1; subst h2
  show bindC kindOf ((p, w) :: P.zip vs) m p = _
  unfold bindC
  rw [zGN fun v hv => (Yl.mp nd).1 (List.of_mem_zip hv).1, if_neg hk]
  simp
 | p :: P, w :: vs, i + 1, m, nd, h1, h2, hk => by
  show bindC kindOf ((p, w) :: P.zip vs) m x = _
  unfold bindC
  exact zGM (i := i) (Yl.mp nd).2 (by simpa using h1) (by simpa using h2) hk
def start (N : List Str) (vs : List V) : St := vs.map some ++ List.replicate (N.length - vs.length) none
def cxOf (CX : CXT) (P : Program) (w : World) (K : PySem.W.Frag) (mg : Str -> Option Value) (base : Heap) (N : List Str) (qual : Str) (scope : Scope) (f : Addr) (cd : Value) (A : Around) (outer : List Env) (s : Shared) (H : Hp) (E : XK) : Cx where
 prog := P
 w := w
 K := K
 mg := mg
 base := base
 A := A.deeper (envOfC qual scope s.heap.objs.size f cd)
 N := N
 s₀ := s
 H₀ := H
 env := envOfC qual scope s.heap.objs.size f cd
 outer := outer
 stack := envOfC qual scope s.heap.objs.size f cd :: outer
 ex := []
 calm := true
 fn := fun _ => true
 pn := []
 xe := fun e s' => wpAny (model P w) (A.deeper (envOfC qual scope s.heap.objs.size f cd)) (leaving (envOfC qual scope s.heap.objs.size f cd) e) (fun _ s'' => CX outer H s E e s'') (fun e' s'' => CX outer H s E e' s'') s'
theorem zGS {sc : Scope} {n : Nat} {x : Str} (h : sc.names.lookup x = some .cell) : ∃ c, (cellsFrom n sc.names []).lookup x = some c := by
 have q := PySem.W.cellsFrom_some sc.names n [] (.inl h)
 exact Y8.mp q
theorem zLF {CX : CXT} {P : Program} {w : World} {K : PySem.W.Frag} {mg : Str -> Option Value} {base : Heap} {N ps : List Str} {qual : Str} {scope : Scope} {f : Addr} {cd : Value} {A : Around} {outer : List Env} {s s1 : Shared} {H : Hp} {E : XK} {us : List Value} {vs : List V}
  (S : zAr N ps scope) (hd : A.handled = none) (e0 : Env0 P w K mg base A outer s H) (hl : vs.length = ps.length) (r : Vals vs us)
  (x : InCallC s s.heap.objs.size (bindL (envOfC qual scope s.heap.objs.size f cd).kindOf (ps.zip us) fun _ => none) (cellsFrom (s.heap.objs.size + 1) scope.names []) (bindC (envOfC qual scope s.heap.objs.size f cd).kindOf (ps.zip us) fun _ => none) s1) :
  Inv (cxOf CX P w K mg base N qual scope f cd A outer s H E) [] (start N vs) H s1 := by
 have hpl : ps.length <= N.length := by have := congrArg List.length S.pre; rw [Q0] at this; lia
 obtain ⟨h1, tk, rfl, hk⟩ := x.done
 have noA : ∀ b : Addr, b ∉ (cxOf CX P w K mg base N qual scope f cd A outer s H E).ex := fun b z => absurd (show b ∈ ([] : List Addr) from z) (by simp)
 refine ⟨⟨e0.mod, S.kind, rfl, rfl, Qh _, fun y z c h1 h2 => ?_, fun y hy => ?_, fun y c _ h => ?_, fun _ => hd, Around.frames_deeper e0.frames, .inr ⟨rfl, rfl⟩, fun b z => absurd z (noA b), e0.bs, e0.bsz, fun b _ _ => noA b, fun b z => absurd z (noA b), e0.funs, e0.frf⟩,
  rfl, e0.bare, Un.kept hk, ⟨_, x.toInCall.ns, fun i y v h1 h2 h3 => ?_⟩, fun y c h => ⟨_, x.cell y c h⟩, e0.hok.fresh (Qh _), fun y c h => ?_, fun p hp => absurd (show p ∈ ([] : List (Addr × Obj)) from hp) (by simp), e0.hok.kept hk, ?_⟩
 ·exact name_of_addr x.apart (PySem.mem_of_lookup h1) (PySem.mem_of_lookup h2)
 ·have hy : scope.names.lookup y = some .cell ∨ scope.names.lookup y = some .free := hy
  rcases hy with hy | hy
  ·exact zGS hy
  ·exact absurd rfl (S.nofree _ (PySem.mem_of_lookup hy))
 ·exact YA (x.above y c (PySem.mem_of_lookup h))
 ·have hi : i < vs.length := by
   unfold start at h2
   by_cases hi : i < vs.length
   ·exact hi
   ·rw [YC (by simpa using hi)] at h2
    rw [Ja] at h2
    split at h2 <;> cases h2
  have ha : vs[i]? = some v := by
   unfold start at h2
   rw [YE (by simpa using hi), QP] at h2
   cases e : vs[i]? with
   | none => rw [e] at h2; cases h2
   | some a => rw [e] at h2; cases h2; rfl
  obtain ⟨u, hu, rv⟩ := r.get ha
  have hp : ps[i]? = some y := by
   rw [<- S.pre, List.getElem?_take_of_lt (by lia)]; exact h1
  have ndP : ps.Nodup := by rw [<- S.pre]; exact S.nd.sublist (List.take_sublist _ _)
  refine ⟨u, rv, ?_⟩
  rcases S.par y (QL hp) with k | k
  ·exact .inl ⟨k, zGO ndP hp hu k⟩
  ·obtain ⟨c, e⟩ := zGS (n := s.heap.objs.size + 1) k
   refine .inr ⟨.inl k, c, e, ?_⟩
   have q := x.cell y c e
   rw [zGM ndP hp hu (by show scope.names.lookup y ≠ _; rw [k]; decide)] at q
   exact q
 ·exact e0.hok.fresh (YA (x.above y c (PySem.mem_of_lookup h)))
 ·unfold start
  show _ = N.length
  rw [Ql, Qj, List.length_replicate]
  lia
theorem zHz {CX : CXT} {P : Program} {w : World} {K : PySem.W.Frag} {mg : Str -> Option Value} {base : Heap} {k : Nat} {f : Addr} {name qual : Str} {params : Arguments} {body : List Stmt} {scope : Scope} {dV kV doc pm cdv ct oc : Value} {an od : Option Addr}
  {osl : Array (Option Value)} {N ps : List Str} {sp : Sp} (lk : K.lookup f = some ⟨oc, od, .func (PySem.W.fnOf name qual params body scope dV kV doc pm an cdv ct), osl⟩) (hcd : PySem.W.codeIn K cdv qual = true) (S : zAr N ps scope)
  (len : ∀ vs H Q E, sp vs H Q E -> vs.length = ps.length)
  (hbody : ∀ (A : Around) (outer : List Env) (s : Shared) (H : Hp) (vs : List V) (Q : VK) (E : XK), Room k (A.deeper (envOfC qual scope s.heap.objs.size f cdv)) -> sp vs H Q E ->
   ∃ t, PSs (cxOf CX P w K mg base N qual scope f cdv A outer s H E) body t /\ t { nx := fun _ H' => Q .non H', rt := Q } (start N vs) H) :
  FnOk P w K mg base CX (k + 1) f (PySem.W.fnOf name qual params body scope dV kV doc pm an cdv ct) ps sp := by
 refine ⟨len, fun A outer s H args us vs Q E hr e0 hb r hsp => ?_⟩
 have hl := len _ _ _ _ hsp
 have KX : K.In s.heap := e0.mod.kin.keeps fun b o e => (e0.bs b o e).1
 have lim : s.heap.NoLimit := e0.mod.nolimit.keeps fun b o e => (e0.bs b o e).1
 have hkind : ∀ y ∈ ps.zip us, scope.names.lookup y.1 = some .local ∨ (scope.names.lookup y.1 = some .cell /\ ((cellsFrom (s.heap.objs.size + 1) scope.names []).lookup y.1).isSome = true) := fun zz hy => by
  obtain ⟨n, v⟩ := zz
  rcases S.par n (List.of_mem_zip hy).1 with q | q
  ·exact .inl q
  ·exact .inr ⟨q, PySem.W.cellsFrom_some _ _ _ (.inl q)⟩
 refine codeAny_call_function hr.depth (KX _ _ lk) rfl S.co S.gen rfl (PySem.W.codeRec_of KX hcd) (hb _ _ _ _ ?_)
 refine wpAny_newFunctionEnv_cells S.kind hkind fun env he s1 x => ?_
 subst he
 refine ⟨lim.keeps x.toInCall.keep, codeAny_func ?_⟩
 obtain ⟨t, ht, hq⟩ := hbody A outer s H vs Q E (hr.deeper _) hsp
 have I : Inv (cxOf CX P w K mg base N qual scope f cdv A outer s H E) [] (start N vs) H s1 := zLF S hr.hd e0 hl r x
 refine YK (ht [] s1 (start N vs) H _ I hq) (fun fl s' hs => ?_) fun e s' hs => hs
 have fin : ∀ {σ' : St} {H' : Hp} {v : V} {u : Value}, Inv (cxOf CX P w K mg base N qual scope f cdv A outer s H E) [] σ' H' s' -> RelV v u -> Q v H' -> CE outer P w H s Q u s' :=
  fun {σ' H' v u} J rv q => ⟨v, H', J.os, J.bare, J.base, J.hok, rv, q⟩
 cases fl with
 | ret u =>
  obtain ⟨v, σ', H', J, rv, q⟩ := hs
  exact fin J rv q
 | next =>
  obtain ⟨σ', H', J, q⟩ := hs
  exact fin (v := V.non) (u := Value.none) J rfl q
 | brk =>
  obtain ⟨_, _, _, q⟩ := hs
  exact False.elim q
 | cont =>
  obtain ⟨_, _, _, q⟩ := hs
  exact False.elim q
end L2
namespace L2
open PySem PySem.Spec PyProof.Rows
section
variable {X : Cx} {x : Str} {p pos : Pos} {e : Expr} {es : List Expr} {t : TA} {id T : String} {r : List V -> Hp -> VK -> Prop}
def tCB (r : List V -> Hp -> VK -> Prop) (t : TA) : TE := fun σ H Q => t σ H fun vs H1 => r vs H1 Q
theorem zIR (hc : zAH X (.builtin id) r) (hg : Gl X x) (hm : X.mg x = none) (hv : bootBuiltins x = some (.builtin id)) (ha : PA X (e :: es) t) (hn : x ≠ "__name__" := by decide) (hdb : (x == ("__debug__" : Str)) = false := by decide)
  (he : starEach (e :: es) X.env = (false, eval e X.env) :: starEach es X.env := by rfl) (hpl : (backTo pos (starEach es X.env)).any (·.1) = false := by rfl) : PE X (.Call (.Name x p) (e :: es) [] pos) (tCB r t) := by
 intro pins s σ H Q I h
 refine YT (zCc I hg hm hv ?_ hn hdb)
 exact PyProof.Rows.callWith_builtin1 (thn (ha pos pins s σ H _ I h) fun us s1 ⟨vs, H1, I1, r1, q1⟩ => hc pins s1 σ H1 vs us Q I1 r1 q1) he hpl
theorem zIS (hc : zAH X (.type T) r) (hg : Gl X x) (hm : X.mg x = none) (hv : bootBuiltins x = some (.type T)) (ha : PA X (e :: es) t) (hn : x ≠ "__name__" := by decide) (hdb : (x == ("__debug__" : Str)) = false := by decide)
  (he : starEach (e :: es) X.env = (false, eval e X.env) :: starEach es X.env := by rfl) (hpl : (backTo pos (starEach es X.env)).any (·.1) = false := by rfl) : PE X (.Call (.Name x p) (e :: es) [] pos) (tCB r t) := by
 intro pins s σ H Q I h
 refine YT (zCc I hg hm hv ?_ hn hdb)
 exact YR (thn (ha pos pins s σ H _ I h) fun us s1 ⟨vs, H1, I1, r1, q1⟩ => hc pins s1 σ H1 vs us Q I1 r1 q1) he hpl
end
end L2
namespace HT
open PySem PyProof.Rows
def lexLt : List Int -> List Int -> Bool
 | [], [] => false
 | [], _ :: _ => true
 | _ :: _, [] => false
 | x :: xs, y :: ys => if x = y then lexLt xs ys else decide (x < y)
theorem lexLt_cons (x y : Int) (xs ys : List Int) : lexLt (x :: xs) (y :: ys) = if x = y then lexLt xs ys else decide (x < y) := rfl
theorem rcLt_int (A : Around) (s : Shared) (a : Int) (t : Tok) (c : Int) (u : Tok) (prog : Program) (w : World) (E : Value -> Shared -> Prop) (Q : Value -> Shared -> Prop) (h : Q (.bool (decide (a < c))) s) :
  wpAny (model prog w) A (richCompare .Lt (.int a t) (.int c u)) Q E s :=
 (PyProof.Rows.lt_int h : wpAny (model prog w) A (compareOp .Lt (.int a t) (.int c u)) Q E s)
section
open PySem.SeqAt
open PySem.AutoSeq1 (wpAny_loadPart')
open PySem.MeetsSeq PySem.MeetsSeq2 PySem.MeetsSeq3
end
section
variable {prog : Program} {w : World} {A : Around} {E : Value -> Shared -> Prop} {s : Shared}
theorem cat_tup {t b : Addr} {vs ws : List Value} {Q : Value -> Shared -> Prop} (ht : IsTup s.heap t vs.toArray) (hb : IsTup s.heap b ws.toArray) (hv : vs ≠ [])
  (h1 : ws = [] -> Q (.ref t) s) (h2 : ws ≠ [] -> Q (.ref s.heap.objs.size) { s with heap := s.heap.push { cls := .type "tuple", data := .seq (vs ++ ws).toArray } })
  (hsz : vs.length + ws.length <= sizeLine) : wpAny (model prog w) A (binaryOp .Add (.ref t) (.ref b)) Q E s := by
 obtain ⟨⟨cls, dd, data, sl⟩, ho, hc, n, hd⟩ := id ht
 obtain ⟨⟨cls2, dd2, data2, sl2⟩, ho2, hc2, n2, hd2⟩ := id hb
 simp only at hc hd hc2 hd2
 subst hc hd hc2 hd2
 have e : vs.toArray ++ ws.toArray = (vs ++ ws).toArray := by simp
 by_cases hw : ws = []
 ·exact concat_meets ⟨_, ho, rfl⟩ ⟨_, ho2, rfl⟩ noFill_tuple_add seq_tuple_add PySem.F.slot_tuple_add PySem.F.entry_tuple_add (PySem.F.args_tuple_add_2 _ _)
   (tuple_addW1 t b vs.toArray ws.toArray n n2 dd dd2 sl sl2 (by simpa using hv) (by simp [hw])) ⟨ho, ho2, h1 hw⟩
 ·refine concat_meets ⟨_, ho, rfl⟩ ⟨_, ho2, rfl⟩ noFill_tuple_add seq_tuple_add PySem.F.slot_tuple_add PySem.F.entry_tuple_add (PySem.F.args_tuple_add_2 _ _)
   (tuple_addW2 t b vs.toArray ws.toArray n n2 dd dd2 sl sl2 (by simpa using hv) (by simpa using hw) (by rw [QF, QF]; exact hsz)) ⟨ho, ho2, ?_⟩
  rw [e]
  exact h2 hw
def sIx (n d : Nat) : Option Int -> Nat
 | none => d
 | some v => if v < 0 then (v + (n : Int)).toNat else min v.toNat n
theorem sIx_none (n d : Nat) : sIx n d none = d := rfl
theorem sIx_nat (n d k : Nat) : sIx n d (some (k : Int)) = min k n := by
 show (if (k : Int) < 0 then ((k : Int) + (n : Int)).toNat else min (k : Int).toNat n) = min k n
 rw [if_neg (by lia), Jo]
theorem zN4 (n d : Nat) (hd : d <= n) (o : Option Int) : sIx n d o <= n := by
 cases o with
 | none => exact hd
 | some v =>
  show (if v < 0 then (v + (n : Int)).toNat else min v.toNat n) <= n
  by_cases hv : v < 0
  ·rw [if_pos hv]; lia
  ·rw [if_neg hv]; exact Nat.min_le_right _ _
theorem sb1 {i : Int} {n : Nat} (h : i < 0) : max 0 (min (i + (n : Int)) (n : Int)) = (((i + (n : Int)).toNat : Nat) : Int) := by
 rw [Int.min_eq_left (by lia), Int.max_comm, <- Int.ofNat_toNat]
theorem sb4 {i : Int} {n : Nat} (h : ¬ i < 0) : min i (n : Int) = ((min i.toNat n : Nat) : Int) := by
 obtain ⟨k, rfl⟩ := Int.eq_ofNat_of_zero_le (Int.not_lt.mp h)
 rw [Jo]
 by_cases c : k <= n
 ·rw [Nat.min_eq_left c, Int.min_eq_left (Int.ofNat_le.mpr c)]
 ·rw [Nat.min_eq_right (Nat.le_of_not_le c), Int.min_eq_right (Int.ofNat_le.mpr (Nat.le_of_not_le c))]
theorem sb2 {i : Int} {n : Nat} (h : ¬ i < 0) : max 0 (min i (n : Int)) = ((min i.toNat n : Nat) : Int) := by
 rw [sb4 h, Int.max_eq_right (YU _)]
theorem sb3 {i : Int} {n : Nat} : max (i + (n : Int)) 0 = (((i + (n : Int)).toNat : Nat) : Int) := (Int.ofNat_toNat _).symm
theorem zGT (v : Int) (n d : Nat) : (if v < 0 then max (v + (n : Int)) 0 else min v (n : Int)) = ((sIx n d (some v) : Nat) : Int) := by
 show (if v < 0 then max (v + (n : Int)) 0 else min v (n : Int)) = (((if v < 0 then (v + (n : Int)).toNat else min v.toNat n) : Nat) : Int)
 by_cases hv : v < 0
 ·simp only [if_pos hv]; exact sb3
 ·simp only [if_neg hv]; exact sb4 hv
theorem zJY (lo hi : Option Int) (n : Nat) : Builtin.Slice.sliceAdjust lo hi 1 (n : Int) = (((sIx n 0 lo : Nat) : Int), ((sIx n n hi : Nat) : Int)) := by
 have h1 : ¬ ((1 : Int) < 0) := by lia
 unfold Builtin.Slice.sliceAdjust
 simp only [h1, if_false]
 refine Jk ?_ ?_
 ·cases lo with
  | none => rfl
  | some v => exact zGT v n 0
 ·cases hi with
  | none => rfl
  | some v => exact zGT v n n
theorem zNp (i j : Nat) : Builtin.Slice.slicePlaces (i : Int) (j : Int) 1 = j - i := by
 unfold Builtin.Slice.slicePlaces
 have h1 : (1 : Int) > 0 := by lia
 simp only [h1, if_true, Int.ediv_one]
 split <;> lia
theorem zJu {v : Value} {o : Option Int} {Q : Option Int -> Shared -> Prop} (p : IsPart v o) (h : Q o s) : wpAny (model prog w) A (Builtin.Slice.slicePartIndex v) Q E s := by
 cases p with
 | none => exact slicePart_none h
 | int i t => exact slicePart_int h
theorem zJt {sl : Addr} {vl vu : Value} {lo hi : Option Int} {n : Nat} {Q : Int × Int × Nat -> Shared -> Prop} (hs : s.heap.IsSliceOf sl vl vu .none) (pl : IsPart vl lo) (pu : IsPart vu hi)
  (h : Q (((sIx n 0 lo : Nat) : Int), 1, sIx n n hi - sIx n 0 lo) s) : wpAny (model prog w) A (Builtin.Slice.sliceApplied (.ref sl) (pure (n : Int))) Q E s := by
 obtain ⟨os, hos, hcs, hds⟩ := id hs
 unfold Builtin.Slice.sliceApplied Builtin.Slice.sliceFields
 refine Qa (Qa (Y2 hos hds (x := vl) rfl (Qa (Y2 hos hds (x := vu) rfl (Qa (Y2 hos hds (x := .none) rfl (Qb ?_)))))))
 refine Qa (slicePart_none ?_)
 show wpAny _ _ (if ((1 : Int) == 0) = true then _ else _) _ _ s
 rw [if_neg (by decide)]
 refine Qa (zJu pl (Qa (zJu pu (Qa (Qb ?_)))))
 show wpAny _ _ (match Builtin.Slice.sliceAdjust lo hi 1 (n : Int) with | (lo, hi) => pure (lo, (1 : Int), Builtin.Slice.slicePlaces lo hi 1)) _ _ s
 rw [zJY lo hi n]
 show wpAny _ _ (pure (((sIx n 0 lo : Nat) : Int), (1 : Int), Builtin.Slice.slicePlaces ((sIx n 0 lo : Nat) : Int) ((sIx n n hi : Nat) : Int) 1)) _ _ s
 rw [zNp]
 exact Qb h
theorem zNm (xs : Array Value) (i k : Nat) : ((List.range k).filterMap fun (m : Nat) => xs[((i : Int) + (m : Int) * 1).toNat]?).toArray = ((xs.toList.drop i).take k).toArray := by
 have e : (fun (m : Nat) => xs[((i : Int) + (m : Int) * 1).toNat]?) = fun m => xs[i + m]? := by
  funext m
  have : ((i : Int) + (m : Int) * 1).toNat = i + m := by lia
  rw [this]
 rw [e]
 have := pick_run xs i k
 rw [List.filterMap_map] at this
 have e2 : ((fun x => xs[x]?) ∘ fun x => i + x) = fun m => xs[i + m]? := rfl
 rw [e2] at this
 rw [this]
theorem getItem_tuple_cut {t sl : Addr} {items : Array Value} {vl vu : Value} {lo hi : Option Int} {Q : Value -> Shared -> Prop} (ht : IsTup s.heap t items) (hs : s.heap.IsSliceOf sl vl vu .none) (pl : IsPart vl lo) (pu : IsPart vu hi)
  (hw : ¬ (sIx items.size 0 lo = 0 /\ sIx items.size items.size hi = items.size))
  (h : Q (.ref s.heap.objs.size) { s with heap := s.heap.push { cls := .type "tuple", data := .seq ((items.toList.drop (sIx items.size 0 lo)).take (sIx items.size items.size hi - sIx items.size 0 lo)).toArray } })
  (hsz : items.size <= sizeLine) : wpAny (model prog w) A (getItem (.ref t) (.ref sl)) Q E s := by
 have htake : sizeOk (.seq ((items.toList.drop (sIx items.size 0 lo)).take (sIx items.size items.size hi - sIx items.size 0 lo)).toArray) := by
  show ((items.toList.drop (sIx items.size 0 lo)).take (sIx items.size items.size hi - sIx items.size 0 lo)).toArray.size <= sizeLine
  rw [QF, Q0, Yw, Qr]
  lia
 have hj : sIx items.size items.size hi <= items.size := zN4 _ _ (Qh _) hi
 obtain ⟨os, hos, hcs, hds⟩ := id hs
 have hTs : s.TypeIs (.ref sl) "slice" := ⟨os, hos, hcs⟩
 unfold getItem
 try with_reducible refine Q8 ?_
 first | refine Qa (Qb ?_) | skip
 refine Qa (wpAny_sequenceKey ht.typeIs (by decide) ?_)
 refine Qa (Yx (name := Str.ofString "__getitem__") ht.typeIs YD
  (Yh YD ht.typeIs entry_tuple_getitem ?_ (args_tuple_getitem _ _)))
 show wpAny _ _ (Builtin.Tuple.tupleItemsOf (.ref t) >>= _) _ _ s
 refine Qa (tupleItemsOf_ ht ?_)
 refine Qa (Y3 hTs ?_)
 rw [if_pos (by decide)]
 refine Qa (zJt hs pl pu ?_)
 have hno : ¬ ((((sIx items.size 0 lo : Nat) : Int) == 0 && (1 : Int) == 1 && (sIx items.size items.size hi - sIx items.size 0 lo) == items.size) = true) := by
  intro q
  rw [QH, QH] at q
  have q1 : ((sIx items.size 0 lo : Nat) : Int) = 0 := Yj q.1.1
  have q2 : sIx items.size items.size hi - sIx items.size 0 lo = items.size := Yj q.2
  exact hw ⟨by lia, by lia⟩
 show wpAny _ _ (if (((sIx items.size 0 lo : Nat) : Int) == 0 && (1 : Int) == 1 && (sIx items.size items.size hi - sIx items.size 0 lo) == items.size) = true then _ else _) _ _ s
 rw [if_neg hno, zNm]
 first
  | exact Qa (m := Builtin.Tuple.tupleExact _) (Yd (Qb ⟨_, rfl, Qb h⟩) htake)
  | exact Qa (m := Builtin.Tuple.tupleExact _) (Yd (Qa (Qb (Qb ⟨_, rfl, Qb h⟩))) htake)
  | exact Qa (Qa (m := Builtin.Tuple.tupleExact _) (Yd (Qb (Qb ⟨_, rfl, Qb h⟩)) htake))
  | exact Qa (Qa (m := Builtin.Tuple.tupleExact _) (Yd (Qb ⟨_, rfl, Qb h⟩) htake))
end
end HT
namespace L2
open PySem PySem.Spec PyProof.Rows
abbrev TO := St -> Hp -> (Option Int -> Hp -> Prop) -> Prop
def PO (X : Cx) (e : Option Expr) (t : TO) : Prop :=
 ∀ (pins : List (Addr × Obj)) (s : Shared) (σ : St) (H : Hp) (Q : Option Int -> Hp -> Prop), Inv X pins σ H s -> t σ H Q ->
  wpAny (model X.prog X.w) X.A (evalPart e X.env) (fun u s' => ∃ o H', Inv X pins σ H' s' /\ IsPart u o /\ Q o H') X.xe s
def zOt : TO := fun _ H Q => Q none H
def tPart (t : TE) : TO := fun σ H Q => t σ H fun x H1 => ∃ i, x = .int i /\ Q (some i) H1
section
variable {X : Cx} {e : Expr} {te : TE} {lo hi : Option Expr} {tl th : TO} {pos p2 : Pos}
theorem zNr : PO X none zOt := by
 intro pins s σ H Q I h
 rw [evalPart_none]
 exact Qb ⟨none, H, I, .none, h⟩
theorem zNs (h : PE X e te) : PO X (some e) (tPart te) := by
 intro pins s σ H Q I hw
 rw [evalPart_some]
 refine thn (h pins s σ H _ I hw) fun u s1 zz => ?_
 obtain ⟨x, H1, I1, r1, q1⟩ := zz
 obtain ⟨i, rfl, q⟩ := q1
 obtain ⟨t, rfl⟩ := r1
 exact ⟨some i, H1, I1, .int i t, q⟩
def SlR (X : Cx) (r : V -> Option Int -> Option Int -> Hp -> VK -> Prop) : Prop :=
 ∀ (pins : List (Addr × Obj)) (s : Shared) (σ : St) (H : Hp) (x : V) (v vl vu : Value) (lo hi : Option Int) (sl : Addr) (Q : VK), Inv X pins σ H s -> RelV x v -> s.heap.IsSliceOf sl vl vu .none -> IsPart vl lo -> IsPart vu hi -> r x lo hi H Q ->
  ∃ T id, typeLookup (.type T) "__getitem__" = pure (some (.builtin id)) /\ s.TypeIs v T /\ wpAny (model X.prog X.w) X.A (getItem v (.ref sl)) (EP X pins σ Q) X.xe s
theorem SlR.or {r r' : V -> Option Int -> Option Int -> Hp -> VK -> Prop} (h : SlR X r) (h' : SlR X r') : SlR X (fun x lo hi H Q => r x lo hi H Q ∨ r' x lo hi H Q) := by
 intro pins s σ H x v vl vu lo hi sl Q I rx hs pl pu q
 rcases q with q | q
 ·exact h pins s σ H x v vl vu lo hi sl Q I rx hs pl pu q
 ·exact h' pins s σ H x v vl vu lo hi sl Q I rx hs pl pu q
def tSl (r : V -> Option Int -> Option Int -> Hp -> VK -> Prop) (te : TE) (tl th : TO) : TE := fun σ H Q => te σ H fun x H1 => tl σ H1 fun l H2 => th σ H2 fun u H3 => r x l u H3 Q
theorem zNd {r : V -> Option Int -> Option Int -> Hp -> VK -> Prop} (hr : SlR X r) (he : PE X e te) (hl : PO X lo tl) (hu : PO X hi th) : PE X (.Subscript e (.Slice lo hi none p2) pos) (tSl r te tl th) := by
 intro pins s σ H Q I h
 refine Subscript_ (thn (he pins s σ H _ I h) fun v s1 zz => ?_)
 obtain ⟨x, H1, I1, r1, q1⟩ := zz
 refine wpAny_Slice (thn (hl pins s1 σ H1 _ I1 q1) fun vl s2 ⟨l, H2, I2, pl, q2⟩ => thn (hu pins s2 σ H2 _ I2 q2) fun vu s3 zz => ?_)
 obtain ⟨u, H3, I3, pu, q3⟩ := zz
 rw [evalPart_none]
 refine Qb ?_
 have I4 : Inv X pins σ H3 { s3 with heap := s3.heap.push { cls := .type "slice", data := .fields #[vl, vu, .none] } } := I3.kept (t' := s3.toks) fun b ob q => Qc _ q
 obtain ⟨T, id, hT, ht, hg⟩ := hr pins { s3 with heap := s3.heap.push { cls := .type "slice", data := .fields #[vl, vu, .none] } } σ H3 x v vl vu l u s3.heap.objs.size Q I4 r1 (Heap.IsSliceOf.new ..) pl pu q3
 show wpAny (model X.prog X.w) X.A (subscriptTail e (.Slice lo hi none p2) v (.ref s3.heap.objs.size)) (EP X pins σ Q) X.xe { s3 with heap := s3.heap.push { cls := .type "slice", data := .fields #[vl, vu, .none] } }
 exact tail_any (ops := [.ref s3.heap.objs.size, v]) ht hT hg (by with_unfolding_all rfl)
def cutV (xs : List V) (lo hi : Option Int) : List V := (xs.drop (HT.sIx xs.length 0 lo)).take (HT.sIx xs.length xs.length hi - HT.sIx xs.length 0 lo)
theorem zGY (xs : List V) (lo hi : Option Int) : (cutV xs lo hi).length <= xs.length := by
 unfold cutV
 rw [Q0, Yw]
 lia
def rSlT (K : PySem.W.Frag) : V -> Option Int -> Option Int -> Hp -> VK -> Prop := fun x lo hi H Q => ∃ a xs, x = .ref a /\ SqT K H a xs /\
 ¬ (HT.sIx xs.length 0 lo = 0 /\ HT.sIx xs.length xs.length hi = xs.length) /\ ∀ p, H p = none -> Q (.ref p) (upd H p (.tup (cutV xs lo hi)))
theorem zOb : SlR X (rSlT X.K) := by
 intro pins s σ H x v vl vu lo hi sl Q I rx hs pl pu h
 obtain ⟨a, xs, rfl, hx, hw, q⟩ := h
 cases rx
 obtain ⟨its, r, ht, hz⟩ := I.tuple hx
 have hlen : its.toArray.size = xs.length := by rw [QF]; exact r.length.symm
 refine ⟨"tuple", _, YD.lookup, ht.typeIs, ?_⟩
 refine HT.getItem_tuple_cut ht hs pl pu (by rw [hlen]; exact hw) ?_ (by rw [hlen]; exact hz)
 rw [hlen]
 refine ⟨.ref s.heap.objs.size, _, I.laid (t' := s.toks) (o := .tup (cutV xs lo hi)) (fun b ob q => Qc _ q) (Qh _) ?_, rfl, q _ (I.hok.fresh (Qh _))⟩
 exact ⟨Qx (zGY xs lo hi) hz, _, (r.drop (HT.sIx xs.length 0 lo)).take (HT.sIx xs.length xs.length hi - HT.sIx xs.length 0 lo), IsTup.new _ _⟩
def rCatT (K : PySem.W.Frag) : R2 := fun x y H Q => ∃ a b xs ys, x = .ref a /\ y = .ref b /\ SqT K H a xs /\ SqT K H b ys /\ xs ≠ [] /\ xs.length + ys.length <= sizeLine /\
 (ys = [] -> Q (.ref a) H) /\ (ys ≠ [] -> ∀ p, H p = none -> Q (.ref p) (upd H p (.tup (xs ++ ys))))
theorem Vals.nil_iff {xs : List V} {us : List Value} (r : Vals xs us) : us = [] ↔ xs = [] := by
 cases r with
 | nil => simp
 | cons _ _ => simp
theorem zML : OpR X (binaryOp .Add) (rCatT X.K) := by
 intro pins s σ H x y v u Q I rx ry h
 obtain ⟨a, b, xs, ys, rfl, rfl, ha, hb, hx, hz, q1, q2⟩ := h
 cases rx
 cases ry
 obtain ⟨its, r1, p1, _⟩ := I.tuple ha
 obtain ⟨its2, r2, p2, _⟩ := I.tuple hb
 refine HT.cat_tup p1 p2 (fun z => hx (r1.nil_iff.mp z)) (fun z => ⟨.ref a, H, I, rfl, q1 (r2.nil_iff.mp z)⟩) (fun z => ?_) (by rw [<- r1.length, <- r2.length]; exact hz)
 refine ⟨.ref s.heap.objs.size, _, I.laid (t' := s.toks) (o := .tup (xs ++ ys)) (fun b ob q => Qc _ q) (Qh _) ?_, rfl, q2 (fun w => z (r2.nil_iff.mpr w)) _ (I.hok.fresh (Qh _))⟩
 exact ⟨by rw [Ql]; exact hz, _, r1.append r2, IsTup.new _ _⟩
end
end L2
namespace L2
open PySem PySem.Spec PyProof.Rows
def ixN (n : Nat) (i : Int) : Option Nat := if 0 <= i then (if i < n then some i.toNat else none) else if -(n : Int) <= i then some (i + n).toNat else none
def atI {α : Type} (xs : List α) (i : Int) : Option α := (ixN xs.length i).bind fun j => xs[j]?
theorem zLR {n : Nat} {i : Int} {j : Nat} (h : ixN n i = some j) : seqIndex? i n = some j /\ j < n /\ -(n : Int) <= i /\ i < n := by
 unfold ixN at h
 by_cases h0 : 0 <= i
 ·rw [if_pos h0] at h
  by_cases h1 : i < n
  ·rw [if_pos h1] at h
   have e : i.toNat = j := QG h
   exact ⟨by rw [seqIndex_of h0 h1, e], by lia, by lia, h1⟩
  ·rw [if_neg h1] at h; cases h
 ·rw [if_neg h0] at h
  by_cases h1 : -(n : Int) <= i
  ·rw [if_pos h1] at h
   have e : (i + n).toNat = j := QG h
   exact ⟨by rw [seqIndex_neg (by lia) h1, e], by lia, h1, by lia⟩
  ·rw [if_neg h1] at h; cases h
theorem zEO {α : Type} {xs : List α} {i : Int} {v : α} (h : atI xs i = some v) : ∃ j, seqIndex? i xs.length = some j /\ xs[j]? = some v /\ j < xs.length /\ -(xs.length : Int) <= i /\ i < xs.length := by
 unfold atI at h
 cases e : ixN xs.length i with
 | none => rw [e] at h; cases h
 | some j =>
  rw [e] at h
  obtain ⟨h1, h2, h3, h4⟩ := zLR e
  exact ⟨j, h1, h, h2, h3, h4⟩
def zDe (b : Expr) : Prop := ∀ o i, subscripted b false o i = operate [o, i] (getItem o i)
def IxR (X : Cx) (r : R2) : Prop :=
 ∀ (value slice : Expr) (pins : List (Addr × Obj)) (s : Shared) (σ : St) (H : Hp) (x y : V) (v u : Value) (Q : VK), Inv X pins σ H s -> RelV x v -> RelV y u -> r x y H Q ->
  subscripted slice false v u = operate [v, u] (getItem v u) -> wpAny (model X.prog X.w) X.A (subscriptTail value slice v u) (EP X pins σ Q) X.xe s
def MtR (X : Cx) (id : String) (r : V -> List V -> Hp -> VK -> Prop) : Prop :=
 ∀ (pins : List (Addr × Obj)) (s : Shared) (σ : St) (H : Hp) (x : V) (xs : List V) (v : Value) (us : List Value) (Q : VK), Inv X pins σ H s -> RelV x v -> Vals xs us -> r x xs H Q ->
  wpAny (model X.prog X.w) X.A (call (.builtin id) (v :: us)) (EP X pins σ Q) X.xe s
section
variable {X : Cx} {a b : Expr} {ta tb : TE} {pos : Pos}
theorem IxR.or {r r' : R2} (h : IxR X r) (h' : IxR X r') : IxR X (fun x y H Q => r x y H Q ∨ r' x y H Q) := by
 intro value slice pins s σ H x y v u Q I rx ry q hs
 rcases q with q | q
 ·exact h value slice pins s σ H x y v u Q I rx ry q hs
 ·exact h' value slice pins s σ H x y v u Q I rx ry q hs
theorem zEp {r : R2} (hr : IxR X r) (ha : PE X a ta) (hb : PE X b tb) (hs : zDe b) : PE X (.Subscript a b pos) (tOp r ta tb) := by
 intro pins s σ H Q I h
 exact Subscript_ (binT ha hb I h fun v u s2 x y H2 I2 rx ry q => hr a b pins s2 σ H2 x y v u Q I2 rx ry q (hs _ _))
def rIxL (K : PySem.W.Frag) : R2 := fun x y H Q => ∃ p xs i v, x = .ref p /\ y = .int i /\ SqL K H p xs /\ atI xs i = some v /\ Q v H
def rIxT (K : PySem.W.Frag) : R2 := fun x y H Q => ∃ p xs i v, x = .ref p /\ y = .int i /\ SqT K H p xs /\ atI xs i = some v /\ Q v H
def rIxS : R2 := fun x y H Q => ∃ z i c, x = .str z /\ y = .int i /\ z.length <= sizeLine /\ atI z.cps.toList i = some c /\ Q (.str ⟨#[c]⟩) H
theorem zLS : IxR X (rIxL X.K) := by
 intro value slice pins s σ H x y v u Q I rx ry h hs
 obtain ⟨p, xs, i, z, rfl, rfl, hq, he, q⟩ := h
 cases rx
 obtain ⟨t, rfl⟩ := ry
 obtain ⟨its, r, pl, hz⟩ := I.list hq
 obtain ⟨j, h1, h2, h3, h4, h5⟩ := zEO he
 obtain ⟨w, ew, rw'⟩ := r.get h2
 have hl := r.length
 have hn := zDv
 have fin : EP X pins σ Q w s := ⟨z, H, I, rw', q⟩
 by_cases h0 : 0 <= i
 ·have hj : i.toNat = j := by
   rw [seqIndex_of h0 h5] at h1
   exact QG h1
  exact item_listR pl.isList h0 (by lia) (by rw [hj]; simpa using ew) fin hs
 ·have hj : (i + (its.toArray.size : Int)).toNat = j := by
   rw [seqIndex_neg (by lia) h4] at h1
   rw [QF, <- hl]
   exact QG h1
  exact subscriptTail_builtinR (x := w) pl.isList.typeIs slot_list_getitem.lookup
   (wpAny_getItem_list_neg (Q := fun r s' => r = w /\ EP X pins σ Q r s') pl.isList (by lia) (by rw [QF] <;> lia) (by lia) (by rw [hj]; simpa using ew) ⟨rfl, fin⟩) hs
theorem zLW : IxR X (rIxT X.K) := by
 intro value slice pins s σ H x y v u Q I rx ry h hs
 obtain ⟨p, xs, i, z, rfl, rfl, hq, he, q⟩ := h
 cases rx
 obtain ⟨t, rfl⟩ := ry
 obtain ⟨its, r, pl, hz⟩ := I.tuple hq
 obtain ⟨j, h1, h2, h3, h4, h5⟩ := zEO he
 obtain ⟨w, ew, rw'⟩ := r.get h2
 have hl := r.length
 have hn := zDv
 have fin : EP X pins σ Q w s := ⟨z, H, I, rw', q⟩
 exact subscriptTail_builtinR (x := w) pl.typeIs slot_tuple_getitem.lookup
  (getItem_tuple (j := j) (Q := fun r s' => r = w /\ EP X pins σ Q r s') pl (by lia) (by lia) (by rw [QF, <- hl]; exact h1) (by simpa using ew) ⟨rfl, fin⟩) hs
theorem zLU : IxR X rIxS := by
 intro value slice pins s σ H x y v u Q I rx ry h hs
 obtain ⟨z, i, c, rfl, rfl, hz, he, q⟩ := h
 obtain ⟨t, rfl⟩ := rx
 obtain ⟨t', rfl⟩ := ry
 obtain ⟨j, h1, h2, h3, h4, h5⟩ := zEO he
 have hl : z.cps.toList.length = z.length := by simp [Str.length]
 rw [hl] at h1 h4 h5
 have hn := zDv
 exact tail_any (typeIs_str s z t) slot_str_getitem.lookup (getItem_str (c := c) (by
  have e1 : decide (i < -(2 ^ 63 : Int)) = false := decide_eq_false (by lia)
  have e2 : decide (i >= 2 ^ 63) = false := decide_eq_false (by lia)
  rw [e1, e2, Bool.or_false]) (by rw [h1]; simpa using h2) ⟨.str ⟨#[c]⟩, H, I.tok _, ⟨_, rfl⟩, q⟩) hs
theorem zOd (lo hi : Option Int) (n : Nat) : (sliceBounds lo hi none n).1 = ((HT.sIx n 0 lo : Nat) : Int) /\ (sliceBounds lo hi none n).2.1 = ((HT.sIx n n hi : Nat) : Int) /\ (sliceBounds lo hi none n).2.2 = 1 := by
 refine ⟨?_, ?_, rfl⟩
 ·cases lo with
  | none => simp [sliceBounds, HT.sIx]
  | some i =>
   simp only [sliceBounds, HT.sIx, Option.getD_none, show (1 : Int) > 0 by decide, if_true]
   by_cases h : i < 0
   ·simp only [h, if_true]; exact HT.sb1 h
   ·simp only [h, if_false]; exact HT.sb2 h
 ·cases hi with
  | none => simp [sliceBounds, HT.sIx]
  | some i =>
   simp only [sliceBounds, HT.sIx, Option.getD_none, show (1 : Int) > 0 by decide, if_true]
   by_cases h : i < 0
   ·simp only [h, if_true]; exact HT.sb1 h
   ·simp only [h, if_false]; exact HT.sb2 h
theorem zOc (its : List Value) (lo hi : Option Int) : slicePick its.toArray lo hi none = ((its.drop (HT.sIx its.length 0 lo)).take (HT.sIx its.length its.length hi - HT.sIx its.length 0 lo)).toArray := by
 obtain ⟨h1, h2, h3⟩ := zOd lo hi its.toArray.size
 unfold slicePick
 rw [h1, h2, h3]
 simp only [sliceRange_one, pick_run, QF] <;> rfl
def rSlL (K : PySem.W.Frag) : V -> Option Int -> Option Int -> Hp -> VK -> Prop := fun x lo hi H Q => ∃ a xs, x = .ref a /\ SqL K H a xs /\ ∀ p, H p = none -> Q (.ref p) (upd H p (.lst (cutV xs lo hi)))
theorem zOa : SlR X (rSlL X.K) := by
 intro pins s σ H x v vl vu lo hi sl Q I rx hs pl pu h
 obtain ⟨a, xs, rfl, hx, q⟩ := h
 cases rx
 obtain ⟨its, r, ht, hz⟩ := I.list hx
 have hlen := r.length
 refine ⟨"list", _, slot_list_getitem.lookup, ht.isList.typeIs, ?_⟩
 refine wpAny_getItem_list_slice ht.isList hs pl pu .none (by simp) ?_ (by rw [QF] <;> lia)
 rw [zOc, <- hlen]
 refine ⟨.ref s.heap.objs.size, _, I.laid (t' := s.toks) (o := .lst (cutV xs lo hi)) (fun b ob q => Qc _ q) (Qh _) ?_, rfl, q _ (I.hok.fresh (Qh _))⟩
 exact ⟨Qx (zGY xs lo hi) hz, _, 0, (r.drop (HT.sIx xs.length 0 lo)).take (HT.sIx xs.length xs.length hi - HT.sIx xs.length 0 lo), Qt _ rfl⟩
theorem zKi : zAH X (.builtin "len") (fun xs H Q => ∃ p ys, xs = [.ref p] /\ (SqL X.K H p ys ∨ SqT X.K H p ys) /\ Q (.int ys.length) H) := by
 intro pins s σ H xs us Q I r h
 obtain ⟨p, ys, rfl, hq, q⟩ := h
 obtain ⟨u, rfl, rx⟩ := zBU r
 cases rx
 have hn := zDv
 rcases hq with hq | hq
 ·obtain ⟨its, r', pl, hz⟩ := I.list hq
  have hlen := r'.length
  exact Calls.call_len_list pl.isList (by simp only [QF] <;> lia) ⟨.int ys.length, H, I.tok _, ⟨s.toks + 1, by rw [QF, hlen]⟩, q⟩
 ·obtain ⟨its, r', pl, hz⟩ := I.tuple hq
  have hlen := r'.length
  exact len_tuple pl (by simp only [QF] <;> lia) ⟨.int ys.length, H, I.tok _, ⟨s.toks + 1, by rw [QF, hlen]⟩, q⟩
theorem zKj : zAH X (.builtin "len") (fun xs H Q => ∃ z, xs = [.str z] /\ z.length <= sizeLine /\ Q (.int z.length) H) := by
 intro pins s σ H xs us Q I r h
 obtain ⟨z, rfl, hz, q⟩ := h
 obtain ⟨u, rfl, t, rfl⟩ := zBU r
 have hn := zDv
 exact len_str (by lia) ⟨.int z.length, H, I.tok _, ⟨_, rfl⟩, q⟩
theorem zKo : zAH X (.type "tuple") (fun xs H Q => ∃ p ys, xs = [.ref p] /\ ((SqL X.K H p ys /\ ∀ l, H l = none -> Q (.ref l) (upd H l (.tup ys))) ∨ (SqT X.K H p ys /\ Q (.ref p) H))) := by
 intro pins s σ H xs us Q I r h
 obtain ⟨p, ys, rfl, h⟩ := h
 obtain ⟨u, rfl, rx⟩ := zBU r
 cases rx
 rcases h with ⟨hq, q⟩ | ⟨hq, q⟩
 ·obtain ⟨its, r', pl, hz⟩ := I.list hq
  have hlen := r'.length
  refine call_tuple_list pl.isList (fun h' kp => ?_) (by simp only [QF] <;> lia)
  have I1 : Inv X pins σ H { s with heap := h' } := I.kept (t' := s.toks) kp
  have I2 : Inv X pins σ (upd H h'.objs.size (.tup ys)) { s with heap := h'.push { cls := .type "tuple", data := .seq its.toArray } } :=
   I1.laid (t' := s.toks) (fun b o e => Qc _ e) (Qh _) (show zAN X.prog X.w _ _ _ (.tup ys) from ⟨hz, its, r', IsTup.new _ _⟩)
  exact ⟨.ref h'.objs.size, _, I2, rfl, q _ (I1.hok.fresh (Qh _))⟩
 ·obtain ⟨its, r', pl, hz⟩ := I.tuple hq
  exact call_tuple_same pl ⟨.ref p, H, I, rfl, q⟩
def tyV (K : PySem.W.Frag) (T : String) (x : V) (H : Hp) : Prop := match x with
 | .str _ => T = "str"
 | .int _ => T = "int"
 | .ref p => (T = "list" /\ ∃ xs, SqL K H p xs) ∨ (T = "tuple" /\ ∃ o, K.lookup p = some o /\ o.cls = .type "tuple" /\ o.dict = none) ∨
   (T = "dict" /\ ((∃ kvs, H p = some (.dK kvs)) ∨ ∃ kvs, H p = some (.dT kvs))) ∨ (T = "set" /\ ∃ S n, H p = some (.set S n))
 | _ => False
theorem zOP {pins : List (Addr × Obj)} {σ : St} {H : Hp} {s : Shared} {T : String} {x : V} {v : Value} (I : Inv X pins σ H s) (r : RelV x v) (ty : tyV X.K T x H) :
  s.TypeIs v T /\ ∀ a, v = .ref a -> ∃ ob, s.heap.get? a = some ob /\ ob.dict = none := by
 cases x with
 | str z =>
  obtain ⟨t, rfl⟩ := r
  cases (show T = "str" from ty)
  exact ⟨typeIs_str s z t, fun _ e => nomatch e⟩
 | int i =>
  obtain ⟨t, rfl⟩ := r
  cases (show T = "int" from ty)
  exact ⟨typeIs_int s i t, fun _ e => nomatch e⟩
 | ref p =>
  cases r
  rcases ty with ⟨rfl, xs, hq⟩ | ⟨rfl, o, hk, hc, hd⟩ | ⟨rfl, hk⟩ | ⟨rfl, S, n, hk⟩
  ·obtain ⟨its, _, pl, _⟩ := I.list hq
   refine ⟨pl.isList.typeIs, fun a e => ?_⟩
   cases e
   obtain ⟨o, n, e, c, hd, _⟩ := pl
   exact ⟨o, e, hd⟩
  ·refine ⟨⟨o, I.kIn p o hk, hc⟩, fun a e => ?_⟩
   cases e
   exact ⟨o, I.kIn _ o hk, hd⟩
  ·have z : ∃ o, s.heap.get? p = some o /\ o.ExactDict := by
    rcases hk with ⟨kvs, hk⟩ | ⟨kvs, hk⟩
    ·obtain ⟨_, _, _, _, o, _, _, e, ex, _⟩ := I.hok p _ hk
     exact ⟨o, e, ex⟩
    ·obtain ⟨_, _, _, _, o, _, _, e, ex, _⟩ := I.hok p _ hk
     exact ⟨o, e, ex⟩
   obtain ⟨o, e, ex⟩ := z
   refine ⟨⟨o, e, ex.1⟩, fun a e2 => ?_⟩
   cases e2
   exact ⟨o, e, ex.2.1⟩
  ·obtain ⟨o, _, _, _, e, ex, _⟩ := I.hok p _ hk
   refine ⟨⟨o, e, ex.1⟩, fun a e2 => ?_⟩
   cases e2
   exact ⟨o, e, ex.2.1⟩
 | _ => exact False.elim ty
def tBM (K : PySem.W.Frag) (T : String) (r : V -> List V -> Hp -> VK -> Prop) (to : TE) (t : TA) : TE := fun σ H Q => to σ H fun x H1 => tyV K T x H1 /\ t σ H1 fun xs H2 => r x xs H2 Q
variable {o e : Expr} {es : List Expr} {to : TE} {t : TA} {name : Str} {apos cpos : Pos} {T id : String} {r : V -> List V -> Hp -> VK -> Prop}
theorem zFW (pa : PlainAttrs T) (slot : Slot T name id) (hty : typeOf (.builtin id) = pure (.type "method_descriptor")) (hm : MtR X id r) (ho : PE X o to) (ha : PA X (e :: es) t)
  (hbase : attributeBase o name X.env (eval o X.env) = eval o X.env := by rfl)
  (hfew : ((backTo cpos (starEach (e :: es) X.env)).all (fun x => !x.1) && (backToKw cpos (keywordEach [] X.env)).all (fun x => x.1.isSome)
   && decide ((e :: es).length + ([] : List Keyword).length + (if ([] : List Keyword).isEmpty then 0 else 1) < 30)) = true := by rfl)
  (hline : (apos.endLine == cpos.line) = true := by rfl) (hs : starEach (e :: es) X.env = (false, eval e X.env) :: starEach es X.env := by rfl) (hplain : (backTo cpos (starEach es X.env)).any (·.1) = false := by rfl) :
  PE X (.Call (.Attribute o name apos) (e :: es) [] cpos) (tBM X.K T r to t) := by
 intro pins s σ H Q I h
 refine wpAny_Call_method_late hbase hfew hline rfl (thn (ho pins s σ H _ I h) fun v s1 zz => ?_)
 obtain ⟨x, H1, I1, r1, ty, q1⟩ := zz
 obtain ⟨h1, h2⟩ := zOP I1 r1 ty
 refine ⟨T, id, pa, slot, hty, h1, h2, ?_⟩
 have hA := ha cpos pins s1 σ H1 _ I1 q1
 rw [hs] at hA ⊢
 refine Calls.callWith_builtin (by show (false || (backTo cpos (starEach es X.env)).any (·.1)) = false; rw [hplain] <;> rfl) (Calls.evalArgs_plain ?_)
 exact thn hA fun us s2 ⟨vs, H2, I2, r2, q2⟩ => hm pins s2 σ H2 x vs v us Q I2 r1 r2 q2
end
end L2
namespace L2
open PySem PySem.Spec PyProof.Rows
def MtM (X : Cx) (id : String) (r : V -> List V -> Hp -> VK -> Prop) : Prop :=
 ∀ (pins : List (Addr × Obj)) (s : Shared) (σ : St) (H : Hp) (x : V) (xs : List V) (v : Value) (us : List Value) (Q : VK), Inv X pins σ H s -> RelV x v -> Vals xs us -> r x xs H Q ->
  wpAny (model X.prog X.w) X.A (call (.builtin id) (v :: us)) (EP X pins σ Q) X.xe s
theorem Vals.one {x : V} {us : List Value} (h : Vals [x] us) : ∃ u, us = [u] /\ RelV x u := by
 cases h with
 | cons r h => cases h; exact ⟨_, rfl, r⟩
section
variable {X : Cx} {pins : List (Addr × Obj)} {σ : St} {H : Hp} {s : Shared} {l b : Addr} {xs ys zs : List V}
theorem Inv.lset {its its' : List Value} {n : Nat} {f : Array Value -> Array Value} {t' : Nat} (I : Inv X pins σ H s) (hH : H l = some (.lst xs))
  (e : s.heap.get? l = some { cls := .type "list", data := .seq its.toArray n }) (hf : f its.toArray = its'.toArray) (hv : Vals ys its') (hz : ys.length <= sizeLine) :
  Inv X pins σ (upd H l (.lst ys)) { s with heap := s.heap.update l (Obj.mapSeq f), toks := t' } := by
 have q := PySem.IsL.update e f
 rw [hf] at q
 refine I.write (x := l) (e := l) (by rw [hH]; exact trivial) (.inl rfl) (fun b' u hb hu => (Ye s.heap (Obj.mapSeq f) (Ne.symm hb)).trans hu) ⟨_, q⟩ ?_
 exact ⟨hz, its', _, hv, q⟩
theorem Inv.lstM (I : Inv X pins σ H s) (hH : H l = some (.lst xs)) : xs.length <= sizeLine /\ ∃ (its : List Value) (n : Nat), Vals xs its /\ xs.length = its.length /\ s.heap.get? l = some { cls := .type "list", data := .seq its.toArray n } := by
 obtain ⟨z, its, n, r, e⟩ := I.hok l _ hH
 exact ⟨z, its, n, r, r.length, e⟩
theorem zMD {n : Nat} (h : n <= sizeLine) : Builtin.List.listTooLong n = false := by
 unfold Builtin.List.listTooLong
 exact decide_eq_false (by lia)
end
section
variable {X : Cx}
def zNO : V -> List V -> Hp -> VK -> Prop := fun x vs H Q => ∃ l xs y, x = .ref l /\ vs = [y] /\ H l = some (.lst xs) /\ xs.length < sizeLine /\ Q .non (upd H l (.lst (xs ++ [y])))
theorem zFL : MtM X "list.append" zNO := by
 intro pins s σ H x vs v us Q I rx rv h
 obtain ⟨l, xs, y, rfl, rfl, hH, hz, q⟩ := h
 cases rx
 obtain ⟨u, rfl, ru⟩ := rv.one
 obtain ⟨z, its, n, r, hl, e⟩ := I.lstM hH
 refine call_meets F.slot_list_append ⟨_, e, rfl⟩ F.entry_list_append (F.args_list_append_2 _ _) (PySem.list_append l its.toArray n u (by rw [QF]; lia)) ⟨e, ?_⟩
 refine ⟨.non, _, I.lset (its' := its ++ [u]) hH e (by simp) (r.append (.cons ru .nil)) ?_, rfl, q⟩
 rw [Ql, QT]
 lia
end
section
variable {prog : Program} {w : World} {A : Around} {E : Value -> Shared -> Prop} {s : Shared}
end
section
variable {X : Cx}
end
end L2
namespace Att
open PySem PySem.W PySem.Calls PyProof.Rows
theorem zLE {P : Params} {h : Heap} : ∀ (ns : List Int) (vs : List Value), WellAll P h vs (ns.map WData.int) -> IntsAre vs ns := by
 intro ns
 induction ns with
 | nil =>
  intro vs w
  rw [List.map_nil] at w
  cases w
  exact .nil
 | cons n ns ih =>
  intro vs w
  rw [Qo] at w
  cases w with
  | cons a b =>
   cases a
   exact .cons _ _ (ih _ b)
theorem zN5 {l : OpenLaw} {n : Nat} (hn : l.most = some n) {P : Params} {h : Heap} {args : List WData} {vals : List Value}
  (hpre : l.row.toRowW.claim.pre args = true) (hwl : WellAll P h vals args) :
  ∃ a vs ns, vals = [Value.ref a] /\ args = [WData.list (ns.map WData.int)] /\ h.get? a = some { cls := .type "list", data := .seq vs.toArray } /\ IntsAre vs ns /\ ns.length <= n := by
 have hsh : WShape.hasAll [] args [.list .int] = true := (pre_splitW hpre).1
 have hc : l.pre.holds [] { args := args } = true := (pre_splitW hpre).2
 obtain ⟨d, r, rfl, h1, h2⟩ := hasAllW_cons hsh
 obtain rfl := hasAllW_nil h2
 obtain ⟨xs, rfl, h3⟩ := hasW_list h1
 obtain ⟨ns, rfl⟩ := items_int h3
 have hlen : ns.length <= n := by
  unfold OpenLaw.pre at hc
  have h4 : (WTm.not (.lt (.lit (.int (n : Int))) (.len (.arg 0)))).holds [] { args := [.list (ns.map .int)] } = true := by
   have h4 := (holds_andW hc).1
   rw [hn] at h4
   exact h4
  have h5 := condW_of h4 (w_not (w_lt w_lit (w_len_list (w_arg rfl))))
  rw [Qj] at h5
  refine Jb fun q => ?_
  have q' : (n : Int) < ((ns.length : Nat) : Int) := by lia
  first
   | (rw [decide_eq_true q'] at h5; exact absurd h5 (by decide))
   | (simp at h5; lia)
 cases hwl with
 | cons w1 w2 =>
  cases w2
  cases w1 with
  | list ho hall => exact ⟨_, _, ns, rfl, rfl, ho, zLE ns _ hall, hlen⟩
theorem zNt (l : OpenLaw) (args : List WData) : l.row.toRowW.claim.post args (.bool true) args = true :=
 postW_of (r := l.row.toRowW) (X := (true == true))
  (show WShape.has [] (.bool true) .bool = true by first | rfl | decide | simp [WShape.has, WShape.arms, WShape.armsAll])
  (show (WTm.eq .res (.lit (.bool true))).value [] { args := args, res := some (.bool true), after := args } = some (.bool (true == true)) from w_eq_bool (w_res rfl) w_lit) rfl
theorem attach_call {l : OpenLaw} {n : Nat} {q : Program} {loose : List Str} {XP : (Str -> Option Value) -> Heap -> Prop} {YP : World -> Heap -> Prop} {d : DefRec}
  (hn : l.most = some n) (hdf : d.params.defaults = [])
  (call : ∀ (w : World) (s₀ s₁ : Shared) (mg mb : Str -> Option Value) (fa : Addr) (o : Obj) (pm cd doc : Value) (a : Addr) (vs : List Value) (ns : List Int),
   Ground q loose [] XP w s₀ mg mb s₁.heap -> YP w s₁.heap ->
   s₁.heap.get? fa = some o -> o.data = .func (docDef d.name d.params d.body d.scope pm cd doc) -> s₁.heap.CodeRec cd d.name -> mg d.name = some (.ref fa) ->
   s₁.heap.get? a = some { cls := .type "list", data := .seq vs.toArray } -> IntsAre vs ns -> ns.length <= n -> s₁.gens = #[] ->
   codeAny (model l.prog w) callerA (.call (.ref fa) ⟨[.ref a], []⟩) (fun r s' => r = .ok (.ret (.bool true)) /\ OldK s₁.heap s'.heap /\ s'.os = s₁.os /\ AllBare s'.gens) s₁) :
  WalkO q loose XP YP l.row.toRowW d [] (fun f vs => PySem.call f vs) := by
 intro w s₀ s₁ mg mb G Y fa o pm cd doc dV kV ho hd hcd hD hmg hg args vals as hpre hlay hrd hwl hlo
 obtain rfl : dV = .none := Dflts.none hD hdf
 obtain rfl : kV = .none := Dflts.noKw hD
 obtain ⟨a, vs, ns, rfl, rfl, hobj, hints, hlen⟩ := zN5 hn hpre hwl
 refine enter_call (Y1 (call w s₀ s₁ mg mb fa o pm cd doc a vs ns G Y ho (fd_plain hd) hcd hmg hobj hints hlen hg) fun r s' hq => ?_)
 obtain ⟨rfl, h2, h3, h4⟩ := hq
 exact ⟨.inl ⟨.bool true, .bool true, [], rfl, fun _ => rfl, .bool true, zNt l _, fun _ => ⟨List.Pairwise.nil, fun _ hm => (nomatch hm)⟩⟩, h2, h3, h4⟩
section
variable {prog : Program} {w : World} {A : Around} {E : Value -> Shared -> Prop} {s : Shared} {K : Frag}
end
end Att
namespace L2
open PySem PySem.Spec PyProof.Rows
theorem zJN : ∀ {vs : List Value} {ns : List Int}, IntsAre vs ns -> Vals (ns.map V.int) vs
 | _, _, .nil => .nil
 | _, _, .cons n t h => .cons ⟨t, rfl⟩ (zJN h)
def Only (H : Hp) : Prop := ∀ b, H b = none ∨ ∃ o xs, H b = some (.frz o (.lst xs))
theorem zL8 {P : Program} {w : World} {K : PySem.W.Frag} {mg mb : Str -> Option Value} {CX : CXT} {k : Nat} {fa a : Addr} {fd : FuncData} {x : Str} {sp : Sp} {s₁ : Shared} {vs : List Value} {ns : List Int}
  (KX : K.In s₁.heap) (hns : s₁.heap.Ns mainGlobals mg) (hb : s₁.heap.Ns builtinsNs mb) (hbb : ∀ x : Str, x ≠ "__name__" -> mb x = bootBuiltins x) (hlim : s₁.heap.NoLimit) (hg : s₁.gens = #[])
  (ha : s₁.heap.get? a = some { cls := .type "list", data := .seq vs.toArray }) (hi : IntsAre vs ns) (hl : ns.length <= sizeLine) (hr : Room k callerA)
  (F : ∀ base : Heap, K.In base -> base.Ns mainGlobals mg -> FnOk P w K mg base CX k fa fd [x] sp) (hbind : ∀ (s : Shared) (u : Value), BindsTo s fd ⟨[u], []⟩ [(x, u)])
  (hsp : ∀ H : Hp, Only H -> SqL K H a (ns.map V.int) -> sp [.ref a] H (fun v _ => v = .bl true) fun _ _ _ => False)
  (hCX : ∀ H e s', CX [] H s₁ (fun _ _ _ => False) e s' -> False) :
  codeAny (model P w) callerA (.call (.ref fa) ⟨[.ref a], []⟩) (fun r s' => r = .ok (.ret (.bool true)) /\ OldK s₁.heap s'.heap /\ s'.os = s₁.os /\ AllBare s'.gens) s₁ := by
 have rv := zJN hi
 have lenV := hi.length
 have core : ∀ H : Hp, Only H -> SqL K H a (ns.map V.int) -> HOk P w H s₁.heap -> (∀ b, H b ≠ none -> b = a) -> (H a ≠ none -> K.lookup a = none) ->
   codeAny (model P w) callerA (.call (.ref fa) ⟨[.ref a], []⟩) (fun r s' => r = .ok (.ret (.bool true)) /\ OldK s₁.heap s'.heap /\ s'.os = s₁.os /\ AllBare s'.gens) s₁ := by
  intro H hO hS hok hA hK
  have base_of : ∀ {b : Addr} {o : Obj}, s₁.heap.get? b = some o -> H b = none -> (hidT s₁.heap H).get? b = some o := fun e n => zLw e n
  have noA : ∀ {b : Addr} {o : Obj} {es : Array DictEntry} {ep : Nat}, s₁.heap.get? b = some o -> o.data = .dict es ep -> H b = none := fun {b o es ep} e d => by
   cases q : H b with
   | none => rfl
   | some u =>
    have e' : b = a := hA b (by rw [q]; simp)
    subst e'
    rw [ha] at e; cases e
    have d' : Data.seq vs.toArray _ = Data.dict es ep := d
    cases d'
  have nsK : ∀ {b : Addr} {m : Str -> Option Value}, s₁.heap.Ns b m -> (hidT s₁.heap H).Ns b m := fun {b m} ⟨o, es, ep, e, d, r⟩ => ⟨o, es, ep, base_of e (noA e d), d, r⟩
  have hKb : K.In (hidT s₁.heap H) := fun b o e => base_of (KX b o e) (by
   cases q : H b with
   | none => rfl
   | some u =>
    have e' : b = a := hA b (by rw [q]; simp)
    subst e'
    rw [hK (by rw [q]; simp)] at e; cases e)
  have hM : Mod K mg (hidT s₁.heap H) := ⟨hKb, nsK hns, ⟨mb, nsK hb, hbb⟩, let ⟨mc, h1, h2⟩ := hlim; ⟨mc, nsK h1, h2⟩⟩
  have e0 : Env0 P w K mg (hidT s₁.heap H) callerA [] s₁ H := ⟨rfl, hM, fun b o e => zMF e, Nat.le_of_eq (zLx _ _), trivial, fun b hb => absurd (show b ∈ ([] : List Addr) from hb) (by simp), hok, .of_eq hg⟩
  refine Y1 ((F _ hKb (nsK hns)).run callerA [] s₁ H ⟨[.ref a], []⟩ [.ref a] [.ref a] _ _ hr e0 (hbind s₁ (.ref a)) (.cons rfl .nil) (hsp H hO hS)) fun r s' h => ?_
  cases r with
  | error e => exact (hCX H e s' h).elim
  | ok fl =>
   cases fl with
   | next => exact False.elim h
   | brk => exact False.elim h
   | cont => exact False.elim h
   | ret u =>
    obtain ⟨v, H', os, bare, un, hok', r', q⟩ := h
    have q' : v = .bl true := q
    subst q'
    obtain rfl : u = Value.bool true := r'
    refine ⟨rfl, OldK.of_keep fun b o e => ?_, os, bare⟩
    cases q : H b with
    | none => exact un.keep b o e q (by intro z; exact absurd (show b ∈ ([] : List Addr) from z) (by simp)) (by simp)
    | some u =>
     rcases hO b with z | ⟨ob, xs, z⟩
     ·rw [q] at z; cases z
     ·have z2 := un.frzs b ob _ z
      obtain ⟨e1, _⟩ := hok b _ z
      obtain ⟨e2, _⟩ := hok' b _ z2
      rw [e] at e1; cases e1
      exact e2
 cases hk : K.lookup a with
 | some o =>
  have e := KX a o hk
  rw [ha] at e
  cases e
  refine core (fun _ => none) (fun _ => .inl rfl) (.inr ⟨_, vs.toArray, _, hk, rfl, rfl, rfl, by rw [QF, lenV]; exact hl, by simpa using rv⟩) (fun b u z => by have z' : (none : Option HO) = some u := z; cases z') (fun b z => absurd rfl z) fun z => absurd rfl z
 | none =>
  refine core (fun b => if b = a then some (.frz { cls := .type "list", data := .seq vs.toArray } (.lst (ns.map V.int))) else none) (fun b => ?_) (.inl (.inr ⟨{ cls := .type "list", data := .seq vs.toArray }, if_pos rfl⟩)) (fun b u z => ?_) (fun b z => ?_) fun _ => hk
  ·by_cases hb : b = a
   ·exact .inr ⟨_, _, if_pos hb⟩
   ·exact .inl (if_neg hb)
  ·by_cases hb : b = a
   ·have z' := (if_pos hb).symm.trans z
    cases z'
    subst hb
    exact ⟨ha, by rw [Qj]; exact hl, vs, _, rv, ha⟩
   ·have z' := (if_neg hb).symm.trans z
    cases z'
  ·by_cases hb : b = a
   ·exact hb
   ·exact absurd (if_neg hb) z
end L2
namespace L2
open PySem PySem.Spec PyProof.Rows
theorem walk_of {l : PySem.W.OpenLaw} {n k : Nat} {q : Program} {loose : List Str} {XP : (Str -> Option Value) -> Heap -> Prop} {YP : World -> Heap -> Prop} {d : DefRec} {K : Params -> PySem.W.Frag} {CX : World -> CXT} {sp : World -> Sp} {x : Str}
  (hn : l.most = some n) (hn2 : n <= sizeLine) (hdf : d.params.defaults = []) (hr : Room k callerA)
  (hY : ∀ (w : World) (h : Heap), YP w h -> (K w.params).In h)
  (F : ∀ (w : World) (mg : Str -> Option Value) (fa : Addr) (h : Heap), (K w.params).In h -> h.Ns mainGlobals mg -> mg d.name = some (.ref fa) ->
   ∃ fd : FuncData, (∀ (s : Shared) (u : Value), BindsTo s fd ⟨[u], []⟩ [(x, u)]) /\
    ∀ base : Heap, (K w.params).In base -> base.Ns mainGlobals mg -> FnOk l.prog w (K w.params) mg base (CX w) k fa fd [x] (sp w))
  (hsp : ∀ (w : World) (H : Hp) (a : Addr) (ns : List Int), ns.length <= n -> Only H -> SqL (K w.params) H a (ns.map V.int) -> sp w [.ref a] H (fun v _ => v = .bl true) fun _ _ _ => False)
  (hCX : ∀ (w : World) (H : Hp) (s : Shared) (e : Value) (s' : Shared), CX w [] H s (fun _ _ _ => False) e s' -> False) :
  PySem.W.WalkO q loose XP YP l.row.toRowW d [] (fun f vs => PySem.call f vs) := by
 refine Att.attach_call hn hdf fun w s₀ s₁ mg mb fa o pm cd doc a vs ns G Y ho hd hcd hmg hobj hints hlen hg => ?_
 have KX := hY w _ Y
 obtain ⟨fd, hb, hF⟩ := F w mg fa _ KX G.T.g hmg
 exact zL8 KX G.T.g G.T.b G.T.builtins G.T.nolimit hg hobj hints (Qx hlen hn2) hr hF hb (fun H hO hS => hsp w H a ns hlen hO hS) fun H e s' => hCX w H s₁ e s'
end L2
namespace L2
open PySem PySem.Spec PyProof.Rows
def zAX (s : Stmt) : Arguments := match s with
 | .FunctionDef _ a _ _ _ _ _ _ _ _ => a
 | _ => { posonlyargs := [], args := [], vararg := none, kwonlyargs := [], kw_defaults := [], kwarg := none, defaults := [] }
def zAP (s : Stmt) : List Stmt := match s with
 | .FunctionDef _ _ b _ _ _ _ _ _ _ => b
 | _ => []
def zAj (s : Stmt) : Scope := match s with
 | .FunctionDef _ _ _ _ _ _ sc _ _ _ => sc
 | _ => { kind := .function, names := [], isGenerator := false, isCoroutine := false }
abbrev CX0 : CXT := fun _ _ _ _ _ _ => False
abbrev E0 : XK := fun _ _ _ => False
theorem pass0 {X : Cx} : zEN CX0 X E0 := fun _ _ _ _ _ _ _ h => h.elim
structure Fun (K : PySem.W.Frag) (x qual : Str) (st : Stmt) (f : Addr) (fd : FuncData) : Prop where
 ex : ∃ (oc : Value) (od : Option Addr) (kV doc pm : Value) (an : Option Addr) (cdv ct : Value) (osl : Array (Option Value)),
  fd = PySem.W.fnOf x qual (zAX st) (zAP st) (zAj st) .none kV doc pm an cdv ct /\ K.lookup f = some ⟨oc, od, .func fd, osl⟩ /\ PySem.W.codeIn K cdv qual = true
 kp : PySem.W.keepIn K (.ref f) = true
section
variable {P : Program} {w : World} {K : PySem.W.Frag} {mg : Str -> Option Value} {base : Heap}
theorem Fun.ok {x qual : Str} {st : Stmt} {f : Addr} {fd : FuncData} {N ps : List Str} {k : Nat} {sp : Sp} (F : Fun K x qual st f fd) (S : zAr N ps (zAj st)) (len : ∀ vs H Q E, sp vs H Q E -> vs.length = ps.length)
  (hbody : ∀ (cdv : Value) (A : Around) (outer : List Env) (s : Shared) (H : Hp) (vs : List V) (Q : VK) (E : XK), Room k (A.deeper (envOfC qual (zAj st) s.heap.objs.size f cdv)) -> sp vs H Q E ->
   ∃ t, PSs (cxOf CX0 P w K mg base N qual (zAj st) f cdv A outer s H E).nox (zAP st) t /\ t { nx := fun _ H' => Q .non H', rt := Q } (start N vs) H) : FnOk P w K mg base CX0 (k + 1) f fd ps sp := by
 obtain ⟨oc, od, kV, doc, pm, an, cdv, ct, osl, rfl, lk, hcd⟩ := F.ex
 refine zHz lk hcd S len fun A outer s H vs Q E hr hsp => ?_
 obtain ⟨t, h, q⟩ := hbody cdv A outer s H vs Q E hr hsp
 exact ⟨t, h.nox, q⟩
theorem zD4 {x qual : Str} {st : Stmt} {f : Addr} {oc : Value} {od an : Option Addr} {osl : Array (Option Value)} {kV doc pm cdv ct : Value} (l : K.lookup f = some ⟨oc, od, .func (PySem.W.fnOf x qual (zAX st) (zAP st) (zAj st) .none kV doc pm an cdv ct), osl⟩)
  (c : PySem.W.codeIn K cdv qual = true) (k : PySem.W.keepIn K (.ref f) = true) : Fun K x qual st f (PySem.W.fnOf x qual (zAX st) (zAP st) (zAj st) .none kV doc pm an cdv ct) := ⟨⟨oc, od, kV, doc, pm, an, cdv, ct, osl, rfl, l, c⟩, k⟩
end
theorem zEF {n : Nat} (h : n <= 1000) : n < sizeLine := Yf h (by decide)
section
variable {X : Cx}
end
def Same (H H' : Hp) : Prop := ∀ b o, H b = some o -> H' b = some o
theorem Same.refl (H : Hp) : Same H H := fun _ _ h => h
theorem Same.trans {H H1 H2 : Hp} (a : Same H H1) (b : Same H1 H2) : Same H H2 := fun c o h => b c o (a c o h)
theorem Same.free {H H' : Hp} (e : Same H H') {l : Addr} (h : H' l = Option.none) : H l = Option.none := by
 cases q : H l with
 | none => rfl
 | some o =>
  rw [e l o q] at h
  cases h
end L2
namespace SG
open PySem PyProof.Rows
structure Fit (src : Array Keyed) (kd : SortKind) (z : SortSt) : Prop where
 mix : (arrOf z).Perm src
 kd : kindOf z = kd
 fine : failedOf z = none
 none : pendingOf z = #[]
theorem Fit.len {src : Array Keyed} {kd : SortKind} {z : SortSt} (f : Fit src kd z) : (arrOf z).size = src.size := f.mix.size_eq
theorem Fit.re {src : Array Keyed} {kd : SortKind} {z : SortSt} (f : Fit src kd z) {ys : Array Keyed} (m : ys.Perm (arrOf z)) : Fit src kd (setArr z ys) := ⟨m.trans f.mix, f.kd, f.fine, f.none⟩
section
variable {prog : Program} {w : World} {A : Around} {E : Value -> Shared -> Prop} {s : Shared} {src : Array Keyed} {κ : KeyKind} {kd : SortKind}
def Asks (prog : Program) (w : World) (A : Around) (s : Shared) (κ : KeyKind) (kd : SortKind) : Prop :=
 ∀ (x y : Value) (a b : κ.α) (E : Value -> Shared -> Prop) (Q : Bool -> Shared -> Prop), κ.keyOf x = some a -> κ.keyOf y = some b -> Q (κ.blt a b) s -> wpAny (model prog w) A (keyLt' kd x y) Q E s
theorem Fit.item {z : SortSt} (f : Fit src kd z) (all : KeysOf κ src) {i : Nat} (h : i < src.size) : ∃ x y a, (arrOf z)[i]? = some (x, y) /\ κ.keyOf x = some a /\ KK κ (arrOf z) i = a := by
 have h' : i < (arrOf z).size := by rw [f.len]; exact h
 have e := getElem?_pos (arrOf z) i h'
 obtain ⟨a, ha⟩ := all (arrOf z)[i] ((Array.perm_iff_toList_perm.mp f.mix).mem_iff.mp (by simp))
 exact ⟨_, _, a, e, ha, by unfold KK; rw [e]; simp [ha]⟩
theorem zDw {z : SortSt} {i j : Nat} {Q : Option Bool -> SortSt -> Prop} (L : Asks prog w A s κ kd) (f : Fit src kd z) (all : KeysOf κ src) (hi : i < src.size) (hj : j < src.size)
  (k : Q (some (κ.blt (KK κ (arrOf z) i) (KK κ (arrOf z) j))) z) : wpS (model prog w) A E s (ltAt' i j) Q z := by
 obtain ⟨x, x', a, e1, ka, qa⟩ := f.item all hi
 obtain ⟨y, y', b, e2, kb, qb⟩ := f.item all hj
 rw [qa, qb] at k
 rw [ltAt'_eq]
 refine Q7 (wpS_get ?_)
 show wpS _ _ _ _ (elem' (arrOf z) i >>= fun u => elem' (arrOf z) j >>= fun v => lt' u v) Q z
 rw [elem'_eq, e1, elem'_eq, e2]
 refine Q7 (Yt (Q7 (Yt ?_)))
 rw [lt'_eq]
 refine Q7 (wpS_get (Q7 (wpS_lift (wpAny_attempt ?_))))
 rw [f.kd]
 exact L x y a b _ _ ka kb ⟨rfl, Yt k⟩
theorem zJK {z : SortSt} {a top : Nat} {Q : AscSt -> SortSt -> Prop} (L : Asks prog w A s κ kd) (all : KeysOf κ src) (f : Fit src kd z) (h1 : 1 <= a) (h2 : a <= top) (h3 : top <= src.size) (r : SortedToK κ (arrOf z) a)
  (k : ∀ n, a <= n -> n <= top -> SortedToK κ (arrOf z) n -> n = top ∨ κ.klt (KK κ (arrOf z) n) (KK κ (arrOf z) (n - 1)) -> Q (none, n) z) : wpS (model prog w) A E s (ascLoop a top) Q z := by
 unfold ascLoop
 refine wpS_forRange (fun x c z' => z' = z /\ c = (none, x) /\ SortedToK κ (arrOf z) x) (fun x c z' g1 g2 hI => ?_) (fun c z' hI => ?_) ⟨rfl, rfl, r⟩
 ·obtain ⟨hz, hc, hr⟩ := hI
  subst hz hc
  dsimp only
  refine Q7 (zDw L f all (QB g2 h3) (by lia) ?_)
  cases q : κ.blt (KK κ (arrOf z') x) (KK κ (arrOf z') (x - 1)) with
  | true => simp only [if_true]; exact Yt (k x g1 (YA g2) hr (Or.inr q))
  | false =>
   simp only [Qp, if_false]
   refine Yt ⟨rfl, rfl, fun i j le lt => ?_⟩
   rcases Nat.lt_or_ge j x with c1 | c1
   ·exact hr i j le c1
   ·obtain rfl : j = x := by lia
    rcases YV le with c2 | c2
    ·subst c2; exact Yu _
    ·exact KeyOrd.kle_trans (hr i (j - 1) (by lia) (by lia)) q
 ·obtain ⟨hz, hc, hr⟩ := hI
  subst hz hc
  have e : max a top = top := by lia
  rw [e] at hr ⊢
  exact k top h2 (Qh _) hr (Or.inl rfl)
theorem zJI {z : SortSt} {n top : Nat} {Q : Option Nat -> SortSt -> Prop} (L : Asks prog w A s κ kd) (all : KeysOf κ src) (f : Fit src kd z) (h1 : 1 <= n) (h2 : n <= top) (h3 : top <= src.size) (r : NonIncK κ (arrOf z) n)
  (k : ∀ m z', Fit src kd z' -> 1 <= m -> m <= top -> SortedToK κ (arrOf z') m -> Q (some m) z') : wpS (model prog w) A E s (tail3 n top) Q z := by
 have sz : n <= (arrOf z).size := by rw [f.len]; lia
 have f' : Fit src kd (setArr z (mirror (arrOf z) 0 n ((n - 0) / 2))) := f.re (mirror_perm _ _ _ _)
 have r' : SortedToK κ (arrOf (setArr z (mirror (arrOf z) 0 n ((n - 0) / 2)))) n := by
  intro i j le lt
  show κ.kle (KK κ (mirror (arrOf z) 0 n ((n - 0) / 2)) i) (KK κ (mirror (arrOf z) 0 n ((n - 0) / 2)) j)
  rw [KK_mirror sz, KK_mirror sz, if_pos ⟨QU _, by lia⟩, if_pos ⟨QU _, lt⟩]
  exact r _ _ (by lia) (by lia)
 unfold tail3
 refine Q7 (wpS_reverse (Q7 (zJK L all f' h1 h2 h3 r' fun m g1 g2 g3 _ => ?_)))
 exact Yt (k m _ f' (Qx h1 g1) g2 g3)
theorem zK3 {z : SortSt} {n top : Nat} {Q : DescSt -> SortSt -> Prop} (L : Asks prog w A s κ kd) (all : KeysOf κ src) (f : Fit src kd z) (h1 : 1 <= n) (h2 : n <= top) (h3 : top <= src.size) (r : NonIncK κ (arrOf z) n)
  (k : ∀ m q z', Fit src kd z' -> n <= m -> m <= top -> NonIncK κ (arrOf z') m -> q + 1 <= m -> (∀ i, m - (q + 1) <= i -> i < m -> KK κ (arrOf z') i = KK κ (arrOf z') (m - 1)) -> Q (none, m, q) z') : wpS (model prog w) A E s (descLoop n top) Q z := by
 have one : ∀ (ys : Array Keyed) (x : Nat) (i : Nat), x - (0 + 1) <= i -> i < x -> KK κ ys i = KK κ ys (x - 1) := fun ys x i c1 c2 => by
  have : i = x - 1 := Jz (Nat.le_sub_one_of_lt c2) c1
  rw [this]
 unfold descLoop
 refine wpS_forRange (fun x c z' => ∃ q, c = (none, x, q) /\ Fit src kd z' /\ NonIncK κ (arrOf z') x /\ q + 1 <= x /\ ∀ i, x - (q + 1) <= i -> i < x -> KK κ (arrOf z') i = KK κ (arrOf z') (x - 1))
  (fun x c z' g1 g2 hI => ?_) (fun c z' hI => ?_) ⟨0, rfl, f, r, h1, one _ _⟩
 ·obtain ⟨q, hc, f', r', hq, he⟩ := hI
  subst hc
  dsimp only
  have lx : x < src.size := QB g2 h3
  have sz : x <= (arrOf z').size := by rw [f'.len]; exact YA lx
  have lx1 : x - 1 < src.size := Yf (Nat.sub_le x 1) lx
  refine Q7 (zDw L f' all lx lx1 ?_)
  cases c1 : κ.blt (KK κ (arrOf z') x) (KK κ (arrOf z') (x - 1)) with
  | true =>
   simp only [if_true]
   have more : ∀ ys : Array Keyed, (∀ m, KK κ ys m = KK κ (arrOf z') m) -> NonIncK κ ys (x + 1) := fun ys same i j le lt => by
    rw [same i, same j]
    rcases Nat.lt_or_ge j x with d1 | d1
    ·exact r' i j le d1
    ·obtain rfl : j = x := Jz (YJ lt) d1
     rcases YV le with d2 | d2
     ·subst d2; exact Yu _
     ·exact KeyOrd.kle_trans (KeyOrd.kle_of_klt c1) (r' i (j - 1) (Nat.le_sub_one_of_lt d2) (Nat.sub_lt (Yf (QU i) d2) Nat.one_pos))
   by_cases c2 : q > 0
   ·rw [if_pos c2]
    exact Q7 (wpS_reverse (Yt ⟨0, rfl, f'.re (mirror_perm _ _ _ _), more _ (JA sz he), Nat.succ_le_succ (QU _), one _ _⟩))
   ·rw [if_neg c2]
    exact Yt ⟨0, rfl, f', more _ fun _ => rfl, Nat.succ_le_succ (QU _), one _ _⟩
  | false =>
   simp only [Qp, if_false]
   refine Q7 (zDw L f' all (by lia) lx ?_)
   cases c2 : κ.blt (KK κ (arrOf z') (x - 1)) (KK κ (arrOf z') x) with
   | true => simp only [if_true]; exact Yt (k x q z' f' g1 (YA g2) r' hq he)
   | false =>
    simp only [Qp, if_false]
    have same : KK κ (arrOf z') x = KK κ (arrOf z') (x - 1) := KeyOrd.kle_antisymm c2 c1
    refine Yt ⟨q + 1, rfl, f', fun i j le lt => ?_, by lia, fun i d1 d2 => ?_⟩
    ·rcases Nat.lt_or_ge j x with e1 | e1
     ·exact r' i j le e1
     ·obtain rfl : j = x := by lia
      rcases YV le with e2 | e2
      ·subst e2; exact Yu _
      ·rw [same]; exact r' i (j - 1) (by lia) (by lia)
    ·show KK κ (arrOf z') i = KK κ (arrOf z') x
     rcases Nat.lt_or_ge i x with e1 | e1
     ·rw [same]; exact he i (by lia) e1
     ·have : i = x := by lia
      rw [this]
 ·obtain ⟨q, hc, f', r', hq, he⟩ := hI
  have e : max n top = top := by lia
  rw [e] at hc r' hq he
  subst hc
  exact k top q z' f' h2 (Qh _) r' hq he
theorem zHb {z : SortSt} {n top : Nat} {Q : Option Nat -> SortSt -> Prop} (L : Asks prog w A s κ kd) (all : KeysOf κ src) (f : Fit src kd z) (h2 : n + 1 <= top) (h3 : top <= src.size) (r : NonIncK κ (arrOf z) (n + 1))
  (k : ∀ m z', Fit src kd z' -> 1 <= m -> m <= top -> SortedToK κ (arrOf z') m -> Q (some m) z') : wpS (model prog w) A E s (descPart n top) Q z := by
 unfold descPart
 refine Q7 (wpS_lift (wpAny_rule ⟨rfl, Q7 (zK3 L all f (Nat.le_add_left 1 n) h2 h3 r fun m q z' f' g1 g2 r' hq he => ?_)⟩))
 have sz : m <= (arrOf z').size := by rw [f'.len]; lia
 dsimp only
 by_cases c : q > 0
 ·rw [if_pos c]
  refine Q7 (wpS_reverse (zJI L all (f'.re (mirror_perm _ _ _ _)) (by lia) g2 h3 (fun i j le lt => ?_) k))
  show κ.kle (KK κ (mirror (arrOf z') (m - (q + 1)) m ((m - (m - (q + 1))) / 2)) j) (KK κ (mirror (arrOf z') (m - (q + 1)) m ((m - (m - (q + 1))) / 2)) i)
  rw [JA sz he, JA sz he]
  exact r' i j le lt
 ·rw [if_neg c]
  exact zJI L all f' (by lia) g2 h3 r' k
theorem zLk {z : SortSt} {top : Nat} {Q : Option Nat -> SortSt -> Prop} (L : Asks prog w A s κ kd) (all : KeysOf κ src) (f : Fit src kd z) (h1 : 1 <= top) (h3 : top <= src.size)
  (k : ∀ m z', Fit src kd z' -> 1 <= m -> m <= top -> SortedToK κ (arrOf z') m -> Q (some m) z') : wpS (model prog w) A E s (countRun' 0 top) Q z := by
 have r1 : SortedToK κ (arrOf z) 1 := fun i j le lt => by
  obtain rfl : i = j := Jz le (Qx (YJ lt) (QU _))
  exact Yu _
 rw [countRun0_eq]
 refine Q7 (zJK L all f (Qh 1) h1 h3 r1 fun n g1 g2 g3 g4 => ?_)
 dsimp only
 by_cases c : n = top
 ·rw [if_pos (beq_iff_eq.mpr c)]
  exact Yt (k n z f g1 g2 g3)
 ·rw [if_neg (fun h => c (beq_iff_eq.mp h))]
  have fall := g4.resolve_left c
  by_cases c2 : n > 1
  ·rw [if_pos c2]
   have n1 : n - 1 < n := Nat.sub_lt g1 Nat.one_pos
   refine Q7 (zDw L f all (QB g1 (Qx g2 h3)) (QB n1 (Qx g2 h3)) ?_)
   cases c3 : κ.blt (KK κ (arrOf z) 0) (KK κ (arrOf z) (n - 1)) with
   | true => simp only [if_true]; exact Yt (k n z f g1 g2 g3)
   | false =>
    simp only [Qp, if_false]
    have sz : n <= (arrOf z).size := by rw [f.len]; exact Qx g2 h3
    have eq : ∀ m, 0 <= m -> m < n -> KK κ (arrOf z) m = KK κ (arrOf z) (n - 1) := fun m _ lt =>
     KeyOrd.kle_antisymm (g3 m (n - 1) (Nat.le_sub_one_of_lt lt) n1) (KeyOrd.kle_trans c3 (g3 0 m (QU _) lt))
    refine Q7 (wpS_reverse (zHb L all (f.re (mirror_perm _ _ _ _)) (Nat.lt_of_le_of_ne g2 c) h3 (fun i j le lt => ?_) k))
    show κ.kle (KK κ (mirror (arrOf z) 0 n ((n - 0) / 2)) j) (KK κ (mirror (arrOf z) 0 n ((n - 0) / 2)) i)
    rw [JA sz eq, JA sz eq]
    rcases Nat.lt_or_ge j n with d | d
    ·rw [eq i (QU _) (Yf le d), eq j (QU _) d]
     exact Yu _
    ·obtain rfl : j = n := Jz (YJ lt) d
     rcases YV le with d2 | d2
     ·subst d2; exact Yu _
     ·rw [eq i (QU _) d2]; exact KeyOrd.kle_of_klt fall
  ·rw [if_neg c2]
   obtain rfl : n = 1 := Jz (Jb c2) g1
   refine zHb L all f (by lia) h3 (fun i j le lt => ?_) k
   rcases YV le with d2 | d2
   ·subst d2; exact Yu _
   ·obtain rfl : i = 0 := by lia
    obtain rfl : j = 1 := by lia
    exact KeyOrd.kle_of_klt fall
theorem zLD {z : SortSt} {n ok : Nat} {Q : Bool -> SortSt -> Prop} (L : Asks prog w A s κ kd) (all : KeysOf κ src) (f : Fit src kd z) (h1 : ok <= n) (h3 : n <= src.size) (r : SortedToK κ (arrOf z) ok)
  (k : ∀ z', Fit src kd z' -> SortedToK κ (arrOf z') n -> Q true z') : wpS (model prog w) A E s (binarySort' 0 n ok) Q z := by
 rw [binarySort'_eq]
 simp only [Nat.zero_add]
 have r0 : SortedToK κ (arrOf z) (min (max ok 1) n) := fun i j le lt => by
  rcases YV le with c | c
  ·subst c; exact Yu _
  ·exact r i j le (by lia)
 refine Q7 (wpS_mono (wpS_forRange (fun m c z' => c = (none, ()) /\ Fit src kd z' /\ SortedToK κ (arrOf z') (min m n)) (Q := fun c z' => c = (none, ()) /\ Fit src kd z' /\ SortedToK κ (arrOf z') n)
  (fun m c z' g1 g2 hI => ?_) (fun c z' hI => ?_) ⟨rfl, f, r0⟩) fun c z' hQ => ?_)
 ·obtain ⟨hc, f', r'⟩ := hI
  subst hc
  have em : min m n = m := by lia
  rw [em] at r'
  have lm : m < src.size := by lia
  refine Q7 (wpS_mono (wpS_forRange (fun t c z2 => z2 = z' /\ ∃ lo hi, c = (none, lo, hi) /\ lo <= hi /\ hi <= m /\ hi + t <= m + lo /\ (∀ i, i < lo -> κ.kle (KK κ (arrOf z') i) (KK κ (arrOf z') m)) /\
    ∀ i, hi <= i -> i < m -> κ.klt (KK κ (arrOf z') m) (KK κ (arrOf z') i))
   (Q := fun c z2 => z2 = z' /\ ∃ lo hi, c = (none, lo, hi) /\ lo <= m /\ (∀ i, i < lo -> κ.kle (KK κ (arrOf z') i) (KK κ (arrOf z') m)) /\ ∀ i, lo <= i -> i < m -> κ.klt (KK κ (arrOf z') m) (KK κ (arrOf z') i))
   (fun t c z2 _ lt hJ => ?_) (fun c z2 hJ => ?_) ⟨rfl, 0, m, rfl, QU _, Qh _, by lia, fun i c => absurd c (Ym _), fun i c1 c2 => absurd c2 (Nat.not_lt.mpr c1)⟩) fun c z2 hJ => ?_)
  ·obtain ⟨hz, lo, hi, hc, c1, c2, c3, c4, c5⟩ := hJ
   subst hz hc
   dsimp only
   by_cases d : lo >= hi
   ·rw [if_pos d]
    obtain rfl : lo = hi := by lia
    exact Yt ⟨rfl, lo, lo, rfl, c2, c4, c5⟩
   ·rw [if_neg d]
    have hm : lo <= (lo + hi) / 2 /\ (lo + hi) / 2 < hi := by clear c2 c3; lia
    generalize (lo + hi) / 2 = md at hm ⊢
    have hmm := QB hm.2 c2
    refine Q7 (zDw L f' all lm (Nat.lt_trans hmm lm) ?_)
    cases q : κ.blt (KK κ (arrOf z2) m) (KK κ (arrOf z2) md) with
    | true =>
     simp only [if_true]
     exact Yt ⟨rfl, lo, md, rfl, hm.1, YA hmm, Qx (Nat.add_right_comm md t 1 ▸ Nat.add_le_add_right hm.2 t) c3, c4, fun i e1 e2 => KeyOrd.klt_of_klt_of_kle q (r' _ _ e1 e2)⟩
    | false =>
     simp only [Qp, if_false]
     refine Yt ⟨rfl, md + 1, hi, rfl, hm.2, c2, Nat.add_le_add (show lo <= md from hm.1) (Qh 1) |> fun z => by lia, fun i e1 => ?_, c5⟩
     have q' : κ.kle (KK κ (arrOf z2) md) (KK κ (arrOf z2) m) := q
     exact KeyOrd.kle_trans (r' i md (YJ e1) hmm) q'
  ·obtain ⟨hz, lo, hi, hc, c1, c2, c3, c4, c5⟩ := hJ
   obtain rfl : lo = hi := by lia
   exact ⟨hz, lo, lo, hc, c2, c4, c5⟩
  ·obtain ⟨hz, lo, hi, hc, c2, c4, c5⟩ := hJ
   subst hz hc
   show wpS _ _ _ _ (moveDown' m lo >>= fun _ => pure (ForInStep.yield (none, ()))) _ _
   rw [moveDown'_eq]
   refine Q7 (wpS_modify (Yt ⟨rfl, f'.re (bubble_perm _ _ _), ?_⟩))
   have es : m < (arrOf z2).size := by rw [f'.len]; exact lm
   have e2 : min (m + 1) n = m + 1 := by lia
   rw [e2]
   intro i j le lt
   show κ.kle (KK κ (bubble (arrOf z2) m (m - lo)) i) (KK κ (bubble (arrOf z2) m (m - lo)) j)
   have e3 : m - (m - lo) = lo := by lia
   rw [KK_bubble es (by lia), KK_bubble es (by lia), e3]
   by_cases i1 : i = lo <;> by_cases j1 : j = lo
   ·rw [if_pos i1, if_pos j1]; exact Yu _
   ·rw [if_pos i1, if_neg j1, if_pos ⟨by lia, by lia⟩]
    exact KeyOrd.kle_of_klt (c5 _ (by lia) (by lia))
   ·rw [if_neg i1, if_pos j1, if_neg (by lia)]
    exact c4 _ (by lia)
   ·rw [if_neg i1, if_neg j1]
    by_cases i2 : lo < i /\ i <= m <;> by_cases j2 : lo < j /\ j <= m
    ·rw [if_pos i2, if_pos j2]; exact r' _ _ (by lia) (by lia)
    ·exact absurd ⟨by lia, by lia⟩ j2
    ·rw [if_neg i2, if_pos j2]; exact r' _ _ (by lia) (by lia)
    ·rw [if_neg i2, if_neg j2]; exact r' _ _ le (by lia)
 ·obtain ⟨hc, f', r'⟩ := hI
  have e : min (max (max ok 1) n) n = n := by lia
  rw [e] at r'
  exact ⟨hc, f', r'⟩
 ·obtain ⟨hc, f', r'⟩ := hQ
  subst hc
  exact Yt (k z' f' r')
theorem zJ1 {z : SortSt} {Q : Unit -> SortSt -> Prop} (L : Asks prog w A s κ kd) (all : KeysOf κ src) (f : Fit src kd z) (h2 : 2 <= src.size) (h64 : src.size < 64)
  (k : ∀ z', (arrOf z').Perm src -> failedOf z' = none -> SortedToK κ (arrOf z') src.size -> Q () z') : wpS (model prog w) A E s sortRuns' Q z := by
 have em : minRun' src.size src.size 0 = src.size := by
  have g : ∀ t, t = src.size -> minRun' t src.size 0 = src.size := fun t e => by
   cases t with
   | zero => lia
   | succ t => rw [minRun'_succ, if_pos h64]; rfl
  exact g _ rfl
 rw [sortRuns'_eq]
 refine Q7 (wpS_get ?_)
 dsimp only
 simp only [f.len, em]
 refine Q7 (wpS_mono (wpS_forRange (fun t c z' => (t = 0 /\ c = (none, 0) /\ Fit src kd z') ∨ (0 < t /\ c = (none, src.size) /\ (arrOf z').Perm src /\ failedOf z' = none /\ pendingOf z' = #[(0, src.size, 0)] /\ SortedToK κ (arrOf z') src.size))
  (Q := fun c z' => c = (none, src.size) /\ (arrOf z').Perm src /\ failedOf z' = none /\ pendingOf z' = #[(0, src.size, 0)] /\ SortedToK κ (arrOf z') src.size)
  (fun t c z' _ lt hI => ?_) (fun c z' hI => ?_) (Or.inl ⟨rfl, rfl, f⟩)) fun c z' hQ => ?_)
 ·rcases hI with ⟨ht, hc, f'⟩ | ⟨ht, hc, d1, d2, d3, d4⟩
  ·subst ht hc
   dsimp only
   rw [if_neg (by lia)]
   simp only [Nat.sub_zero, Nat.min_self, Nat.zero_add]
   have close : ∀ z3, Fit src kd z3 -> SortedToK κ (arrOf z3) src.size -> (0 < 0 + 1 /\ ((none : Option Unit), src.size) = (none, src.size) /\ (arrOf (setPending z3 ((pendingOf z3).push (0, src.size, 0)))).Perm src /\ failedOf (setPending z3 ((pendingOf z3).push (0, src.size, 0))) = none /\
     pendingOf (setPending z3 ((pendingOf z3).push (0, src.size, 0))) = #[(0, src.size, 0)] /\ SortedToK κ (arrOf (setPending z3 ((pendingOf z3).push (0, src.size, 0)))) src.size) := fun z3 f3 r3 =>
    ⟨Nat.zero_lt_succ _, rfl, f3.mix, f3.fine, by show (pendingOf z3).push (0, src.size, 0) = _; rw [f3.none]; rfl, r3⟩
   refine Q7 (zLk L all f' (by lia) (Qh _) fun m z2 f2 g1 g2 r2 => ?_)
   dsimp only
   by_cases c : m < src.size
   ·rw [if_pos c]
    refine Q7 (wpS_lift (wpAny_rule ⟨rfl, Q7 (zLD L all f2 g2 (Qh _) r2 fun z3 f3 r3 => ?_)⟩))
    simp only [YG, Qp, if_false]
    refine Q7 (wpS_get ?_)
    have eb : (pendingOf z3).back? = none := by rw [f3.none]; rfl
    rw [eb]
    dsimp only
    exact Q7 (wpS_modify (Yt (Or.inr (close z3 f3 r3))))
   ·rw [if_neg c]
    obtain rfl : m = src.size := by lia
    refine Q7 (wpS_get ?_)
    have eb : (pendingOf z2).back? = none := by rw [f2.none]; rfl
    rw [eb]
    dsimp only
    exact Q7 (wpS_modify (Yt (Or.inr (close z2 f2 r2))))
  ·subst hc
   dsimp only
   rw [if_pos (Qh _)]
   exact Yt ⟨rfl, d1, d2, d3, d4⟩
 ·rcases hI with ⟨ht, _⟩ | ⟨_, d⟩
  ·lia
  ·exact d
 ·obtain ⟨hc, d1, d2, d3, d4⟩ := hQ
  subst hc
  dsimp only
  refine Q7 (wpS_mono (wpS_forRange (fun _ c z2 => z2 = z' /\ c = (none, ())) (Q := fun c z2 => z2 = z' /\ c = (none, ())) (fun t c z2 _ _ hJ => ?_) (fun _ _ hJ => hJ) ⟨rfl, rfl⟩) fun c z2 hJ => ?_)
  ·obtain ⟨hz, hc⟩ := hJ
   subst hz hc
   refine Q7 (wpS_get ?_)
   rw [if_pos (by rw [d3]; exact Qh 1)]
   exact Yt ⟨rfl, rfl⟩
  ·obtain ⟨hz, hc⟩ := hJ
   subst hz hc
   exact Yt (k _ d1 d2 d4)
theorem zOg {a : Addr} {vs : List Value} {n : Nat} {P : Fin -> Shared -> Prop} (ho : s.heap.get? a = some (seqObj "list" vs.toArray n)) (all : KeysOf κ (pairsOf vs)) (h64 : vs.length < 64)
  (kind : ∀ h', (∀ b o, b ≠ a -> s.heap.get? b = some o -> h'.get? b = some o) -> 2 <= vs.length -> wpAny (model prog w) A (keyKind' vs.toArray) (fun q s' => q = kd /\ s' = { s with heap := h' }) E { s with heap := h' })
  (L : ∀ h', (∀ b o, b ≠ a -> s.heap.get? b = some o -> h'.get? b = some o) -> Asks prog w A { s with heap := h' } κ kd)
  (k : ∀ z' : SortSt, (arrOf z').Perm (pairsOf vs) -> SortedToK κ (arrOf z') (pairsOf vs).size -> P (.done (.ret .none)) { s with heap := sortedHeap s.heap a vs ((arrOf z').map (·.2)) }) :
  wpAny (model prog w) A (Builtin.«list.sort» ⟨[.ref a], []⟩) P E s := by
 have ha : a < s.heap.objs.size := Qm ho
 have hl : vs.toArray.size = vs.length := by simp
 rw [list_sort_plain]
 refine Qa (listItems_at ho rfl (Qa (listUpdate_at ho rfl ?_)))
 obtain ⟨t, h1⟩ : ∃ t, (s.heap.update a (Obj.mapSeq fun _ => #[])).get? a = some (seqObj "list" #[] t) := ⟨_, get?_update_seq ho fun _ => #[]⟩
 refine Qa (seqEpoch_at h1 rfl (Qa (wpAny_newTuple (Qa (wpAny_newList (Q8 ?_))))))
 show wpAny (model prog w) A _ P E { s with heap := ((s.heap.update a (Obj.mapSeq fun _ => #[])).push (seqObj "tuple" vs.toArray 0)).push (seqObj "list" #[] 0) }
 have keep : ∀ b o, b ≠ a -> s.heap.get? b = some o -> (((s.heap.update a (Obj.mapSeq fun _ => #[])).push (seqObj "tuple" vs.toArray 0)).push (seqObj "list" #[] 0)).get? b = some o := fun b o nb e =>
  Qc _ (Qc _ (by rw [Heap.get?_update_ne _ _ _ _ nb]; exact e))
 have h6 : (((s.heap.update a (Obj.mapSeq fun _ => #[])).push (seqObj "tuple" vs.toArray 0)).push (seqObj "list" #[] 0)).get? a = some (seqObj "list" #[] t) := Qc _ (Qc _ h1)
 dsimp only
 by_cases c : vs.toArray.size < 2
 ·rw [if_pos c, if_pos c]
  refine Qa (Qb ?_)
  rw [StateT.run_pure]
  refine Qa (Qb (Qa (seqEpoch_at h6 rfl (Qa (listUpdate_at h6 rfl ?_ (hsz2 := by
   rw [YW]; show (pairsOf vs).size <= _; rw [Js, Q3]; lia))))))
  simp only [bne_self_eq_false, Qp, if_false]
  refine Qb (k (SortSt.mk' general' (vs.toArray.zip vs.toArray) #[] 7 none) (Array.Perm.refl _) fun i j le lt => ?_)
  obtain rfl : i = j := by rw [Js] at lt; lia
  exact Yu _
 ·rw [if_neg c, if_neg c]
  refine Qa (YK (kind _ keep (by lia)) (fun q s' hq => ?_) fun _ _ e => e)
  obtain ⟨rfl, rfl⟩ := hq
  refine Qa (YK (zJ1 (src := pairsOf vs) (z := SortSt.mk' q (vs.toArray.zip vs.toArray) #[] 7 none)
   (Q := fun _ z' => (arrOf z').Perm (pairsOf vs) /\ failedOf z' = none /\ SortedToK κ (arrOf z') (pairsOf vs).size)
   (L _ keep) all ⟨Array.Perm.refl _, rfl, rfl, rfl⟩ (by rw [Js]; lia) (by rw [Js]; exact h64) fun z' d1 d2 d3 => ⟨d1, d2, d3⟩) (fun rz s' hq => ?_) fun _ _ e => e)
  obtain ⟨⟨⟩, z'⟩ := rz
  obtain ⟨rfl, d1, d2, d3⟩ := hq
  dsimp only at d1 d2 d3 ⊢
  refine Qa (seqEpoch_at h6 rfl (Qa (listUpdate_at h6 rfl ?_ (hsz2 := by
   refine Qx (Nat.le_of_eq ((YW ..).trans (d1.size_eq.trans (Js _)))) ?_
   rw [Q3]; lia))))
  rw [d2]
  simp only [bne_self_eq_false, Qp, if_false]
  exact Qb (k z' d1 d3)
end
end SG
namespace DL
open PySem PySem.Spec PyProof.Rows L2
abbrev D := PyData
def FzL (K : PySem.W.Frag) (F : Addr -> Prop) (H : Hp) (a : Addr) (vs : List V) : Prop := (F a /\ Rd H a (.lst vs)) ∨ SqL K (fun _ => none) a vs
theorem FzL.sq {K : PySem.W.Frag} {F : Addr -> Prop} {H : Hp} {a : Addr} {vs : List V} (h : FzL K F H a vs) : SqL K H a vs := by
 rcases h with ⟨_, h⟩ | (h | ⟨o, h⟩) | h
 ·exact .inl h
 ·cases h
 ·cases h
 ·exact .inr h
abbrev DKey := Sum (List Int) (List (List Int))
def encT (ks : List Int) : D := .tuple (ks.map .int)
def encK : DKey -> D
 | .inl ks => encT ks
 | .inr kss => .tuple (kss.map encT)
def zH1 (ks : List Int) : Int := reduceHash (Builtin.Tuple.tupleHashOf (ks.map hashInt))
def zH0 : DKey -> Int
 | .inl ks => zH1 ks
 | .inr kss => reduceHash (Builtin.Tuple.tupleHashOf (kss.map zH1))
def zB1 (K : PySem.W.Frag) (H : Hp) (k : DKey) (b : Addr) : Prop := match k with
 | .inl ks => SqT K H b (ks.map V.int)
 | .inr kss => kss ≠ [] /\ ∃ bs : List Addr, SqT K H b (bs.map V.ref) /\ Paired (fun (ks : List Int) (b : Addr) => SqT K H b (ks.map V.int)) kss bs
def DctO (a : Addr) (es : List (DKey × Addr × V)) (ep : Nat) : HO := .ext fun h => (a == sysModules) = false /\ ∃ o raw, h.get? a = some o /\ o.ExactDict /\ o.data = .dict raw ep /\ Paired (fun (e : DKey × Addr × V) (r : DictEntry) => r.hash = zH0 e.1 /\ r.key = .ref e.2.1 /\ RelV e.2.2 r.val) es raw.toList
def ExcO (a C : Addr) : HO := .ext fun h => ∃ o, h.get? a = some o /\ o.cls = .ref C
def excD (x : Str) : D := .dict [(.none, .str x)]
def LstO (a : Addr) (vs : List V) : HO := .ext fun h => vs.length <= sizeLine /\ ∃ (its : List Value) (n : Nat), Vals vs its /\ h.get? a = some { cls := .type "list", data := .seq its.toArray n }
mutual
inductive Rep (K : PySem.W.Frag) (F : Addr -> Prop) (H : Hp) : D -> V -> Prop
 | non : Rep K F H .none .non
 | bl (b : Bool) : Rep K F H (.bool b) (.bl b)
 | int (i : Int) : Rep K F H (.int i) (.int i)
 | str (x : Str) : Rep K F H (.str x) (.str x)
 | tup {a : Addr} {vs : List V} {ds : List D} : SqT K H a vs -> Reps K F H ds vs -> Rep K F H (.tuple ds) (.ref a)
 | lst {a : Addr} {vs : List V} {ds : List D} : FzL K F H a vs -> Reps K F H ds vs -> Rep K F H (.list ds) (.ref a)
 | dct {a : Addr} {es : List (DKey × Addr × V)} {kvs : List (D × D)} {ep : Nat} : F a -> H a = some (DctO a es ep) -> (es.map (·.1)).Nodup -> es.length <= 1000 -> DReps K F H kvs es -> Rep K F H (.dict kvs) (.ref a)
 | exn {a C : Addr} {x : Str} : F a -> H a = some (ExcO a C) -> PySem.W.nsIn K mainGlobals x = some (some (.ref C)) -> Rep K F H (excD x) (.ref a)
inductive DReps (K : PySem.W.Frag) (F : Addr -> Prop) (H : Hp) : List (D × D) -> List (DKey × Addr × V) -> Prop
 | nil : DReps K F H [] []
 | cons {k : DKey} {b : Addr} {d : D} {v : V} {kvs : List (D × D)} {es : List (DKey × Addr × V)} : zB1 K H k b -> Rep K F H d v -> DReps K F H kvs es -> DReps K F H ((encK k, d) :: kvs) ((k, b, v) :: es)
inductive Reps (K : PySem.W.Frag) (F : Addr -> Prop) (H : Hp) : List D -> List V -> Prop
 | nil : Reps K F H [] []
 | cons {d : D} {v : V} {ds : List D} {vs : List V} : Rep K F H d v -> Reps K F H ds vs -> Reps K F H (d :: ds) (v :: vs)
end
structure Stay (K : PySem.W.Frag) (F F' : Addr -> Prop) (H H' : Hp) : Prop where
 up : ∀ a, F a -> F' a
 tp : ∀ a xs, SqT K H a xs -> SqT K H' a xs
 ls : ∀ a xs, F a -> Rd H a (.lst xs) -> Rd H' a (.lst xs)
 xt : ∀ a φ, F a -> H a = some (.ext φ) -> H' a = some (.ext φ)
theorem zB1.stay {K : PySem.W.Frag} {F F' : Addr -> Prop} {H H' : Hp} (S : Stay K F F' H H') {k : DKey} {b : Addr} (h : zB1 K H k b) : zB1 K H' k b := by
 cases k with
 | inl ks => exact S.tp _ _ h
 | inr kss => obtain ⟨n, bs, h1, h2⟩ := h; exact ⟨n, bs, S.tp _ _ h1, Paired.mapP h2 fun _ _ z => S.tp _ _ z⟩
theorem FzL.stay {K : PySem.W.Frag} {F F' : Addr -> Prop} {H H' : Hp} (S : Stay K F F' H H') {a : Addr} {vs : List V} (h : FzL K F H a vs) : FzL K F' H' a vs := by
 rcases h with ⟨f, h⟩ | h
 ·exact .inl ⟨S.up a f, S.ls a vs f h⟩
 ·exact .inr h
mutual
theorem Rep.stay {K : PySem.W.Frag} {F F' : Addr -> Prop} {H H' : Hp} (S : Stay K F F' H H') {d : D} {v : V} (h : Rep K F H d v) : Rep K F' H' d v := by
 cases h with
 | non => exact .non
 | bl b => exact .bl b
 | int i => exact .int i
 | str x => exact .str x
 | tup h r => exact .tup (S.tp _ _ h) (Reps.stay S r)
 | lst h r => exact .lst (h.stay S) (Reps.stay S r)
 | dct f h n l r => exact .dct (S.up _ f) (S.xt _ _ f h) n l (DReps.stay S r)
 | exn f h n => exact .exn (S.up _ f) (S.xt _ _ f h) n
theorem DReps.stay {K : PySem.W.Frag} {F F' : Addr -> Prop} {H H' : Hp} (S : Stay K F F' H H') {kvs : List (D × D)} {es : List (DKey × Addr × V)} (h : DReps K F H kvs es) : DReps K F' H' kvs es := by
 cases h with
 | nil => exact .nil
 | cons h r t => exact .cons (h.stay S) (Rep.stay S r) (DReps.stay S t)
theorem Reps.stay {K : PySem.W.Frag} {F F' : Addr -> Prop} {H H' : Hp} (S : Stay K F F' H H') {ds : List D} {vs : List V} (h : Reps K F H ds vs) : Reps K F' H' ds vs := by
 cases h with
 | nil => exact .nil
 | cons h r => exact .cons (Rep.stay S h) (Reps.stay S r)
end
theorem Reps.length {K : PySem.W.Frag} {F : Addr -> Prop} {H : Hp} : ∀ {ds : List D} {vs : List V}, Reps K F H ds vs -> ds.length = vs.length
 | _, _, .nil => rfl
 | _, _, .cons _ r => by simp [Reps.length r]
theorem Reps.get {K : PySem.W.Frag} {F : Addr -> Prop} {H : Hp} : ∀ {ds : List D} {vs : List V} {i : Nat} {d : D}, Reps K F H ds vs -> ds[i]? = some d -> ∃ v, vs[i]? = some v /\ Rep K F H d v
 | _, _, _, _, .nil, e => by simp at e
 | _, _, 0, _, .cons h _, e => by simp at e; subst e; exact ⟨_, rfl, h⟩
 | _, _, i + 1, d, .cons _ r, e => by
  obtain ⟨v, h1, h2⟩ := Reps.get (i := i) (d := d) r (by simpa using e)
  exact ⟨v, by simpa using h1, h2⟩
theorem Reps.append {K : PySem.W.Frag} {F : Addr -> Prop} {H : Hp} : ∀ {ds es : List D} {vs us : List V}, Reps K F H ds vs -> Reps K F H es us -> Reps K F H (ds ++ es) (vs ++ us)
 | _, _, _, _, .nil, s => s
 | _, _, _, _, .cons h r, s => .cons h (Reps.append r s)
theorem Reps.take {K : PySem.W.Frag} {F : Addr -> Prop} {H : Hp} : ∀ {ds : List D} {vs : List V} (n : Nat), Reps K F H ds vs -> Reps K F H (ds.take n) (vs.take n)
 | _, _, 0, _ => .nil
 | _, _, _ + 1, .nil => .nil
 | _, _, n + 1, .cons h r => .cons h (Reps.take n r)
theorem Reps.drop {K : PySem.W.Frag} {F : Addr -> Prop} {H : Hp} : ∀ {ds : List D} {vs : List V} (n : Nat), Reps K F H ds vs -> Reps K F H (ds.drop n) (vs.drop n)
 | _, _, 0, r => r
 | _, _, _ + 1, .nil => .nil
 | _, _, n + 1, .cons _ r => Reps.drop n r
structure Ext (F F' : Addr -> Prop) (H H' : Hp) : Prop where
 same : Same H H'
 up : ∀ a, F a -> F' a
 new : ∀ a, F' a -> F a ∨ (H a = none /\ H' a ≠ none)
theorem Ext.refl (F : Addr -> Prop) (H : Hp) : Ext F F H H := ⟨Same.refl H, fun _ h => h, fun _ h => .inl h⟩
theorem Ext.trans {F F1 F2 : Addr -> Prop} {H H1 H2 : Hp} (a : Ext F F1 H H1) (b : Ext F1 F2 H1 H2) : Ext F F2 H H2 :=
 ⟨a.same.trans b.same, fun x h => b.up x (a.up x h), fun x h => by
  rcases b.new x h with h1 | ⟨h1, h2⟩
  ·rcases a.new x h1 with h3 | ⟨h3, h4⟩
   ·exact .inl h3
   ·refine .inr ⟨h3, fun z => h4 (b.same.free z)⟩
  ·exact .inr ⟨a.same.free h1, h2⟩⟩
theorem Same.sqT {K : PySem.W.Frag} {H H' : Hp} {a : Addr} {xs : List V} (e : Same H H') (h : SqT K H a xs) : SqT K H' a xs := by
 rcases h with (h | ⟨o, h⟩) | h
 ·exact .inl (.inl (e _ _ h))
 ·exact .inl (.inr ⟨o, e _ _ h⟩)
 ·exact .inr h
theorem Same.rd {H H' : Hp} {a : Addr} {u : HO} (e : Same H H') (h : Rd H a u) : Rd H' a u := by
 rcases h with h | ⟨o, h⟩
 ·exact .inl (e _ _ h)
 ·exact .inr ⟨o, e _ _ h⟩
theorem Ext.stay {K : PySem.W.Frag} {F F' : Addr -> Prop} {H H' : Hp} (e : Ext F F' H H') : Stay K F F' H H' :=
 ⟨e.up, fun _ _ h => Same.sqT e.same h, fun _ _ _ h => Same.rd e.same h, fun _ _ _ h => e.same _ _ h⟩
theorem zJk {H : Hp} {p : Addr} {o : HO} (hp : H p = none) : Same H (upd H p o) := fun b u e => by
 rw [zAm (zBA e hp)]; exact e
theorem Ext.fresh {F : Addr -> Prop} {H : Hp} {p : Addr} {o : HO} (hp : H p = none) : Ext F F H (upd H p o) := ⟨zJk hp, fun _ h => h, fun _ h => .inl h⟩
theorem Ext.frozen {F : Addr -> Prop} {H : Hp} {p : Addr} {o : HO} (hp : H p = none) : Ext F (fun a => F a ∨ a = p) H (upd H p o) :=
 ⟨zJk hp, fun _ h => .inl h, fun a h => h.elim .inl fun e => .inr (by subst e; exact ⟨hp, by rw [zAL]; simp⟩)⟩
theorem Rep.newTup {K : PySem.W.Frag} {F : Addr -> Prop} {H : Hp} {p : Addr} {vs : List V} {ds : List D} (hp : H p = none) (r : Reps K F H ds vs) : Rep K F (upd H p (.tup vs)) (.tuple ds) (.ref p) :=
 .tup (.inl (.inl zAL)) (r.stay (Ext.fresh hp).stay)
theorem Rep.newLst {K : PySem.W.Frag} {F : Addr -> Prop} {H : Hp} {p : Addr} {vs : List V} {ds : List D} (hp : H p = none) (r : Reps K F H ds vs) : Rep K (fun a => F a ∨ a = p) (upd H p (.lst vs)) (.list ds) (.ref p) :=
 .lst (.inl ⟨.inr rfl, .inl zAL⟩) (r.stay (Ext.frozen hp).stay)
inductive Sl where
 | no
 | dat (d : D)
 | own (ds : List D)
 | ownD (kvs : List (D × D))
 | ownM (kvs : List (List Int × List D))
structure Q4 where
 k : List Int
 b : Addr
 c : Addr
 vs : List V
def Q4.ent (q : Q4) : DKey × Addr × V := (.inl q.k, q.b, .ref q.c)
structure MEnt (K : PySem.W.Frag) (F : Addr -> Prop) (H H₀ : Hp) (kv : List Int × List D) (q : Q4) : Prop where
 key : kv.1 = q.k
 sq : SqT K H q.b (q.k.map V.int)
 hc : H q.c = some (LstO q.c q.vs)
 nf : ¬ F q.c
 h0 : H₀ q.c = none
 rs : Reps K F H kv.2 q.vs
structure zDO (K : PySem.W.Frag) (F : Addr -> Prop) (H H₀ : Hp) (kvs : List (List Int × List D)) (a : Addr) (qs : List Q4) (ep : Nat) : Prop where
 hd : H a = some (DctO a (qs.map Q4.ent) ep)
 nf : ¬ F a
 h0 : H₀ a = none
 nd : (qs.map (·.k)).Nodup
 ln : qs.length <= 1000
 nv : (qs.map (·.c)).Nodup
 na : a ∉ qs.map (·.c)
 ps : Paired (MEnt K F H H₀) kvs qs
def SlOk (K : PySem.W.Frag) (F : Addr -> Prop) (H H₀ : Hp) : Option V -> Sl -> Prop
 | _, .no => True
 | o, .dat d => ∃ v, o = some v /\ Rep K F H d v
 | o, .own ds => ∃ a vs, o = some (.ref a) /\ H a = some (.lst vs) /\ ¬ F a /\ H₀ a = none /\ Reps K F H ds vs
 | o, .ownD kvs => ∃ a es ep, o = some (.ref a) /\ H a = some (DctO a es ep) /\ ¬ F a /\ H₀ a = none /\ (es.map (·.1)).Nodup /\ es.length <= 1000 /\ DReps K F H kvs es
 | o, .ownM kvs => ∃ a es ep, o = some (.ref a) /\ zDO K F H H₀ kvs a es ep
structure StOk (K : PySem.W.Frag) (F : Addr -> Prop) (H H₀ : Hp) (σ : L2.St) (ρ : List Sl) : Prop where
 len : σ.length = ρ.length
 sl : ∀ (i : Nat) (s : Sl), ρ[i]? = some s -> ∃ o, σ[i]? = some o /\ SlOk K F H H₀ o s
 sep : ∀ (i j : Nat) (a : Addr) (ds es : List D), i ≠ j -> ρ[i]? = some (.own ds) -> ρ[j]? = some (.own es) -> σ[i]? = some (some (.ref a)) -> σ[j]? ≠ some (some (.ref a))
 fz : ∀ a, F a -> H a ≠ none
theorem zDO.to {K : PySem.W.Frag} {F F' : Addr -> Prop} {H H' H₀ : Hp} {kvs : List (List Int × List D)} {a : Addr} {es : List Q4} {ep : Nat} (m : zDO K F H H₀ kvs a es ep) (T : Stay K F F' H H')
  (k : ∀ b φ, H b = some (.ext φ) -> ¬ F b -> H' b = some (.ext φ) /\ ¬ F' b) : zDO K F' H' H₀ kvs a es ep :=
 ⟨(k _ _ m.hd m.nf).1, (k _ _ m.hd m.nf).2, m.h0, m.nd, m.ln, m.nv, m.na, Paired.mapP m.ps fun _ _ q => ⟨q.key, T.tp _ _ q.sq, (k _ _ q.hc q.nf).1, (k _ _ q.hc q.nf).2, q.h0, q.rs.stay T⟩⟩
theorem SlOk.ext {K : PySem.W.Frag} {F F' : Addr -> Prop} {H H' H₀ : Hp} (e : Ext F F' H H') {o : Option V} {s : Sl} (h : SlOk K F H H₀ o s) : SlOk K F' H' H₀ o s := by
 cases s with
 | no => trivial
 | ownM kvs =>
  obtain ⟨a, es, ep, q, m⟩ := h
  refine ⟨a, es, ep, q, m.to e.stay fun b φ hb nf => ⟨e.same _ _ hb, fun f => ?_⟩⟩
  rcases e.new b f with f | ⟨f, _⟩
  ·exact nf f
  ·rw [hb] at f; cases f
 | ownD kvs =>
  obtain ⟨a, es, ep, q, ha, nf, h0, n, l, r⟩ := h
  refine ⟨a, es, ep, q, e.same _ _ ha, fun f => ?_, h0, n, l, r.stay e.stay⟩
  rcases e.new a f with f | ⟨f, _⟩
  ·exact nf f
  ·rw [ha] at f; cases f
 | dat d => obtain ⟨v, q, r⟩ := h; exact ⟨v, q, r.stay e.stay⟩
 | own ds =>
  obtain ⟨a, vs, q, ha, nf, h0, r⟩ := h
  refine ⟨a, vs, q, e.same _ _ ha, fun f => ?_, h0, r.stay e.stay⟩
  rcases e.new a f with f | ⟨f, _⟩
  ·exact nf f
  ·rw [ha] at f; cases f
theorem Ext.fz {F F' : Addr -> Prop} {H H' : Hp} (e : Ext F F' H H') (z : ∀ a, F a -> H a ≠ none) : ∀ a, F' a -> H' a ≠ none := fun a f q => by
 rcases e.new a f with f | ⟨_, f⟩
 ·exact z a f (e.same.free q)
 ·exact f q
theorem StOk.ext {K : PySem.W.Frag} {F F' : Addr -> Prop} {H H' H₀ : Hp} {σ : L2.St} {ρ : List Sl} (S : StOk K F H H₀ σ ρ) (e : Ext F F' H H') : StOk K F' H' H₀ σ ρ :=
 ⟨S.len, fun i s h => let ⟨o, q, r⟩ := S.sl i s h; ⟨o, q, r.ext e⟩, S.sep, e.fz S.fz⟩
theorem StOk.dat {K : PySem.W.Frag} {F : Addr -> Prop} {H H₀ : Hp} {σ : L2.St} {ρ : List Sl} (S : StOk K F H H₀ σ ρ) {i : Nat} {d : D} (h : ρ[i]? = some (.dat d)) : ∃ v, σ[i]? = some (some v) /\ Rep K F H d v := by
 obtain ⟨o, q, v, e, r⟩ := S.sl i _ h
 exact ⟨v, by rw [q, e], r⟩
theorem StOk.ownD {K : PySem.W.Frag} {F : Addr -> Prop} {H H₀ : Hp} {σ : L2.St} {ρ : List Sl} (S : StOk K F H H₀ σ ρ) {i : Nat} {kvs : List (D × D)} (h : ρ[i]? = some (.ownD kvs)) :
  ∃ a es ep, σ[i]? = some (some (.ref a)) /\ H a = some (DctO a es ep) /\ ¬ F a /\ H₀ a = none /\ (es.map (·.1)).Nodup /\ es.length <= 1000 /\ DReps K F H kvs es := by
 obtain ⟨o, q, a, es, ep, e, r⟩ := S.sl i _ h
 exact ⟨a, es, ep, by rw [q, e], r⟩
theorem StOk.own {K : PySem.W.Frag} {F : Addr -> Prop} {H H₀ : Hp} {σ : L2.St} {ρ : List Sl} (S : StOk K F H H₀ σ ρ) {i : Nat} {ds : List D} (h : ρ[i]? = some (.own ds)) :
  ∃ a vs, σ[i]? = some (some (.ref a)) /\ H a = some (.lst vs) /\ ¬ F a /\ H₀ a = none /\ Reps K F H ds vs := by
 obtain ⟨o, q, a, vs, e, r⟩ := S.sl i _ h
 exact ⟨a, vs, by rw [q, e], r⟩
theorem StOk.put {K : PySem.W.Frag} {F : Addr -> Prop} {H H₀ : Hp} {σ : L2.St} {ρ : List Sl} (S : StOk K F H H₀ σ ρ) {i : Nat} {d : D} {v : V} (r : Rep K F H d v) : StOk K F H H₀ (σ.set i (some v)) (ρ.set i (.dat d)) := by
 refine ⟨by simp [S.len], fun j s h => ?_, fun j k a ds es hjk h1 h2 h3 => ?_, S.fz⟩
 ·by_cases hij : i = j
  ·subst hij
   have hl : i < ρ.length := by
    have := Qd.mp h
    simpa using this.1
   rw [Qv hl] at h
   cases h
   exact ⟨some v, by rw [Qv (by rw [S.len]; exact hl)], v, rfl, r⟩
  ·rw [Qs hij] at h
   obtain ⟨o, q, w⟩ := S.sl j s h
   exact ⟨o, by rw [Qs hij]; exact q, w⟩
 ·have nj : i ≠ j := by
   intro e; subst e
   have hl : i < ρ.length := by
    have := Qd.mp h1
    simpa using this.1
   rw [Qv hl] at h1; cases h1
  have nk : i ≠ k := by
   intro e; subst e
   have hl : i < ρ.length := by
    have := Qd.mp h2
    simpa using this.1
   rw [Qv hl] at h2; cases h2
  rw [Qs nj] at h1 h3
  rw [Qs nk] at h2 ⊢
  exact S.sep j k a ds es hjk h1 h2 h3
theorem StOk.putOwn {K : PySem.W.Frag} {F : Addr -> Prop} {H H₀ : Hp} {σ : L2.St} {ρ : List Sl} (S : StOk K F H H₀ σ ρ) {i : Nat} {ds : List D} {vs : List V} {p : Addr} (hp : H p = none) (h0 : H₀ p = none) (r : Reps K F H ds vs) :
  StOk K F (upd H p (.lst vs)) H₀ (σ.set i (some (.ref p))) (ρ.set i (.own ds)) := by
 have e : Ext F F H (upd H p (.lst vs)) := Ext.fresh hp
 have S' := S.ext e
 have hf : ¬ F p := fun f => S.fz p f hp
 refine ⟨by simp [S.len], fun j s h => ?_, fun j k a ds' es hjk h1 h2 h3 h4 => ?_, S'.fz⟩
 ·by_cases hij : i = j
  ·subst hij
   have hl : i < ρ.length := by
    have := Qd.mp h
    simpa using this.1
   rw [Qv hl] at h
   cases h
   exact ⟨some (.ref p), by rw [Qv (by rw [S.len]; exact hl)], p, vs, rfl, zAL, hf, h0, r.stay e.stay⟩
  ·rw [Qs hij] at h
   obtain ⟨o, q, w⟩ := S'.sl j s h
   exact ⟨o, by rw [Qs hij]; exact q, w⟩
 ·have old : ∀ (m : Nat) (a : Addr) (es : List D), i ≠ m -> (ρ.set i (.own ds))[m]? = some (.own es) -> (σ.set i (some (.ref p)))[m]? = some (some (.ref a)) -> a ≠ p := fun m a es nm g1 g2 z => by
   rw [Qs nm] at g1 g2
   obtain ⟨b, us, q1, q2, _⟩ := S.own g1
   rw [q1] at g2; cases g2
   subst z
   rw [hp] at q2; cases q2
  by_cases hij : i = j
  ·subst hij
   have hik : i ≠ k := hjk
   have hl : i < ρ.length := by
    have := Qd.mp h1
    simpa using this.1
   rw [Qv (by rw [S.len]; exact hl)] at h3
   cases h3
   exact old k p es hik h2 h4 rfl
  ·by_cases hik : i = k
   ·subst hik
    have hl : i < ρ.length := by
     have := Qd.mp h2
     simpa using this.1
    rw [Qv (by rw [S.len]; exact hl)] at h4
    cases h4
    exact old j p ds' hij h1 h3 rfl
   ·rw [Qs hij] at h1 h3
    rw [Qs hik] at h2 h4
    exact S.sep j k a ds' es hjk h1 h2 h3 h4
theorem StOk.turn {K : PySem.W.Frag} {F : Addr -> Prop} {H H₀ : Hp} {σ : L2.St} {ρ : List Sl} (S : StOk K F H H₀ σ ρ) {i : Nat} {ds es : List D} {vs us : List V} {p : Addr} (hi : ρ[i]? = some (.own ds)) (hs : σ[i]? = some (some (.ref p)))
  (hp : H p = some (.lst vs)) (hf : ¬ F p) (r : Reps K F H es us) : StOk K F (upd H p (.lst us)) H₀ σ (ρ.set i (.own es)) /\ Stay K F F H (upd H p (.lst us)) := by
 have T : Stay K F F H (upd H p (.lst us)) := ⟨fun _ h => h, fun a xs h => by
   rcases h with (h | ⟨o, h⟩) | h
   ·exact .inl (.inl (by rw [zAm (by intro z; subst z; rw [hp] at h; cases h)]; exact h))
   ·exact .inl (.inr ⟨o, by rw [zAm (by intro z; subst z; rw [hp] at h; cases h)]; exact h⟩)
   ·exact .inr h, fun a xs f h => by
   have na : a ≠ p := fun z => hf (z ▸ f)
   rcases h with h | ⟨o, h⟩
   ·exact .inl (by rw [zAm na]; exact h)
   ·exact .inr ⟨o, by rw [zAm na]; exact h⟩, fun a φ f h => by rw [zAm (fun z => hf (by rw [<- z]; exact f))]; exact h⟩
 refine ⟨⟨by simp [S.len], fun j s h => ?_, fun j k a ds' es' hjk h1 h2 h3 => ?_, fun a f z => S.fz a f (by
  have na : a ≠ p := fun y => hf (by rw [<- y]; exact f)
  rwa [zAm na] at z)⟩, T⟩
 ·by_cases hij : i = j
  ·subst hij
   have hl : i < ρ.length := (Qd.mp hi).1
   rw [Qv hl] at h
   cases h
   obtain ⟨a, ws, q1, _, _, q4, _⟩ := S.own hi
   rw [hs] at q1; cases q1
   exact ⟨_, hs, p, us, rfl, zAL, hf, q4, r.stay T⟩
  ·rw [Qs hij] at h
   obtain ⟨o, q, w⟩ := S.sl j s h
   refine ⟨o, q, ?_⟩
   cases s with
   | no => trivial
   | ownM kvs =>
    obtain ⟨a, es', ep, q', m⟩ := w
    exact ⟨a, es', ep, q', m.to T fun b φ hb nf => ⟨by rw [zAm (by intro z; subst z; rw [hp] at hb; cases hb)]; exact hb, nf⟩⟩
   | ownD kvs =>
    obtain ⟨a, es', ep, q', ha, nf, h0, n, l, r'⟩ := w
    exact ⟨a, es', ep, q', by rw [zAm (by intro z; subst z; rw [hp] at ha; cases ha)]; exact ha, nf, h0, n, l, r'.stay T⟩
   | dat d => obtain ⟨v, q', r'⟩ := w; exact ⟨v, q', r'.stay T⟩
   | own ds' =>
    obtain ⟨a, ws, q', ha, nf, h0, r'⟩ := w
    have na : a ≠ p := by
     intro z; subst z
     exact S.sep i j a ds ds' hij hi h hs (by rw [q, q'])
    exact ⟨a, ws, q', by rw [zAm na]; exact ha, nf, h0, r'.stay T⟩
 ·have get : ∀ (m : Nat) (es' : List D), (ρ.set i (.own es))[m]? = some (.own es') -> ∃ ds'' : List D, ρ[m]? = some (.own ds'') := fun m es' g => by
   by_cases him : i = m
   ·subst him; exact ⟨ds, hi⟩
   ·rw [Qs him] at g; exact ⟨es', g⟩
  obtain ⟨d1, g1⟩ := get j ds' h1
  obtain ⟨d2, g2⟩ := get k es' h2
  exact S.sep j k a d1 d2 hjk g1 g2 h3
def frz : Sl -> Sl
 | .own ds => .dat (.list ds)
 | .ownD kvs => .dat (.dict kvs)
 | .ownM _ => .no
 | s => s
def Own (σ : L2.St) (ρ : List Sl) (a : Addr) : Prop := (∃ (i : Nat) (ds : List D), ρ[i]? = some (.own ds) /\ σ[i]? = some (some (.ref a))) ∨ ∃ (i : Nat) (kvs : List (D × D)), ρ[i]? = some (.ownD kvs) /\ σ[i]? = some (some (.ref a))
theorem StOk.frz {K : PySem.W.Frag} {F : Addr -> Prop} {H H₀ : Hp} {σ : L2.St} {ρ : List Sl} (S : StOk K F H H₀ σ ρ) : StOk K (fun a => F a ∨ Own σ ρ a) H H₀ σ (ρ.map frz) := by
 have T : Stay K F (fun a => F a ∨ Own σ ρ a) H H := ⟨fun _ h => .inl h, fun _ _ h => h, fun _ _ _ h => h, fun _ _ _ h => h⟩
 refine ⟨by simp [S.len], fun j s h => ?_, fun j k a ds es _ h1 => ?_, fun a f => ?_⟩
 ·rw [QP] at h
  cases e : ρ[j]? with
  | none => rw [e] at h; cases h
  | some s' =>
   rw [e] at h
   obtain ⟨o, q, w⟩ := S.sl j s' e
   refine ⟨o, q, ?_⟩
   cases s' with
   | no => cases h; trivial
   | ownM kvs => cases h; trivial
   | ownD kvs =>
    cases h
    obtain ⟨a, es, ep, q', ha, nf, h0, n, l, r⟩ := w
    exact ⟨.ref a, q', .dct (.inr (.inr ⟨j, kvs, e, by rw [q, q']⟩)) ha n l (r.stay T)⟩
   | dat d => cases h; obtain ⟨v, q', r⟩ := w; exact ⟨v, q', r.stay T⟩
   | own ds =>
    cases h
    obtain ⟨a, vs, q', ha, nf, h0, r⟩ := w
    exact ⟨.ref a, q', .lst (.inl ⟨.inr (.inl ⟨j, ds, e, by rw [q, q']⟩), .inl ha⟩) (r.stay T)⟩
 ·rw [QP] at h1
  cases e : ρ[j]? with
  | none => rw [e] at h1; cases h1
  | some s' => rw [e] at h1; cases s' <;> cases h1
 ·rcases f with f | ⟨i, ds, q1, q2⟩ | ⟨i, kvs, q1, q2⟩
  ·exact S.fz a f
  ·obtain ⟨b, vs, g1, g2, _⟩ := S.own q1
   rw [g1] at q2; cases q2
   rw [g2]; simp
  ·obtain ⟨b, vs, ep, g1, g2, _⟩ := S.ownD q1
   rw [g1] at q2; cases q2
   rw [g2]; simp
theorem StOk.frz1 {K : PySem.W.Frag} {F : Addr -> Prop} {H H₀ : Hp} {σ : L2.St} {ρ : List Sl} (S : StOk K F H H₀ σ ρ) {i : Nat} {ds : List D} (hi : ρ[i]? = some (.own ds)) :
  ∃ a, H₀ a = none /\ StOk K (fun b => F b ∨ b = a) H H₀ σ (ρ.set i (.dat (.list ds))) := by
 obtain ⟨a, vs, q1, q2, nf, h0, r⟩ := S.own hi
 have T : Stay K F (fun b => F b ∨ b = a) H H := ⟨fun _ h => .inl h, fun _ _ h => h, fun _ _ _ h => h, fun _ _ _ h => h⟩
 have hl : i < ρ.length := (Qd.mp hi).1
 refine ⟨a, h0, by simp [S.len], fun j s h => ?_, fun j k b ds' es hjk h1 h2 h3 => ?_, fun b f => f.elim (S.fz b) fun z => by subst z; rw [q2]; simp⟩
 ·by_cases hij : i = j
  ·subst hij
   rw [Qv hl] at h
   cases h
   exact ⟨_, q1, .ref a, rfl, .lst (.inl ⟨.inr rfl, .inl q2⟩) (r.stay T)⟩
  ·rw [Qs hij] at h
   obtain ⟨o, q, w⟩ := S.sl j s h
   refine ⟨o, q, ?_⟩
   cases s with
   | no => trivial
   | ownM kvs =>
    obtain ⟨b, es', ep, q', m⟩ := w
    refine ⟨b, es', ep, q', m.to T fun c φ hb nf' => ⟨hb, fun f => ?_⟩⟩
    rcases f with f | f
    ·exact nf' f
    ·subst f; rw [hb] at q2; cases q2
   | ownD kvs =>
    obtain ⟨b, es', ep, q', ha, nf', h0', n, l, r'⟩ := w
    refine ⟨b, es', ep, q', ha, fun f => ?_, h0', n, l, r'.stay T⟩
    rcases f with f | f
    ·exact nf' f
    ·subst f; rw [ha] at q2; cases q2
   | dat d => obtain ⟨v, q', r'⟩ := w; exact ⟨v, q', r'.stay T⟩
   | own ds' =>
    obtain ⟨b, ws, q', ha, nf', h0', r'⟩ := w
    refine ⟨b, ws, q', ha, fun f => ?_, h0', r'.stay T⟩
    rcases f with f | f
    ·exact nf' f
    ·subst f
     exact S.sep i j b ds ds' hij hi h q1 (by rw [q, q'])
 ·have nj : i ≠ j := by intro e; subst e; rw [Qv hl] at h1; cases h1
  have nk : i ≠ k := by intro e; subst e; rw [Qv hl] at h2; cases h2
  rw [Qs nj] at h1
  rw [Qs nk] at h2
  exact S.sep j k b ds' es hjk h1 h2 h3
end DL
namespace DL
open PySem PySem.Spec PyProof.Rows L2
abbrev Rho := List Sl
section
variable {X : Cx}
theorem zAK {e : Expr} {t t' : TE} (h : PE X e t) (m : ∀ σ H Q, t' σ H Q -> t σ H Q) : PE X e t' := fun pins s σ H Q I q => h pins s σ H Q I (m σ H Q q)
theorem zEs {e : Expr} {t t' : TT} (h : PT X e t) (m : ∀ σ H Q, t' σ H Q -> t σ H Q) : PT X e t' := fun pins s σ H Q I q => h pins s σ H Q I (m σ H Q q)
theorem zI7 {e : Expr} {t t' : TT} (h : PW X e t) (m : ∀ σ H Q, t' σ H Q -> t σ H Q) : PW X e t' := fun wh pins s σ H Q I q => h wh pins s σ H Q I (m σ H Q q)
theorem zIM {es : List Expr} {t t' : TA} (h : PA X es t) (m : ∀ σ H Q, t' σ H Q -> t σ H Q) : PA X es t' := fun pos pins s σ H Q I q => h pos pins s σ H Q I (m σ H Q q)
theorem ps_mono {e : Stmt} {t t' : TS} (h : PS X e t) (m : ∀ W σ H, t' W σ H -> t W σ H) : PS X e t' := fun pins s σ H W I q => h pins s σ H W I (m W σ H q)
theorem zF0 {e : List Stmt} {t t' : TS} (h : PSs X e t) (m : ∀ W σ H, t' W σ H -> t W σ H) : PSs X e t' := fun pins s σ H W I q => h pins s σ H W I (m W σ H q)
theorem zCP {f : Value -> Value -> Sem Value} {r r' : R2} (h : OpR X f r) (m : ∀ x y H Q, r' x y H Q -> r x y H Q) : OpR X f r' := fun pins s σ H x y v u Q I rx ry q => h pins s σ H x y v u Q I rx ry (m x y H Q q)
theorem zOR {f : Value -> Sem Value} {r r' : V -> Hp -> VK -> Prop} (h : UnR X f r) (m : ∀ x H Q, r' x H Q -> r x H Q) : UnR X f r' := fun pins s σ H x v Q I rx q => h pins s σ H x v Q I rx (m x H Q q)
theorem zB3 {f : Value} {r r' : List V -> Hp -> VK -> Prop} (h : zAH X f r) (m : ∀ x H Q, r' x H Q -> r x H Q) : zAH X f r' := fun pins s σ H x v Q I rx q => h pins s σ H x v Q I rx (m x H Q q)
theorem zIc {r r' : R2} (h : IxR X r) (m : ∀ x y H Q, r' x y H Q -> r x y H Q) : IxR X r' := fun a b pins s σ H x y v u Q I rx ry q hs => h a b pins s σ H x y v u Q I rx ry (m x y H Q q) hs
end
inductive TDx (K : PySem.W.Frag) (σ : L2.St) (H : Hp) {α : Type} (g : Rho -> Option α) (h : (Addr -> Prop) -> α -> Prop) : Prop
 | mk (F : Addr -> Prop) (H₀ : Hp) (ρ : Rho) (x : α) (S : StOk K F H H₀ σ ρ) (q : g ρ = some x) (k : h F x) : TDx K σ H g h
def tD (K : PySem.W.Frag) (g : Rho -> Option D) : TE := fun σ H Q => TDx K σ H g fun F d => ∀ F' H' v, Ext F F' H H' -> Rep K F' H' d v -> Q v H'
def tDT (K : PySem.W.Frag) (g : Rho -> Option Bool) : TT := fun σ H Q => TDx K σ H g fun F b => ∀ F' H', Ext F F' H H' -> Q b H'
def tDA (K : PySem.W.Frag) (g : Rho -> Option (List D)) : TA := fun σ H Q => TDx K σ H g fun F ds => ∀ F' H' vs, Ext F F' H H' -> Reps K F' H' ds vs -> Q vs H'
def DE (X : Cx) (e : Expr) (g : Rho -> Option D) : Prop := PE X e (tD X.K g)
def DT (X : Cx) (e : Expr) (g : Rho -> Option Bool) : Prop := PT X e (tDT X.K g)
def DW (X : Cx) (e : Expr) (g : Rho -> Option Bool) : Prop := PW X e (tDT X.K g)
def DA (X : Cx) (es : List Expr) (g : Rho -> Option (List D)) : Prop := PA X es (tDA X.K g)
def eC (d : D) : Rho -> Option D := fun _ => some d
def eV (i : Nat) : Rho -> Option D := fun ρ => match ρ[i]? with
 | some (.dat d) => some d
 | _ => none
def eOp (f : D -> D -> Option D) (ga gb : Rho -> Option D) : Rho -> Option D := fun ρ => (ga ρ).bind fun x => (gb ρ).bind fun y => f x y
def eUn (f : D -> Option D) (ga : Rho -> Option D) : Rho -> Option D := fun ρ => (ga ρ).bind f
def eNil : Rho -> Option (List D) := fun _ => some []
def zAb (ga : Rho -> Option D) (gr : Rho -> Option (List D)) : Rho -> Option (List D) := fun ρ => (ga ρ).bind fun x => (gr ρ).bind fun xs => some (x :: xs)
def eTup (ga : Rho -> Option (List D)) : Rho -> Option D := fun ρ => (ga ρ).bind fun xs => if xs.length <= 1000 then some (.tuple xs) else none
def eLst (ga : Rho -> Option (List D)) : Rho -> Option D := fun ρ => (ga ρ).bind fun xs => if xs.length <= 1000 then some (.list xs) else none
def zAf (G : List D -> Option D) (ga : Rho -> Option (List D)) : Rho -> Option D := fun ρ => (ga ρ).bind G
def asB : D -> Option Bool
 | .bool b => some b
 | _ => none
def asI : D -> Option Int
 | .int i => some i
 | _ => none
def eB (ga : Rho -> Option D) : Rho -> Option Bool := fun ρ => (ga ρ).bind asB
def eAnd (t u : Rho -> Option Bool) : Rho -> Option Bool := fun ρ => (t ρ).bind fun b => if b = true then u ρ else some false
def eOr (t u : Rho -> Option Bool) : Rho -> Option Bool := fun ρ => (t ρ).bind fun b => if b = true then some true else u ρ
def eNot (t : Rho -> Option Bool) : Rho -> Option Bool := fun ρ => (t ρ).bind fun b => some (!b)
def eIf (t : Rho -> Option Bool) (ga gb : Rho -> Option D) : Rho -> Option D := fun ρ => (t ρ).bind fun b => if b = true then ga ρ else gb ρ
def zBn (ga gb : Rho -> Option D) : Rho -> Option D := fun ρ => (ga ρ).bind fun x => (asB x).bind fun c => if c = true then gb ρ else some (.bool false)
def zHk (ga : Rho -> Option D) : Rho -> Option D := fun ρ => (ga ρ).bind fun x => (asB x).bind fun c => some (.bool (!c))
def zBo (h h' : D -> D -> Option D) (ga gb gc : Rho -> Option D) : Rho -> Option D := fun ρ => (ga ρ).bind fun x => (gb ρ).bind fun y => (h x y).bind fun z => (asB z).bind fun k => if k = true then (gc ρ).bind fun w => h' y w else some (.bool false)
inductive RD2 (K : PySem.W.Frag) (h : D -> D -> Option D) (x y : V) (H : Hp) (Q : VK) : Prop
 | mk (F : Addr -> Prop) (d e r : D) (z : ∀ a, F a -> H a ≠ none) (R1 : Rep K F H d x) (R2 : Rep K F H e y) (q : h d e = some r) (k : ∀ F' H' v, Ext F F' H H' -> Rep K F' H' r v -> Q v H') : RD2 K h x y H Q
def rD2 (K : PySem.W.Frag) (h : D -> D -> Option D) : R2 := fun x y H Q => RD2 K h x y H Q
inductive RD1 (K : PySem.W.Frag) (h : D -> Option D) (x : V) (H : Hp) (Q : VK) : Prop
 | mk (F : Addr -> Prop) (d r : D) (z : ∀ a, F a -> H a ≠ none) (R1 : Rep K F H d x) (q : h d = some r) (k : ∀ F' H' v, Ext F F' H H' -> Rep K F' H' r v -> Q v H') : RD1 K h x H Q
def rD1 (K : PySem.W.Frag) (h : D -> Option D) : V -> Hp -> VK -> Prop := fun x H Q => RD1 K h x H Q
inductive RDA (K : PySem.W.Frag) (h : List D -> Option D) (xs : List V) (H : Hp) (Q : VK) : Prop
 | mk (F : Addr -> Prop) (ds : List D) (r : D) (z : ∀ a, F a -> H a ≠ none) (R1 : Reps K F H ds xs) (q : h ds = some r) (k : ∀ F' H' v, Ext F F' H H' -> Rep K F' H' r v -> Q v H') : RDA K h xs H Q
def rDA (K : PySem.W.Frag) (h : List D -> Option D) : List V -> Hp -> VK -> Prop := fun xs H Q => RDA K h xs H Q
section
variable {X : Cx} {a b c e : Expr} {es : List Expr} {ga gb gc : Rho -> Option D} {pos p : Pos}
theorem bnd {α β : Type} {o : Option α} {f : α -> Option β} {b : β} (h : o.bind f = some b) : ∃ a, o = some a /\ f a = some b := by
 cases o with
 | none => cases h
 | some a => exact ⟨a, rfl, h⟩
theorem zDV {v : V} {d : D} (h : PE X e (tC v)) (r : ∀ K F H, Rep K F H d v) : DE X e (eC d) :=
 zAK h fun σ H Q zz => by
  obtain ⟨F, H₀, ρ, d', S, q, k⟩ := zz
  cases q
  exact k F H v (Ext.refl F H) (r _ _ _)
theorem zAe {i : Int} {j : Nat} : DE X (.Constant (.int i) j pos) (eC (.int i)) := zDV zM9 fun _ _ _ => .int i
theorem zAW {i : Bool} {j : Nat} : DE X (.Constant (.bool i) j pos) (eC (.bool i)) := zDV pe_bl fun _ _ _ => .bl i
theorem zBP {j : Nat} : DE X (.Constant .none j pos) (eC .none) := zDV zNa fun _ _ _ => .non
theorem zEZ {x : Str} {j : Nat} : DE X (.Constant (.str x) j pos) (eC (.str x)) := zDV zFX fun _ _ _ => .str x
theorem zAc (i : Nat) {x : Str} (hN : X.N[i]? = some x := by rfl) (hv : Vis X.env.scope x := by first | exact Or.inl rfl | exact Or.inr (Or.inl rfl) | exact Or.inr (Or.inr rfl)) (hd : (x == ("__debug__" : Str)) = false := by decide)
  (hcd : (x == ("__classdict__" : Str)) = false := by decide) : DE X (.Name x pos) (eV i) :=
 zAK (zCS hN hv hd hcd) fun σ H Q zz => by
  obtain ⟨F, H₀, ρ, d, S, q, k⟩ := zz
  unfold eV at q
  split at q
  ·rename_i d' e
   cases q
   obtain ⟨v, hs, r⟩ := S.dat e
   exact ⟨v, hs, k F H v (Ext.refl F H) r⟩
  ·cases q
theorem zEf {h : D -> D -> Option D} {σ : L2.St} {H : Hp} {Q : VK} (q : tD X.K (eOp h ga gb) σ H Q) : tOp (rD2 X.K h) (tD X.K ga) (tD X.K gb) σ H Q := by
 obtain ⟨F, H₀, ρ, d, S, q, k⟩ := q
 obtain ⟨x, e1, q⟩ := bnd q
 obtain ⟨y, e2, q⟩ := bnd q
 exact ⟨F, H₀, ρ, x, S, e1, fun F1 H1 v E1 R1 => ⟨F1, H₀, ρ, y, S.ext E1, e2, fun F2 H2 u E2 R2 => ⟨F2, x, y, d, ((S.ext E1).ext E2).fz, R1.stay E2.stay, R2, q, fun F3 H3 w E3 R3 => k F3 H3 w (E1.trans (E2.trans E3)) R3⟩⟩⟩
theorem zAn {op : Operator} {h : D -> D -> Option D} (ho : OpR X (binaryOp op) (rD2 X.K h)) (ha : DE X a ga) (hb : DE X b gb) : DE X (.BinOp a op b pos) (eOp h ga gb) :=
 zAK (pe_op ho ha hb) fun _ _ _ q => zEf q
theorem zEX {op : CmpOp} {h : D -> D -> Option D} (ho : OpR X (compareOp op) (rD2 X.K h)) (ha : DE X a ga) (hb : DE X b gb) (hm : behindInMarks op b = false) : DE X (.Compare a [op] [b] pos) (eOp h ga gb) :=
 zAK (zM4 ho ha hb hm) fun _ _ _ q => zEf q
theorem zAl {h : D -> D -> Option D} (ho : IxR X (rD2 X.K h)) (ha : DE X a ga) (hb : DE X b gb) (hs : zDe b := by exact fun _ _ => rfl) : DE X (.Subscript a b pos) (eOp h ga gb) :=
 zAK (zEp ho ha hb hs) fun _ _ _ q => zEf q
theorem zBl {op : UnaryOp} {h : D -> Option D} (ho : UnR X (unaryOp op) (rD1 X.K h)) (ha : DE X a ga) : DE X (.UnaryOp op a pos) (eUn h ga) :=
 zAK (pe_un ho ha) fun σ H Q zz => by
  obtain ⟨F, H₀, ρ, d, S, q, k⟩ := zz
  obtain ⟨x, e1, q⟩ := bnd q
  exact ⟨F, H₀, ρ, x, S, e1, fun F1 H1 v E1 R1 => ⟨F1, x, d, (S.ext E1).fz, R1, q, fun F3 H3 w E3 R3 => k F3 H3 w (E1.trans E3) R3⟩⟩
theorem zDD {K : PySem.W.Frag} {F : Addr -> Prop} {H : Hp} {d : D} {v : V} {b : Bool} (r : Rep K F H d v) (h : asB d = some b) : v = .bl b := by
 cases r with
 | bl c => cases h; rfl
 | _ => cases h
theorem zNV {K : PySem.W.Frag} {F : Addr -> Prop} {H : Hp} {d : D} {v : V} {i : Int} (r : Rep K F H d v) (h : asI d = some i) : v = .int i := by
 cases r with
 | int c => cases h; rfl
 | _ => cases h
theorem zIl {t : TE} {g : Rho -> Option D} (m : ∀ σ H Q, tD X.K g σ H Q -> t σ H Q) {σ : L2.St} {H : Hp} {Q : Bool -> Hp -> Prop} (q : tDT X.K (eB g) σ H Q) : zGk t σ H Q := by
 obtain ⟨F, H₀, ρ, b, S, q, k⟩ := q
 obtain ⟨d, e1, q⟩ := bnd q
 exact m σ H _ ⟨F, H₀, ρ, d, S, e1, fun F1 H1 v E1 R1 => ⟨b, zDD R1 q, k F1 H1 E1⟩⟩
theorem zAt {op : CmpOp} {h : D -> D -> Option D} (ho : OpR X (compareOp op) (rD2 X.K h)) (ha : DE X a ga) (hb : DE X b gb) (hm : behindInMarks op b = false) : DT X (.Compare a [op] [b] pos) (eB (eOp h ga gb)) :=
 zEs (zNB ho ha hb hm) fun _ _ _ q => zIl (fun _ _ _ => zEf) q
theorem zIj {h h' : D -> D -> Option D} {σ : L2.St} {H : Hp} {Q : VK} (q : tD X.K (zBo h h' ga gb gc) σ H Q) : zGi (rD2 X.K h) (rD2 X.K h') (tD X.K ga) (tD X.K gb) (tD X.K gc) σ H Q := by
 obtain ⟨F, H₀, ρ, d, S, q, k⟩ := q
 obtain ⟨x, e1, q⟩ := bnd q
 obtain ⟨y, e2, q⟩ := bnd q
 obtain ⟨z, e3, q⟩ := bnd q
 obtain ⟨c', e4, q⟩ := bnd q
 refine ⟨F, H₀, ρ, x, S, e1, fun F1 H1 v E1 R1 => ⟨F1, H₀, ρ, y, S.ext E1, e2, fun F2 H2 u E2 R2 => ⟨F2, x, y, z, ((S.ext E1).ext E2).fz, R1.stay E2.stay, R2, e3, fun F3 H3 w E3 R3 => ⟨c', zDD R3 e4, ?_⟩⟩⟩⟩
 cases c' with
 | false =>
  simp only [Qp, if_false] at q ⊢
  cases q
  exact k F3 H3 _ (E1.trans (E2.trans E3)) (.bl false)
 | true =>
  simp only [if_true] at q ⊢
  obtain ⟨w', e5, q⟩ := bnd q
  have S3 := ((S.ext E1).ext E2).ext E3
  exact ⟨F3, H₀, ρ, w', S3, e5, fun F4 H4 v4 E4 R4 => ⟨F4, y, w', d, (S3.ext E4).fz, (R2.stay E3.stay).stay E4.stay, R4, q, fun F5 H5 v5 E5 R5 => k F5 H5 v5 (E1.trans (E2.trans (E3.trans (E4.trans E5)))) R5⟩⟩
theorem zG1 {op op' : CmpOp} {h h' : D -> D -> Option D} (ho : OpR X (compareOp op) (rD2 X.K h)) (ho' : OpR X (compareOp op') (rD2 X.K h')) (ha : DE X a ga) (hb : DE X b gb) (hc : DE X c gc)
  (hm : lastMarks [op, op'] [b, c] = false := by with_unfolding_all rfl) : DE X (.Compare a [op, op'] [b, c] pos) (zBo h h' ga gb gc) :=
 zAK (zM3 ho ho' ha hb hc hm) fun _ _ _ q => zIj q
theorem zHi {op op' : CmpOp} {h h' : D -> D -> Option D} (ho : OpR X (compareOp op) (rD2 X.K h)) (ho' : OpR X (compareOp op') (rD2 X.K h')) (ha : DE X a ga) (hb : DE X b gb) (hc : DE X c gc)
  (hm : lastMarks [op, op'] [b, c] = false := by with_unfolding_all rfl) : DT X (.Compare a [op, op'] [b, c] pos) (eB (zBo h h' ga gb gc)) :=
 zEs (zNA ho ho' ha hb hc hm) fun _ _ _ q => zIl (fun _ _ _ => zIj) q
theorem zBE (ha : DE X a ga) (he : ∀ whole, isTrue a X.env whole = (do let v <- whole; standAt a.pos; holding [v] (truthy v)) := by intro _; rfl) : DT X a (eB ga) :=
 zEs (zND ha he) fun σ H Q zz => by
  obtain ⟨F, H₀, ρ, b, S, q, k⟩ := zz
  obtain ⟨d, e1, q⟩ := bnd q
  exact ⟨F, H₀, ρ, d, S, e1, fun F1 H1 v E1 R1 => ⟨b, zDD R1 q, k F1 H1 E1⟩⟩
variable {t u : Rho -> Option Bool} {rest : List Expr}
theorem zDY (ha : DT X a t) : DW X (.BoolOp .And [a] pos) t := zNM ha
theorem zCG (ha : DT X a t) : DW X (.BoolOp .Or [a] pos) t := zNN ha
theorem zDX (ha : DT X a t) (hb : DW X (.BoolOp .And (b :: rest) pos) u) : DW X (.BoolOp .And (a :: b :: rest) pos) (eAnd t u) :=
 zI7 (zNL ha hb) fun σ H Q zz => by
  obtain ⟨F, H₀, ρ, r, S, q, k⟩ := zz
  obtain ⟨d, e1, q⟩ := bnd q
  refine ⟨F, H₀, ρ, d, S, e1, fun F1 H1 E1 => ?_⟩
  cases d with
  | true => simp only [if_true] at q ⊢; exact ⟨F1, H₀, ρ, r, S.ext E1, q, fun F2 H2 E2 => k F2 H2 (E1.trans E2)⟩
  | false => simp only [Qp, if_false] at q ⊢; cases q; exact k F1 H1 E1
theorem zCb (ha : DT X a t) (hb : DW X (.BoolOp .Or (b :: rest) pos) u) : DW X (.BoolOp .Or (a :: b :: rest) pos) (eOr t u) :=
 zI7 (pw_or ha hb) fun σ H Q zz => by
  obtain ⟨F, H₀, ρ, r, S, q, k⟩ := zz
  obtain ⟨d, e1, q⟩ := bnd q
  refine ⟨F, H₀, ρ, d, S, e1, fun F1 H1 E1 => ?_⟩
  cases d with
  | false => simp only [Qp, if_false] at q ⊢; exact ⟨F1, H₀, ρ, r, S.ext E1, q, fun F2 H2 E2 => k F2 H2 (E1.trans E2)⟩
  | true => simp only [if_true] at q ⊢; cases q; exact k F1 H1 E1
theorem dw_t (h : DW X a t) : DT X a t := PW.pt h
theorem zCF (ha : DT X a t) : DT X (.UnaryOp .Not a pos) (eNot t) :=
 zEs (zNC ha) fun σ H Q zz => by
  obtain ⟨F, H₀, ρ, r, S, q, k⟩ := zz
  obtain ⟨d, e1, q⟩ := bnd q
  cases q
  exact ⟨F, H₀, ρ, d, S, e1, fun F1 H1 E1 => k F1 H1 E1⟩
theorem zDj {op : BoolOp} (ha : DE X a ga) : DE X (.BoolOp op [a] pos) ga := zNc ha
theorem zDi (ha : DE X a ga) (hb : DE X (.BoolOp .And (b :: rest) pos) gb) : DE X (.BoolOp .And (a :: b :: rest) pos) (zBn ga gb) :=
 zAK (zMZ ha hb) fun σ H Q zz => by
  obtain ⟨F, H₀, ρ, r, S, q, k⟩ := zz
  obtain ⟨d, e1, q⟩ := bnd q
  obtain ⟨c, e2, q⟩ := bnd q
  refine ⟨F, H₀, ρ, d, S, e1, fun F1 H1 v E1 R1 => ⟨c, zDD R1 e2, ?_⟩⟩
  cases c with
  | true => simp only [if_true] at q ⊢; exact ⟨F1, H₀, ρ, r, S.ext E1, q, fun F2 H2 w E2 R2 => k F2 H2 w (E1.trans E2) R2⟩
  | false => simp only [Qp, if_false] at q ⊢; cases q; exact k F1 H1 _ E1 (.bl false)
theorem zKO (ha : DE X a ga) : DE X (.UnaryOp .Not a pos) (zHk ga) :=
 zAK (zNb ha) fun σ H Q zz => by
  obtain ⟨F, H₀, ρ, r, S, q, k⟩ := zz
  obtain ⟨d, e1, q⟩ := bnd q
  obtain ⟨c, e2, q⟩ := bnd q
  cases q
  exact ⟨F, H₀, ρ, d, S, e1, fun F1 H1 v E1 R1 => ⟨c, zDD R1 e2, k F1 H1 _ E1 (.bl _)⟩⟩
theorem zG2 (hc : DT X c t) (ha : DE X a ga) (hb : DE X b gb) : DE X (.IfExp c a b pos) (eIf t ga gb) :=
 zAK (zM8 hc ha hb) fun σ H Q zz => by
  obtain ⟨F, H₀, ρ, r, S, q, k⟩ := zz
  obtain ⟨d, e1, q⟩ := bnd q
  refine ⟨F, H₀, ρ, d, S, e1, fun F1 H1 E1 => ?_⟩
  cases d with
  | true => simp only [if_true] at q ⊢; exact ⟨F1, H₀, ρ, r, S.ext E1, q, fun F2 H2 w E2 R2 => k F2 H2 w (E1.trans E2) R2⟩
  | false => simp only [Qp, if_false] at q ⊢; exact ⟨F1, H₀, ρ, r, S.ext E1, q, fun F2 H2 w E2 R2 => k F2 H2 w (E1.trans E2) R2⟩
variable {gr : Rho -> Option (List D)}
theorem zAd : DA X [] eNil := zIM zCR fun σ H Q zz => by
 obtain ⟨F, H₀, ρ, d, S, q, k⟩ := zz
 cases q
 exact k F H [] (Ext.refl F H) .nil
theorem zKK (ha : DE X e ga) (hr : DA X es gr) (hs : starEach (e :: es) X.env = (false, eval e X.env) :: starEach es X.env := by rfl) : DA X (e :: es) (zAb ga gr) :=
 zIM (zCj ha hr hs) fun σ H Q zz => by
  obtain ⟨F, H₀, ρ, d, S, q, k⟩ := zz
  obtain ⟨x, e1, q⟩ := bnd q
  obtain ⟨xs, e2, q⟩ := bnd q
  cases q
  exact ⟨F, H₀, ρ, x, S, e1, fun F1 H1 v E1 R1 => ⟨F1, H₀, ρ, xs, S.ext E1, e2, fun F2 H2 vs E2 R2 => k F2 H2 _ (E1.trans E2) (.cons (R1.stay E2.stay) R2)⟩⟩
theorem zAR {n : Nat} (h : n <= 1000) : n <= sizeLine := YA (zEF h)
theorem zKR {x1} (h : DA X es gr) : DE X (.Tuple es x1 pos) (eTup gr) :=
 zAK (zNe h) fun σ H Q zz => by
  obtain ⟨F, H₀, ρ, d, S, q, k⟩ := zz
  obtain ⟨xs, e1, q⟩ := bnd q
  refine ⟨F, H₀, ρ, xs, S, e1, fun F1 H1 vs E1 R1 => ?_⟩
  by_cases hl : xs.length <= 1000
  ·rw [if_pos hl] at q
   cases q
   refine ⟨zAR (by rw [<- R1.length]; exact hl), fun p hp => k F1 _ _ (E1.trans (Ext.fresh hp)) (Rep.newTup hp R1)⟩
  ·rw [if_neg hl] at q; cases q
theorem zBO (h : DA X es gr) : DE X (.List es pos) (eLst gr) :=
 zAK (zIW h) fun σ H Q zz => by
  obtain ⟨F, H₀, ρ, d, S, q, k⟩ := zz
  obtain ⟨xs, e1, q⟩ := bnd q
  refine ⟨F, H₀, ρ, xs, S, e1, fun F1 H1 vs E1 R1 => ?_⟩
  by_cases hl : xs.length <= 1000
  ·rw [if_pos hl] at q
   cases q
   refine ⟨zAR (by rw [<- R1.length]; exact hl), fun p hp => k _ _ _ (E1.trans (Ext.frozen hp)) (Rep.newLst hp R1)⟩
  ·rw [if_neg hl] at q; cases q
theorem zIk {h : List D -> Option D} {σ : L2.St} {H : Hp} {Q : VK} (q : tD X.K (zAf h gr) σ H Q) : tCB (rDA X.K h) (tDA X.K gr) σ H Q := by
 obtain ⟨F, H₀, ρ, d, S, q, k⟩ := q
 obtain ⟨xs, e1, q⟩ := bnd q
 exact ⟨F, H₀, ρ, xs, S, e1, fun F1 H1 vs E1 R1 => ⟨F1, xs, d, (S.ext E1).fz, R1, q, fun F2 H2 w E2 R2 => k F2 H2 w (E1.trans E2) R2⟩⟩
theorem zAO {id : String} {x : Str} {h : List D -> Option D} (hc : zAH X (.builtin id) (rDA X.K h)) (hg : Gl X x) (hm : X.mg x = none) (hv : bootBuiltins x = some (.builtin id)) (ha : DA X (e :: es) gr) (hn : x ≠ "__name__" := by decide) (hdb : (x == ("__debug__" : Str)) = false := by decide)
  (he : starEach (e :: es) X.env = (false, eval e X.env) :: starEach es X.env := by rfl) (hpl : (backTo pos (starEach es X.env)).any (·.1) = false := by rfl) : DE X (.Call (.Name x p) (e :: es) [] pos) (zAf h gr) :=
 zAK (zIR hc hg hm hv ha hn hdb he hpl) fun _ _ _ q => zIk q
theorem zEW {T : String} {x : Str} {h : List D -> Option D} (hc : zAH X (.type T) (rDA X.K h)) (hg : Gl X x) (hm : X.mg x = none) (hv : bootBuiltins x = some (.type T)) (ha : DA X (e :: es) gr) (hn : x ≠ "__name__" := by decide) (hdb : (x == ("__debug__" : Str)) = false := by decide)
  (he : starEach (e :: es) X.env = (false, eval e X.env) :: starEach es X.env := by rfl) (hpl : (backTo pos (starEach es X.env)).any (·.1) = false := by rfl) : DE X (.Call (.Name x p) (e :: es) [] pos) (zAf h gr) :=
 zAK (zIS hc hg hm hv ha hn hdb he hpl) fun _ _ _ q => zIk q
def spD (K : PySem.W.Frag) (n : Nat) (G : List D -> Option D) : Sp := fun vs H Q _ => ∃ (F : Addr -> Prop) (ds : List D) (d : D), ds.length = n /\ (∀ a, F a -> H a ≠ none) /\ Reps K F H ds vs /\ G ds = some d /\ ∀ F' H' v, Ext F F' H H' -> Rep K F' H' d v -> Q v H'
theorem zKM {k n : Nat} {f : Addr} {fd : FuncData} {ps : List Str} {x : Str} {G : List D -> Option D} (F : FnOk X.prog X.w X.K X.mg X.base CX0 k f fd ps (spD X.K n G)) (hr : Room k X.A) (hg : Gl X x) (hm : X.mg x = some (.ref f)) (hk : PySem.W.keepIn X.K (.ref f) = true) (hb : Binds X.K fd ps [])
  (ha : DA X (e :: es) gr) (hln : ∀ ρ ds, gr ρ = some ds -> ds.length = n) (hdb : (x == ("__debug__" : Str)) = false := by decide) (he : starEach (e :: es) X.env = (false, eval e X.env) :: starEach es X.env := by rfl) (hpl : (backTo pos (starEach es X.env)).any (·.1) = false := by rfl) :
  DE X (.Call (.Name x p) (e :: es) [] pos) (zAf G gr) :=
 zAK (zM1 (E := E0) F hr hg hm hk hb .nil pass0 ha hdb he hpl) fun σ H Q zz => by
  obtain ⟨F, H₀, ρ, d, S, q, k⟩ := zz
  obtain ⟨xs, e1, q⟩ := bnd q
  exact ⟨F, H₀, ρ, xs, S, e1, fun F1 H1 vs E1 R1 => by
   show spD X.K n G (vs ++ []) H1 Q E0
   rw [QW]
   exact ⟨F1, xs, d, hln ρ xs e1, (S.ext E1).fz, R1, q, fun F2 H2 w E2 R2 => k F2 H2 w (E1.trans E2) R2⟩⟩
theorem zHj {ρ : Rho} {ds : List D} (h : eNil ρ = some ds) : ds.length = 0 := by cases h; rfl
theorem zBQ {n : Nat} (h' : ∀ ρ ds, gr ρ = some ds -> ds.length = n) (ρ : Rho) (ds : List D) (h : zAb ga gr ρ = some ds) : ds.length = n + 1 := by
 obtain ⟨x, e1, q⟩ := bnd h
 obtain ⟨xs, e2, q⟩ := bnd q
 cases q
 simp [h' ρ xs e2]
end
end DL
namespace EX
open PySem PySem.Spec PyProof.Rows L2
def Fly (h : Heap) (e : Addr) (cls : Value) (tr : Option Addr) : Prop :=
 ∃ oe vs, h.get? e = some oe /\ oe.cls = cls /\ oe.data = .fields vs /\ match tr with
  | none => vs[1]? = some .none
  | some T => vs[1]? = some (.ref T) /\ T ≠ e /\ ∃ oT ts, h.get? T = some oT /\ oT.data = .fields ts /\ ts[3]? = some .none
structure ThrownC (X : Cx) (pins : List (Addr × Obj)) (H : Hp) (s : Shared) (a : Addr) (cls : Value) (tr : Option Addr) : Prop where
 fly : Fly s.heap a cls tr
 new : ∀ b, (b = a ∨ some b = tr) -> X.s₀.heap.get? b = none /\ H b = none /\ b ≠ X.env.locals /\ (∀ x c, X.env.cells.lookup x = some c -> c ≠ b) /\ ∀ p ∈ X.pn ++ pins, p.1 ≠ b
section
variable {M : Model} {A : Around} {E : Value -> Shared -> Prop} {s : Shared}
structure Kept (fs : List Addr) (no : Addr -> Prop) (h h' : Heap) : Prop where
 keep : ∀ b o, ¬ no b -> b ∉ fs -> h.get? b = some o -> h'.get? b = some o
 slot : ∀ b o, ¬ no b -> h.get? b = some o -> ∃ sl, h'.get? b = some { o with slots := sl }
theorem zDZ {base : Heap} {env : Env} {outer : List Env} {L e : Addr} {oe : Obj} {vs : Array Value} {head : Value} {hadNext : Bool} {Q : Unit -> Shared -> Prop}
  (hfr : A.frames = some (env :: outer)) (hl : s.heap.FunFrames base (env :: outer)) (hf : env.frame = some L)
  (he : s.heap.get? e = some oe) (hd : oe.data = .fields vs) (hsz : 1 < vs.size)
  (h : ∀ h' T, s.heap.objs.size <= T -> Fly h' e oe.cls (some T) -> Kept (frs (env :: outer)) (· = e) s.heap h' -> Q () { s with heap := h' }) :
  wpAny M A (do let a <- frameOf env; let pl <- entryPlaceOf L hadNext; let b <- EntryCells.newEntry head a .none (rawInt L) .none pl; setField (.ref e) 1 b) (fun _ s' => wpAny M A (setFlight (.ref e) none) Q E s') E s := by
 have hene : e ∉ (env :: outer).filterMap (·.frame) := fun hm => by
  obtain ⟨_, o, ho, hnf⟩ := hl.mem hm
  rw [he] at ho; injection ho with ho; subst ho; exact hnf vs hd
 refine Qa (wpAny_frameOf_fun hfr hl hf fun h₁ hs₁ => ?_)
 refine Qa (wpAny_entryPlaceOf fun pl hpl => ?_)
 unfold EntryCells.newEntry newFields
 refine Qa (Yd ?_ (hpl.sizeOk5 _ _ _ _ _))
 have he₁ : h₁.get? e = some oe := (hs₁.2.1 e hene).trans he
 have he₂ := Qc (h := h₁) { cls := .type "traceback", dict := none, data := .fields ([head, .ref L, .none, rawInt L, .none] ++ (if pl.isEmpty then List.replicate 6 Value.none else pl)).toArray } he₁
 refine YH he₂ hd hsz ?_
 have hTe : h₁.objs.size ≠ e := YQ (Qm he₁)
 have hd₃ := Yk hd (·.setIfInBounds 1 (Value.ref h₁.objs.size))
 have he₃ := Q1 (Obj.mapFields (·.setIfInBounds 1 (Value.ref h₁.objs.size))) he₂ (YY hd₃)
 have hT₃ := (Ye (h₁.push { cls := .type "traceback", dict := none, data := .fields ([head, .ref L, .none, rawInt L, .none] ++ (if pl.isEmpty then List.replicate 6 Value.none else pl)).toArray })
  (Obj.mapFields (·.setIfInBounds 1 (Value.ref h₁.objs.size))) (Ne.symm hTe)).trans (Qt h₁ rfl)
 unfold setFlight
 refine Qa (Y2 he₃ hd₃ (x := .ref h₁.objs.size) (by simp [hsz]) ?_)
 rw [if_pos (show (Value.ref h₁.objs.size != Value.none) = true from by simp)]
 refine YH hT₃ rfl (by simp only [QF, Ql, QV, List.length_nil] <;> lia) (h _ h₁.objs.size (by rw [hs₁.1]; exact Qh _) ?_ ?_)
 ·refine ⟨_, _, ?_, Obj.cls_mapFields _ _, hd₃, by simp [hsz], hTe, _, _, Q1 _ hT₃ (YY (Yk rfl _)), Yk rfl _, by first | (simp; done) | (rcases hpl with rfl | ⟨_, _, _, _, _, _, _, rfl⟩ <;> simp)⟩
  rw [Ye _ _ hTe]; exact he₃
 ·have keep : ∀ b o, ¬ (b = e) -> h₁.get? b = some o ->
    (((h₁.push { cls := .type "traceback", dict := none, data := .fields ([head, .ref L, .none, rawInt L, .none] ++ (if pl.isEmpty then List.replicate 6 Value.none else pl)).toArray }).update e (Obj.mapFields (·.setIfInBounds 1 (Value.ref h₁.objs.size)))).update h₁.objs.size
     (Obj.mapFields (·.setIfInBounds 3 ((none : Option Addr).elim Value.none fun f => rawInt f)))).get? b = some o := fun b o hb hbo => by
   have hbT : h₁.objs.size ≠ b := YQ (Qm hbo)
   have hbe : e ≠ b := Ne.symm hb
   rw [Ye _ _ hbT, Ye _ _ hbe]
   exact Qc _ hbo
  refine ⟨fun b o hb hbf hbo => keep b o hb ((hs₁.2.1 b hbf).trans hbo), fun b o hb hbo => ?_⟩
  obtain ⟨sl, hs⟩ := hs₁.2.2 b o hbo
  exact ⟨sl, keep b _ hb hs⟩
theorem zMc {base : Heap} {env : Env} {outer : List Env} {L e : Addr} {cls : Value} {tr : Option Addr} {Q : Unit -> Shared -> Prop}
  (hfr : A.frames = some (env :: outer)) (hl : s.heap.FunFrames base (env :: outer)) (hf : env.frame = some L) (F : Fly s.heap e cls tr)
  (h : ∀ h' T, s.heap.objs.size <= T -> Fly h' e cls (some T) -> Kept (frs (env :: outer)) (fun b => b = e ∨ some b = tr) s.heap h' -> Q () { s with heap := h' }) : wpAny M A (leaving env (.ref e)) Q E s := by
 obtain ⟨oe, vs, he, hc, hd, hT⟩ := F
 subst hc
 unfold leaving noteFrame
 simp only [hf]
 cases tr with
 | none =>
  have h1 : vs[1]? = some .none := hT
  refine Qa (Qa (Y2 he hd h1 ?_))
  rw [if_neg (by decide)]
  refine zDZ hfr hl hf he hd (QZ.mp h1).1 fun h' T hT F' K' => h h' T hT F' ⟨fun b o hb => K'.keep b o fun z => hb (.inl z), fun b o hb => K'.slot b o fun z => hb (.inl z)⟩
 | some T =>
  obtain ⟨h1, hTe, oT, ts, hT, hdT, h3⟩ := hT
  refine Qa (Qa (Y2 he hd h1 ?_))
  rw [if_pos (show (Value.ref T != Value.none) = true from by simp)]
  refine Qa (Y2 hT hdT h3 ?_)
  rw [if_neg (show ¬ ((Value.none == rawInt L) = true) from by simp [rawInt])]
  refine Qa (YH hT hdT (QZ.mp h3).1 ?_)
  have other : ∀ b, b ≠ T -> (s.heap.update T (Obj.mapFields (·.setIfInBounds 3 Value.none))).get? b = s.heap.get? b := fun b hb => Ye _ _ (Ne.symm hb)
  have noRecord : ∀ b o, s.heap.get? b = some o -> (∀ vs, o.data ≠ .fields vs) -> b ≠ T := fun b o hb hnf q => by
   rw [q, hT] at hb; injection hb with hb; subst hb; exact hnf ts hdT
  refine zDZ (s := { s with heap := s.heap.update T (Obj.mapFields (·.setIfInBounds 3 Value.none)) }) hfr (hl.of_keeps fun b o hb hnf => ⟨o, (other b (noRecord b o hb hnf)).trans hb, rfl⟩) hf ((other e (Ne.symm hTe)).trans he) hd (QZ.mp h1).1 fun h' T' hT' F' K' => h h' T' (by rw [Heap.size_update] at hT'; exact hT') F' ?_
  exact ⟨fun b o hb hbf hbo => K'.keep b o (fun z => hb (.inl z)) hbf ((other b fun z => hb (.inr (by rw [z]))).trans hbo), fun b o hb hbo => K'.slot b o (fun z => hb (.inl z)) ((other b fun z => hb (.inr (by rw [z]))).trans hbo)⟩
end
end EX
namespace DL
open PySem PySem.Spec PyProof.Rows L2
inductive Out where
 | nx (ρ : Rho)
 | rt (d : D)
 | bk (ρ : Rho)
 | ct (ρ : Rho)
 | ex (x : Str) (ρ : Rho)
theorem Stay.refl (K : PySem.W.Frag) (F : Addr -> Prop) (H : Hp) : Stay K F F H H := ⟨fun _ h => h, fun _ _ h => h, fun _ _ _ h => h, fun _ _ _ h => h⟩
theorem Stay.trans {K : PySem.W.Frag} {F F1 F2 : Addr -> Prop} {H H1 H2 : Hp} (a : Stay K F F1 H H1) (b : Stay K F1 F2 H1 H2) : Stay K F F2 H H2 :=
 ⟨fun x h => b.up x (a.up x h), fun x xs h => b.tp x xs (a.tp x xs h), fun x xs f h => b.ls x xs (a.up x f) (a.ls x xs f h), fun x φ f h => b.xt x φ (a.up x f) (a.xt x φ f h)⟩
def zDd (X : Cx) (F₀ : Addr -> Prop) (H₀ : Hp) (F : Addr -> Prop) (H : Hp) (W : Ends) : Out -> Prop
 | .nx ρ => ∀ F' H' σ, Ext F₀ F' H₀ H' -> Stay X.K F F' H H' -> StOk X.K F' H' H₀ σ ρ -> W.nx σ H'
 | .rt d => ∀ F' H' v, Ext F₀ F' H₀ H' -> Rep X.K F' H' d v -> W.rt v H'
 | .bk ρ => ∀ F' H' σ, Ext F₀ F' H₀ H' -> Stay X.K F F' H H' -> StOk X.K F' H' H₀ σ ρ -> W.bk σ H'
 | .ct ρ => ∀ F' H' σ, Ext F₀ F' H₀ H' -> Stay X.K F F' H H' -> StOk X.K F' H' H₀ σ ρ -> W.ct σ H'
 | .ex x ρ => ∀ F' H' σ pins s a C tr, Ext F₀ F' H₀ H' -> StOk X.K F' H' H₀ σ ρ -> Inv X pins σ H' s -> PySem.W.nsIn X.K mainGlobals x = some (some (.ref C)) -> EX.ThrownC X pins H' s a (.ref C) tr -> X.xe (.ref a) s
theorem zDd.from {X : Cx} {F₀ F F' : Addr -> Prop} {H₀ H H' : Hp} {W : Ends} {o : Out} (T : Stay X.K F F' H H') (k : zDd X F₀ H₀ F H W o) : zDd X F₀ H₀ F' H' W o := by
 cases o with
 | nx ρ => exact fun F2 H2 σ E T2 S => k F2 H2 σ E (T.trans T2) S
 | rt d => exact k
 | bk ρ => exact fun F2 H2 σ E T2 S => k F2 H2 σ E (T.trans T2) S
 | ct ρ => exact fun F2 H2 σ E T2 S => k F2 H2 σ E (T.trans T2) S
 | ex x ρ => exact k
inductive TDS (X : Cx) (g : Rho -> Option Out) (W : Ends) (σ : L2.St) (H : Hp) : Prop
 | mk (F₀ : Addr -> Prop) (H₀ : Hp) (F : Addr -> Prop) (ρ : Rho) (o : Out) (E : Ext F₀ F H₀ H) (S : StOk X.K F H H₀ σ ρ) (q : g ρ = some o) (k : zDd X F₀ H₀ F H W o) : TDS X g W σ H
def tDS (X : Cx) (g : Rho -> Option Out) : TS := fun W σ H => TDS X g W σ H
def DS (X : Cx) (st : Stmt) (g : Rho -> Option Out) : Prop := PS X st (tDS X g)
def DSs (X : Cx) (sts : List Stmt) (g : Rho -> Option Out) : Prop := PSs X sts (tDS X g)
def sSeq (g1 g2 : Rho -> Option Out) : Rho -> Option Out := fun ρ => (g1 ρ).bind fun o => match o with
 | .nx ρ' => g2 ρ'
 | o => some o
def zAu : Rho -> Option Out := fun ρ => some (.nx ρ)
def sRet (g : Rho -> Option D) : Rho -> Option Out := fun ρ => (g (ρ.map frz)).bind fun d => some (.rt d)
def sSet (i : Nat) (g : Rho -> Option D) : Rho -> Option Out := fun ρ => (g ρ).bind fun d => some (.nx (ρ.set i (.dat d)))
def sOwn (i : Nat) (g : Rho -> Option (List D)) : Rho -> Option Out := fun ρ => (g ρ).bind fun ds => if ds.length <= 1000 then some (.nx (ρ.set i (.own ds))) else none
def zFg (i : Nat) (ρ : Rho) : Rho := match ρ[i]? with
 | some (.own ds) => ρ.set i (.dat (.list ds))
 | _ => ρ
def sFrz (i : Nat) (g : Rho -> Option Out) : Rho -> Option Out := fun ρ => g (zFg i ρ)
def sIf (t : Rho -> Option Bool) (g1 g2 : Rho -> Option Out) : Rho -> Option Out := fun ρ => (t (ρ.map frz)).bind fun b => if b = true then g1 ρ else g2 ρ
def zBK (g : Rho -> Option D) : Rho -> Option Out := fun ρ => (g ρ).bind fun _ => some (.nx ρ)
def sApp (i : Nat) (g : Rho -> Option D) : Rho -> Option Out := fun ρ => match ρ[i]? with
 | some (.own ds) => (g ρ).bind fun d => if ds.length < 1000 then some (.nx (ρ.set i (.own (ds ++ [d])))) else none
 | _ => none
def zBt (t : Rho -> Option Bool) (g : Rho -> Option Out) : Nat -> Rho -> Option Out
 | 0, _ => none
 | n + 1, ρ => (t (ρ.map frz)).bind fun b => if b = true then (g ρ).bind fun o => match o with
   | .nx ρ' => zBt t g n ρ'
   | .ct ρ' => zBt t g n ρ'
   | .bk ρ' => some (.nx ρ')
   | .rt d => some (.rt d)
   | .ex x ρ' => some (.ex x ρ')
  else some (.nx ρ)
def forN (s : D -> Rho -> Option Rho) (g : Rho -> Option Out) : List D -> Rho -> Option Out
 | [], ρ => some (.nx ρ)
 | d :: ds, ρ => (s d ρ).bind fun ρ1 => (g ρ1).bind fun o => match o with
   | .nx ρ' => forN s g ds ρ'
   | .ct ρ' => forN s g ds ρ'
   | .bk ρ' => some (.nx ρ')
   | .rt d => some (.rt d)
   | .ex x ρ' => some (.ex x ρ')
def sFor (gi : Rho -> Option (List D)) (s : D -> Rho -> Option Rho) (g : Rho -> Option Out) : Rho -> Option Out := fun ρ => (gi ρ).bind fun xs => forN s g xs ρ
section
variable {X : Cx} {e a b c tg : Expr} {es : List Expr} {st : Stmt} {rest body orelse : List Stmt} {g g1 g2 gb : Rho -> Option Out} {ga : Rho -> Option D} {gr : Rho -> Option (List D)} {t : Rho -> Option Bool} {pos p : Pos}
theorem zAF : DSs X [] zAu := zF0 zNy fun W σ H zz => by
 obtain ⟨F₀, H₀, F, ρ, o, E, S, q, k⟩ := zz
 cases q
 exact k F H σ E (Stay.refl _ F H) S
theorem zN7 {F₀ : Addr -> Prop} {H₀ : Hp} {F : Addr -> Prop} {ρ : Rho} {o : Out} {W : Ends} {σ : L2.St} {H : Hp} (E : Ext F₀ F H₀ H) (S : StOk X.K F H H₀ σ ρ) (q : sSeq g1 g2 ρ = some o) (k : zDd X F₀ H₀ F H W o) : tDS X g1 { W with nx := tDS X g2 W } σ H := by
 obtain ⟨o1, e1, q⟩ := bnd q
 refine ⟨F₀, H₀, F, ρ, o1, E, S, e1, ?_⟩
 cases o1 with
 | nx ρ' => exact fun F' H' σ' E' T' S' => ⟨F₀, H₀, F', ρ', o, E', S', q, k.from T'⟩
 | rt d => cases q; exact k
 | bk ρ' => cases q; exact k
 | ct ρ' => cases q; exact k
 | ex x ρ' => cases q; exact k
theorem zAi (h1 : DS X st g1) (h2 : DSs X rest g2) : DSs X (st :: rest) (sSeq g1 g2) :=
 zF0 (zNx h1 h2) fun W σ H ⟨F₀, H₀, F, ρ, o, E, S, q, k⟩ => zN7 E S q k
theorem zAh (h1 : DS X st g) : DSs X [st] g := zNz h1
theorem Ext.thaw {K : PySem.W.Frag} {F₀ F F' : Addr -> Prop} {H₀ H H' : Hp} {σ : L2.St} {ρ : Rho} (E : Ext F₀ F H₀ H) (S : StOk K F H H₀ σ ρ) (E' : Ext (fun a => F a ∨ Own σ ρ a) F' H H') : Ext F₀ F' H₀ H' :=
 ⟨E.same.trans E'.same, fun a f => E'.up a (.inl (E.up a f)), fun a f => by
  rcases E'.new a f with (f | ⟨i, ds, q1, q2⟩ | ⟨i, ds, q1, q2⟩) | ⟨f1, f2⟩
  ·rcases E.new a f with f | ⟨f, f'⟩
   ·exact .inl f
   ·exact .inr ⟨f, fun z => f' (E'.same.free z)⟩
  ·obtain ⟨b, vs, g1, g2, _, g4, _⟩ := S.own q1
   rw [g1] at q2; cases q2
   exact .inr ⟨g4, by rw [E'.same _ _ g2]; simp⟩
  ·obtain ⟨b, vs, ep, g1, g2, _, g4, _⟩ := S.ownD q1
   rw [g1] at q2; cases q2
   exact .inr ⟨g4, by rw [E'.same _ _ g2]; simp⟩
  ·exact .inr ⟨E.same.free f1, f2⟩⟩
theorem zAq (ha : DE X e ga) : DS X (.Return (some e) pos) (sRet ga) := ps_mono (zI5 ha) fun W σ H zz => by
 obtain ⟨F₀, H₀, F, ρ, o, E, S, q, k⟩ := zz
 obtain ⟨d, e1, q⟩ := bnd q
 cases q
 exact ⟨_, H₀, ρ.map frz, d, S.frz, e1, fun F' H' v E' R' => k F' H' v (E.thaw S E') R'⟩
theorem zAw {i : Nat} {x : Str} {pos' : Pos} (hN : X.N.Nodup) (ha : DE X e ga) (hi : X.N[i]? = some x := by rfl) (hx : Loc X.env.scope x := by first | exact Or.inl rfl | exact Or.inr rfl) (hs : swapsWith e (some (.Name x pos')) pos.line X.env = pure false := by rfl) (hf : X.fn x = true ∨ X.env.scope.names.lookup x = some .local := by first | exact .inl rfl | exact .inr rfl | assumption) :
  DS X (.Assign [.Name x pos'] e pos) (sSet i ga) := ps_mono (zCk hN hi hx ha hs hf) fun W σ H zz => by
 obtain ⟨F₀, H₀, F, ρ, o, E, S, q, k⟩ := zz
 obtain ⟨d, e1, q⟩ := bnd q
 cases q
 exact ⟨F, H₀, ρ, d, S, e1, fun F' H' v E' R' => k F' H' _ (E.trans E') E'.stay ((S.ext E').put R')⟩
theorem Ext.lend {K : PySem.W.Frag} {F F' : Addr -> Prop} {H H₀ H' : Hp} {σ : L2.St} {ρ : Rho} (S : StOk K F H H₀ σ ρ) (E' : Ext (fun a => F a ∨ Own σ ρ a) F' H H') : Ext F (fun a => F' a /\ ¬ Own σ ρ a) H H' :=
 ⟨E'.same, fun a f => ⟨E'.up a (.inl f), fun z => by
   rcases z with ⟨i, ds, q1, q2⟩ | ⟨i, ds, q1, q2⟩
   ·obtain ⟨b, vs, g1, g2, g3, _⟩ := S.own q1
    rw [g1] at q2; cases q2
    exact g3 f
   ·obtain ⟨b, vs, ep, g1, g2, g3, _⟩ := S.ownD q1
    rw [g1] at q2; cases q2
    exact g3 f⟩, fun a zz => by
  obtain ⟨f, n⟩ := zz
  rcases E'.new a f with (f | f) | f
  ·exact .inl f
  ·exact absurd f n
  ·exact .inr f⟩
theorem zB9 {i : Nat} {x : Str} {pos' pos'' : Pos} (hN : X.N.Nodup) (ha : DA X es gr) (hi : X.N[i]? = some x := by rfl) (hx : Loc X.env.scope x := by first | exact Or.inl rfl | exact Or.inr rfl) (hs : swapsWith (.List es pos'') (some (.Name x pos')) pos.line X.env = pure false := by rfl) (hf : X.fn x = true ∨ X.env.scope.names.lookup x = some .local := by first | exact .inl rfl | exact .inr rfl | assumption) :
  DS X (.Assign [.Name x pos'] (.List es pos'') pos) (sOwn i gr) := ps_mono (zCk hN hi hx (zIW ha) hs hf) fun W σ H zz => by
 obtain ⟨F₀, H₀, F, ρ, o, E, S, q, k⟩ := zz
 obtain ⟨ds, e1, q⟩ := bnd q
 by_cases hl : ds.length <= 1000
 ·rw [if_pos hl] at q
  cases q
  refine ⟨F, H₀, ρ, ds, S, e1, fun F' H' vs E' R' => ⟨zAR (by rw [<- R'.length]; exact hl), fun pp hp => ?_⟩⟩
  exact k F' _ _ ((E.trans E').trans (Ext.fresh hp)) (E'.stay.trans (Ext.fresh hp).stay) ((S.ext E').putOwn hp ((E.trans E').same.free hp) R')
 ·rw [if_neg hl] at q; cases q
theorem zE3 (i : Nat) (h : DSs X rest g) : DSs X rest (sFrz i g) := zF0 h fun W σ H zz => by
 obtain ⟨F₀, H₀, F, ρ, o, E, S, q, k⟩ := zz
 unfold sFrz zFg at q
 split at q
 ·rename_i ds e1
  obtain ⟨a, h0, S'⟩ := S.frz1 e1
  refine ⟨F₀, H₀, _, _, o, ⟨E.same, fun x f => .inl (E.up x f), fun x f => ?_⟩, S', q, k.from ⟨fun _ f => .inl f, fun _ _ f => f, fun _ _ _ f => f, fun _ _ _ f => f⟩⟩
  rcases f with f | rfl
  ·exact E.new x f
  ·exact .inr ⟨h0, S'.fz x (.inr rfl)⟩
 ·exact ⟨F₀, H₀, F, ρ, o, E, S, q, k⟩
theorem zAE (hc : DT X c t) (h1 : DSs X body g1) (h2 : DSs X orelse g2) : DS X (.If c body orelse pos) (sIf t g1 g2) := ps_mono (ps_if hc h1 h2) fun W σ H zz => by
 obtain ⟨F₀, H₀, F, ρ, o, E, S, q, k⟩ := zz
 obtain ⟨r, e1, q⟩ := bnd q
 refine ⟨_, H₀, ρ.map frz, r, S.frz, e1, fun F' H' E' => ?_⟩
 have E2 := E'.lend S
 cases r with
 | true => simp only [if_true] at q ⊢; exact ⟨F₀, H₀, _, ρ, o, E.trans E2, S.ext E2, q, k.from E2.stay⟩
 | false => simp only [Qp, if_false] at q ⊢; exact ⟨F₀, H₀, _, ρ, o, E.trans E2, S.ext E2, q, k.from E2.stay⟩
theorem zCE (ha : DE X e ga) (hs : swapsWith e none pos.line X.env = pure false := by rfl) : DS X (.Expr e pos) (zBK ga) := ps_mono (zEr ha hs) fun W σ H zz => by
 obtain ⟨F₀, H₀, F, ρ, o, E, S, q, k⟩ := zz
 obtain ⟨d, e1, q⟩ := bnd q
 cases q
 exact ⟨F, H₀, ρ, d, S, e1, fun F' H' v E' R' => k F' H' σ (E.trans E') E'.stay (S.ext E')⟩
theorem Ext.turn {F₀ F : Addr -> Prop} {H₀ H : Hp} {p : Addr} {o : HO} (E : Ext F₀ F H₀ H) (h0 : H₀ p = none) : Ext F₀ F H₀ (upd H p o) :=
 ⟨fun b u q => by rw [zAm (zBA q h0)]; exact E.same b u q, E.up, fun a f => by
  rcases E.new a f with f | ⟨f1, f2⟩
  ·exact .inl f
  ·refine .inr ⟨f1, fun z => ?_⟩
   by_cases ha : a = p
   ·subst ha; rw [zAL] at z; cases z
   ·rw [zAm ha] at z; exact f2 z⟩
theorem zDW {i : Nat} {x : Str} {apos pos' : Pos} (ha : DE X e ga) (hN : X.N[i]? = some x := by rfl) (hv : Vis X.env.scope x := by first | exact Or.inl rfl | exact Or.inr (Or.inl rfl) | exact Or.inr (Or.inr rfl)) (hd : (x == ("__debug__" : Str)) = false := by decide)
  (hcd : (x == ("__classdict__" : Str)) = false := by decide) (hse : starEach [e] X.env = (false, eval e X.env) :: starEach [] X.env := by rfl)
  (hbase : attributeBase (.Name x p) "append" X.env (eval (.Name x p) X.env) = eval (.Name x p) X.env := by rfl)
  (hfew : ((backTo pos' (starEach [e] X.env)).all (fun x => !x.1) && (backToKw pos' (keywordEach [] X.env)).all (fun x => x.1.isSome)
   && decide ([e].length + ([] : List Keyword).length + (if ([] : List Keyword).isEmpty then 0 else 1) < 30)) = true := by rfl)
  (hline : (apos.endLine == pos'.line) = true := by rfl) (hplain : (backTo pos' (starEach [] X.env)).any (·.1) = false := by rfl) (hsw : swapsWith (.Call (.Attribute (.Name x p) "append" apos) [e] [] pos') none pos.line X.env = pure false := by rfl) :
  DS X (.Expr (.Call (.Attribute (.Name x p) "append" apos) [e] [] pos') pos) (sApp i ga) :=
 ps_mono (zEr (zFW PySem.F.plainAttrs_list PySem.F.slot_list_append PySem.F.type_list_append zFL (zCS hN hv hd hcd) (zCj ha zCR hse) hbase hfew hline hse hplain) hsw) fun W σ H zz => by
 obtain ⟨F₀, H₀, F, ρ, o, E, S, q, k⟩ := zz
 unfold sApp at q
 split at q
 ·rename_i ds e0
  obtain ⟨d, e1, q⟩ := bnd q
  by_cases hl : ds.length < 1000
  ·rw [if_pos hl] at q
   cases q
   obtain ⟨l, vs, q1, q2, q3, q4, q5⟩ := S.own e0
   refine ⟨_, q1, .inl ⟨rfl, _, SqL.of q2⟩, F, H₀, ρ, d, S, e1, fun F' H' v E' R' => ?_⟩
   have S' := S.ext E'
   obtain ⟨l', vs', g1, g2, g3, g4, g5⟩ := S'.own e0
   rw [q1] at g1; cases g1
   refine ⟨l, vs', v, rfl, rfl, g2, zEF (by rw [<- g5.length]; lia), ?_⟩
   obtain ⟨S2, T⟩ := S'.turn e0 q1 g2 g3 (g5.append (.cons R' .nil))
   exact k F' _ σ ((E.trans E').turn q4) (E'.stay.trans T) S2
  ·rw [if_neg hl] at q; cases q
 ·cases q
end
end DL
namespace DL
open PySem PySem.Spec PyProof.Rows L2
inductive TDG (K : PySem.W.Frag) (s : D -> Rho -> Option Rho) (v : V) (σ : L2.St) (H : Hp) (Q : L2.St -> Hp -> Prop) : Prop
 | mk (F : Addr -> Prop) (H₀ : Hp) (ρ : Rho) (d : D) (ρ' : Rho) (S : StOk K F H H₀ σ ρ) (R : Rep K F H d v) (q : s d ρ = some ρ') (k : ∀ σ', StOk K F H H₀ σ' ρ' -> Q σ' H) : TDG K s v σ H Q
def tDG (K : PySem.W.Frag) (s : D -> Rho -> Option Rho) : TG := fun v σ H Q => TDG K s v σ H Q
def tDGs (K : PySem.W.Frag) (s : List D -> Rho -> Option Rho) : TGs := fun vs σ H Q => ∃ (F : Addr -> Prop) (H₀ : Hp) (ρ : Rho) (ds : List D) (ρ' : Rho), StOk K F H H₀ σ ρ /\ Reps K F H ds vs /\ s ds ρ = some ρ' /\ ∀ σ', StOk K F H H₀ σ' ρ' -> Q σ' H
def DG (X : Cx) (tg : Expr) (s : D -> Rho -> Option Rho) : Prop := PG X tg (tDG X.K s)
def DGs (X : Cx) (ts : List Expr) (s : List D -> Rho -> Option Rho) : Prop := PGs X ts (tDGs X.K s)
def zAo (i : Nat) : D -> Rho -> Option Rho := fun d ρ => some (ρ.set i (.dat d))
def uNil : List D -> Rho -> Option Rho
 | [], ρ => some ρ
 | _ :: _, _ => none
def zBb (s1 : D -> Rho -> Option Rho) (s2 : List D -> Rho -> Option Rho) : List D -> Rho -> Option Rho
 | [], _ => none
 | d :: ds, ρ => (s1 d ρ).bind fun ρ' => s2 ds ρ'
def uTup (n : Nat) (s : List D -> Rho -> Option Rho) : D -> Rho -> Option Rho
 | .tuple ds, ρ => if ds.length = n then s ds ρ else none
 | _, _ => none
section
variable {X : Cx} {e tg : Expr} {es : List Expr} {pos : Pos}
theorem zIX {t t' : TG} (h : PG X tg t) (m : ∀ v σ H Q, t' v σ H Q -> t v σ H Q) : PG X tg t' := fun pins s σ H v u Q I r q => h pins s σ H v u Q I r (m v σ H Q q)
theorem zIY {t t' : TGs} (h : PGs X es t) (m : ∀ v σ H Q, t' v σ H Q -> t v σ H Q) : PGs X es t' := fun pins s σ H v u Q I r q => h pins s σ H v u Q I r (m v σ H Q q)
theorem zAA {i : Nat} {x : Str} (hN : X.N.Nodup) (hi : X.N[i]? = some x := by rfl) (hx : Loc X.env.scope x := by first | exact Or.inl rfl | exact Or.inr rfl) (hf : X.fn x = true ∨ X.env.scope.names.lookup x = some .local := by first | exact .inl rfl | exact .inr rfl | assumption) : DG X (.Name x pos) (zAo i) :=
 zIX (zNg hN hi hx hf) fun v σ H Q zz => by
  obtain ⟨F, H₀, ρ, d, ρ', S, R, q, k⟩ := zz
  cases q
  exact k _ (S.put R)
theorem zE2 : DGs X [] uNil := zIY zNj fun v σ H Q zz => by
 obtain ⟨F, H₀, ρ, ds, ρ', S, R, q, k⟩ := zz
 cases R with
 | nil => cases q; exact ⟨rfl, k σ S⟩
 | cons _ _ => cases q
theorem zCD {s1 : D -> Rho -> Option Rho} {s2 : List D -> Rho -> Option Rho} (h1 : DG X e s1) (h2 : DGs X es s2)
  (hs : (assignEach (e :: es) X.env).map (·.2) = assign e X.env :: (assignEach es X.env).map (·.2) := by rfl) : DGs X (e :: es) (zBb s1 s2) :=
 zIY (zNi h1 h2 hs) fun v σ H Q zz => by
  obtain ⟨F, H₀, ρ, ds, ρ', S, R, q, k⟩ := zz
  cases R with
  | nil => cases q
  | cons r rs =>
   obtain ⟨ρ1, e1, q⟩ := bnd q
   exact ⟨_, _, rfl, F, H₀, ρ, _, ρ1, S, r, e1, fun σ1 S1 => ⟨F, H₀, ρ1, _, ρ', S1, rs, q, k⟩⟩
theorem zE1 {n k : Nat} {s : List D -> Rho -> Option Rho} (hc : X.calm = true) (h : DGs X es s) (hn : (assignEach es X.env).length = n := by rfl) (hst : (assignEach es X.env).findIdx? (·.1) = none := by rfl) : DG X (.Tuple es k pos) (uTup n s) :=
 zIX (zNh hc h hn hst) fun v σ H Q zz => by
  obtain ⟨F, H₀, ρ, d, ρ', S, R, q, k⟩ := zz
  cases R with
  | @tup a vs ds hq r =>
   by_cases hl : ds.length = n
   ·have q' : (if ds.length = n then s ds ρ else none) = some ρ' := q
    rw [if_pos hl] at q'
    exact ⟨_, _, rfl, hq, by rw [<- r.length]; exact hl, F, H₀, ρ, _, ρ', S, r, q', k⟩
   ·have q' : (if ds.length = n then s ds ρ else none) = some ρ' := q
    rw [if_neg hl] at q'; cases q'
  | non => cases q
  | dct _ _ _ _ _ => cases q
  | exn _ _ _ => cases q
  | bl _ => cases q
  | int _ => cases q
  | str _ => cases q
  | lst _ _ => cases q
end
section
variable {X : Cx} {e a b c tg iter : Expr} {es : List Expr} {st : Stmt} {rest body orelse : List Stmt} {g g1 g2 gb : Rho -> Option Out} {ga : Rho -> Option D} {gr : Rho -> Option (List D)} {t : Rho -> Option Bool} {pos p : Pos}
theorem zHg (n : Nat) (hp : PassesOwn (model X.prog X.w) X.A X.env X.xe) (hc : DT X c t) (hb : DSs X body g) : DS X (.While c body [] pos) (zBt t g n) :=
 ps_mono (zNw hp hc hb) fun W σ H zz => by
  obtain ⟨F₀, H₀, F1, ρ1, o, E, S, q, k⟩ := zz
  refine ⟨fun m σ' H' => ∃ F ρ, Ext F₀ F H₀ H' /\ Stay X.K F1 F H H' /\ StOk X.K F H' H₀ σ' ρ /\ zBt t g m ρ = some o, ⟨n, F1, ρ1, E, Stay.refl _ _ _, S, q⟩, ?_⟩
  rintro m σ' H' ⟨F, ρ, E', T', S', q'⟩
  cases m with
  | zero => cases q'
  | succ m =>
   obtain ⟨r, e1, q'⟩ := bnd q'
   refine ⟨_, H₀, ρ.map frz, r, S'.frz, e1, fun F2 H2 E2' => ?_⟩
   have E2 := E2'.lend S'
   cases r with
   | false =>
    simp only [Qp, if_false] at q' ⊢
    cases q'
    exact k _ H2 σ' (E'.trans E2) (T'.trans E2.stay) (S'.ext E2)
   | true =>
    simp only [if_true] at q' ⊢
    obtain ⟨o1, e2, q'⟩ := bnd q'
    refine ⟨fun σ3 H3 => ∃ F ρ, Ext F₀ F H₀ H3 /\ Stay X.K F1 F H H3 /\ StOk X.K F H3 H₀ σ3 ρ /\ zBt t g m ρ = some o, fun σ3 H3 h3 => ⟨m, Nat.lt_succ_self m, h3⟩, F₀, H₀, _, ρ, o1, E'.trans E2, S'.ext E2, e2, ?_⟩
    cases o1 with
    | nx ρ3 => exact fun F3 H3 σ3 E3 T3 S3 => ⟨F3, ρ3, E3, (T'.trans E2.stay).trans T3, S3, q'⟩
    | ct ρ3 => exact fun F3 H3 σ3 E3 T3 S3 => ⟨F3, ρ3, E3, (T'.trans E2.stay).trans T3, S3, q'⟩
    | bk ρ3 => cases q'; exact fun F3 H3 σ3 E3 T3 S3 => k F3 H3 σ3 E3 ((T'.trans E2.stay).trans T3) S3
    | rt d => cases q'; exact k
    | ex x ρ3 => cases q'; exact k
def ItD (K : PySem.W.Frag) (F : Addr -> Prop) (H : Hp) (ds : List D) (J : It) : Prop :=
 ∀ F2 H2, Stay K F F2 H H2 -> (∀ a, F2 a -> H2 a ≠ none) -> ∀ i : Nat, (∀ d, ds[i]? = some d -> J.go i H2 /\ ∀ x H3, J.yld i H2 x H3 -> ∃ F3, Ext F2 F3 H2 H3 /\ Rep K F3 H3 d x) /\ (ds.length <= i -> J.stop i H2)
def tDI (K : PySem.W.Frag) (gi : Rho -> Option (List D)) : TI := fun σ H R => TDx K σ H gi fun F ds => ∀ F' H' J, Ext F F' H H' -> ItD K F' H' ds J -> R J H'
def DI (X : Cx) (tg iter : Expr) (gi : Rho -> Option (List D)) : Prop := PI X tg iter (tDI X.K gi)
theorem zIZ {wi wi' : TI} (h : PI X tg iter wi) (m : ∀ σ H R, wi' σ H R -> wi σ H R) : PI X tg iter wi' := fun pins s σ H R I q => h pins s σ H R I (m σ H R q)
structure FInv (K : PySem.W.Frag) (s : D -> Rho -> Option Rho) (g : Rho -> Option Out) (xs : List D) (o : Out) (F₀ F F1 : Addr -> Prop) (H₀ H H1 : Hp) (i : Nat) (σ2 : L2.St) (H2 : Hp) (F2 : Addr -> Prop) (ρ2 : Rho) : Prop where
 E : Ext F₀ F2 H₀ H2
 T0 : Stay K F F2 H H2
 T1 : Stay K F1 F2 H1 H2
 S : StOk K F2 H2 H₀ σ2 ρ2
 q : forN s g (xs.drop i) ρ2 = some o
theorem zA6 {gi : Rho -> Option (List D)} {s : D -> Rho -> Option Rho} (hp : PassesOwn (model X.prog X.w) X.A X.env X.xe) (hc : X.calm = true) (hi : DI X tg iter gi) (hg : DG X tg s) (hb : DSs X body g)
  (hs : ∀ x, foldedSetIterable iter X.env x = pure x := by intro _; rfl) : DS X (.For tg iter body [] pos) (sFor gi s g) :=
 ps_mono (zNv hp hc hi hg hb hs) fun W σ H zz => by
  obtain ⟨F₀, H₀, F, ρ, o, E, S, q, k⟩ := zz
  obtain ⟨xs, e1, q⟩ := bnd q
  refine ⟨F, H₀, ρ, xs, S, e1, fun F1 H1 J E1 I1 => ?_⟩
  refine ⟨fun i m σ2 H2 => m = xs.length - i /\ i <= xs.length /\ ∃ F2 ρ2, FInv X.K s g xs o F₀ F F1 H₀ H H1 i σ2 H2 F2 ρ2,
   ⟨xs.length, rfl, QU _, F1, ρ, E.trans E1, E1.stay, Stay.refl _ _ _, S.ext E1, q⟩, ?_⟩
  rintro i m σ2 H2 ⟨rfl, hi2, F2, ρ2, E2, T0, T1, S2, q2⟩
  obtain ⟨it1, it2⟩ := I1 F2 H2 T1 S2.fz i
  by_cases hlt : i < xs.length
  ·right
   have hget : xs[i]? = some xs[i] := by simp [hlt]
   obtain ⟨go, yld⟩ := it1 _ hget
   rw [Yq hlt] at q2
   obtain ⟨ρ3, e3, q2⟩ := bnd q2
   obtain ⟨o3, e4, q2⟩ := bnd q2
   refine ⟨go, fun σ4 H4 => ∃ F4 ρ4, FInv X.K s g xs o F₀ F F1 H₀ H H1 (i + 1) σ4 H4 F4 ρ4, fun σ4 H4 h => ⟨xs.length - (i + 1), by lia, rfl, hlt, h⟩, fun x H3 y => ?_⟩
   obtain ⟨F3, E3, R3⟩ := yld x H3 y
   refine ⟨F3, H₀, ρ2, xs[i], ρ3, S2.ext E3, R3, e3, fun σ5 S5 => ⟨F₀, H₀, F3, ρ3, o3, E2.trans E3, S5, e4, ?_⟩⟩
   have TT0 := T0.trans E3.stay
   have TT1 := T1.trans E3.stay
   cases o3 with
   | nx ρ6 => exact fun F6 H6 σ6 E6 T6 S6 => ⟨F6, ρ6, E6, TT0.trans T6, TT1.trans T6, S6, q2⟩
   | ct ρ6 => exact fun F6 H6 σ6 E6 T6 S6 => ⟨F6, ρ6, E6, TT0.trans T6, TT1.trans T6, S6, q2⟩
   | bk ρ6 => cases q2; exact fun F6 H6 σ6 E6 T6 S6 => k F6 H6 σ6 E6 (TT0.trans T6) S6
   | rt d => cases q2; exact k
   | ex x ρ6 => cases q2; exact k
  ·left
   have hge : xs.length <= i := Jb hlt
   refine ⟨it2 hge, ?_⟩
   rw [List.drop_eq_nil_of_le hge] at q2
   cases q2
   exact k F2 H2 σ2 E2 T0 S2
def rng1 : List D -> Option (List D)
 | [.int j] => if -4611686018427387904 <= j /\ j < 4611686018427387904 then some ((List.range j.toNat).map fun (k : Nat) => .int (0 + (k : Int))) else none
 | _ => none
theorem zLK {K : PySem.W.Frag} {F : Addr -> Prop} {H : Hp} (lo : Int) (n : Nat) : ItD K F H ((List.range n).map fun (k : Nat) => .int (lo + (k : Int))) (Itr lo n) := fun F2 H2 T z i => by
 refine ⟨fun d hd => ?_, fun hl => ?_⟩
 ·have hi : i < n := by
   have := (Qd.mp hd).1
   simpa using this
  have hd' : d = .int (lo + (i : Int)) := by
   rw [QP, List.getElem?_range hi] at hd
   cases hd; rfl
  subst hd'
  refine ⟨hi, fun x H3 y => ?_⟩
  obtain ⟨y1, y2⟩ := y
  subst y1 y2
  exact ⟨F2, Ext.refl _ _, .int _⟩
 ·show n <= i
  simpa using hl
theorem zKX (hg : Gl X "range") (hm : X.mg "range" = none) (ha : DA X [a] gr) (hs : starEach [a] X.env = [(false, eval a X.env)] := by rfl) : DI X tg (.Call (.Name "range" p) [a] [] pos) (fun ρ => (gr ρ).bind rng1) :=
 zIZ (zNk hg hm ha hs) fun σ H R zz => by
  obtain ⟨F, H₀, ρ, ds, S, q, k⟩ := zz
  obtain ⟨xs, e1, q⟩ := bnd q
  unfold rng1 at q
  split at q
  ·rename_i j
   by_cases hj : -4611686018427387904 <= j /\ j < 4611686018427387904
   ·rw [if_pos hj] at q
    cases q
    refine ⟨F, H₀, ρ, _, S, e1, fun F1 H1 vs E1 R1 => ?_⟩
    cases R1 with
    | cons r rs =>
     cases r
     cases rs
     exact ⟨j, rfl, by lia, by lia, k F1 H1 _ E1 (zLK 0 _)⟩
   ·rw [if_neg hj] at q; cases q
  ·cases q
def seqD : D -> Option (List D)
 | .list ds => some ds
 | .tuple ds => some ds
 | _ => none
theorem zLJ {K : PySem.W.Frag} {F : Addr -> Prop} {H : Hp} {a : Addr} {vs : List V} {ds : List D} (h : FzL K F H a vs) (r : Reps K F H ds vs) : ItD K F H ds (Itl K a) := fun F2 H2 T z i => by
 have h2 := h.stay T
 have r2 := r.stay T
 refine ⟨fun d hd => ?_, fun hl => ⟨vs, h2.sq, by rw [<- r2.length]; exact hl⟩⟩
 obtain ⟨v, e, rv⟩ := r2.get hd
 refine ⟨⟨vs, v, h2.sq, e⟩, fun x H3 y => ?_⟩
 obtain ⟨y1, y2⟩ := y
 subst y1
 have := y2 vs h2.sq
 rw [e] at this; cases this
 exact ⟨F2, Ext.refl _ _, rv⟩
theorem zLN {K : PySem.W.Frag} {F : Addr -> Prop} {H : Hp} {a : Addr} {vs : List V} {ds : List D} (h : SqT K H a vs) (r : Reps K F H ds vs) : ItD K F H ds (Itt K a) := fun F2 H2 T z i => by
 have h2 := T.tp _ _ h
 have r2 := r.stay T
 refine ⟨fun d hd => ?_, fun hl => ⟨vs, h2, by rw [<- r2.length]; exact hl⟩⟩
 obtain ⟨v, e, rv⟩ := r2.get hd
 refine ⟨⟨vs, v, h2, e⟩, fun x H3 y => ?_⟩
 obtain ⟨y1, y2⟩ := y
 subst y1
 have := y2 vs h2
 rw [e] at this; cases this
 exact ⟨F2, Ext.refl _ _, rv⟩
theorem zG6 (ha : DE X e ga) : DI X tg e (fun ρ => (ga ρ).bind seqD) := by
 intro pins s σ H R I h
 obtain ⟨F, H₀, ρ, ds, S, q, k⟩ := h
 obtain ⟨d, e1, q⟩ := bnd q
 refine thn (ha pins s σ H (fun x H1 => ∃ F1, Ext F F1 H H1 /\ Rep X.K F1 H1 d x) I ⟨F, H₀, ρ, d, S, e1, fun F1 H1 v E1 R1 => ⟨F1, E1, R1⟩⟩) fun v s1 zz => ?_
 obtain ⟨x, H1, I1, r1, F1, E1, R1⟩ := zz
 cases R1 with
 | @lst a vs ds' hq rr =>
  cases q
  cases r1
  obtain ⟨its, rv, p, hz⟩ := I1.list hq.sq
  refine wpAny_pyIter_list p.isList ?_
  refine ⟨s1.heap.objs.size, [s1.heap.objs.size], _, _, H1, rfl, I1.kept (t' := s1.toks) fun b o e => Qc _ e, zOH a _, ⟨_, Qt _ rfl, rfl, rfl⟩, fun b hb => ?_, k F1 H1 _ E1 (zLJ hq rr)⟩
  have e : b = s1.heap.objs.size := by simpa using hb
  subst e
  exact I1.fpOk (Qh _) (I1.hok.fresh (Qh _))
 | @tup a vs ds' hq rr =>
  cases q
  cases r1
  obtain ⟨its, rv, p, hz⟩ := I1.tuple hq
  refine wpAny_pyIter_tuple (show s1.heap.IsTuple a its.toArray from p) ?_
  refine ⟨s1.heap.objs.size, [s1.heap.objs.size], _, _, H1, rfl, I1.kept (t' := s1.toks) fun b o e => Qc _ e, zOL a _, ⟨_, Qt _ rfl, rfl, rfl⟩, fun b hb => ?_, k F1 H1 _ E1 (zLN hq rr)⟩
  have e : b = s1.heap.objs.size := by simpa using hb
  subst e
  exact I1.fpOk (Qh _) (I1.hok.fresh (Qh _))
 | non => cases q
 | dct _ _ _ _ _ => cases q
 | exn _ _ _ => cases q
 | bl _ => cases q
 | int _ => cases q
 | str _ => cases q
end
def zAB (n : Nat) (ds : List D) : Rho := ds.map .dat ++ List.replicate (n - ds.length) .no
def fnD (n : Nat) (g : Rho -> Option Out) : List D -> Option D := fun ds => match g (zAB n ds) with
 | some (.rt d) => some d
 | some (.nx _) => some .none
 | _ => none
theorem zDK {K : PySem.W.Frag} {F : Addr -> Prop} {H : Hp} {N : List Str} {ds : List D} {vs : List V} (z : ∀ a, F a -> H a ≠ none) (r : Reps K F H ds vs) : StOk K F H H (L2.start N vs) (zAB N.length ds) := by
 have hl := r.length
 refine ⟨by simp [L2.start, zAB, hl], fun i s h => ?_, fun i j a es es' hij h1 => ?_, z⟩
 ·unfold zAB at h
  by_cases hi : i < ds.length
  ·rw [YE (by simpa using hi), QP] at h
   cases e : ds[i]? with
   | none => rw [e] at h; cases h
   | some d =>
    rw [e] at h; cases h
    obtain ⟨v, e2, rv⟩ := r.get e
    refine ⟨some v, ?_, v, rfl, rv⟩
    unfold L2.start
    rw [YE (by simpa using (by lia : i < vs.length)), QP, e2]
    rfl
  ·rw [YC (by simpa using hi), Ja] at h
   split at h
   ·rename_i hlt
    cases h
    refine ⟨none, ?_, trivial⟩
    unfold L2.start
    rw [YC (by simpa using (by lia : vs.length <= i)), Ja, if_pos (by simp at hlt ⊢; lia)]
   ·cases h
 ·unfold zAB at h1
  by_cases hi : i < ds.length
  ·rw [YE (by simpa using hi), QP] at h1
   cases e : ds[i]? with
   | none => rw [e] at h1; cases h1
   | some d => rw [e] at h1; cases h1
  ·rw [YC (by simpa using hi), Ja] at h1
   split at h1 <;> cases h1
theorem fn_D {P : Program} {w : World} {K : PySem.W.Frag} {mg : Str -> Option Value} {base : Heap} {x qual : Str} {st : Stmt} {f : Addr} {fd : FuncData} {N ps : List Str} {k : Nat} {g : Rho -> Option Out} (F : Fun K x qual st f fd) (S : zAr N ps (zAj st))
  (hb : ∀ (cdv : Value) (A : Around) (outer : List Env) (s : Shared) (H : Hp) (E : XK), Room k (A.deeper (envOfC qual (zAj st) s.heap.objs.size f cdv)) ->
   DSs (cxOf CX0 P w K mg base N qual (zAj st) f cdv A outer s H E).nox (zAP st) g) : FnOk P w K mg base CX0 (k + 1) f fd ps (spD K ps.length (fnD N.length g)) := by
 refine F.ok S (fun vs H Q E h => ?_) (fun cdv A outer s H vs Q E hr h => ?_)
 ·obtain ⟨F, ds, d, hl, _, r, _⟩ := h
  rw [<- r.length, hl]
 ·obtain ⟨F, ds, d, hl, z, r, q, kk⟩ := h
  refine ⟨_, hb cdv A outer s H E hr, ?_⟩
  unfold fnD at q
  split at q
  ·rename_i d' e
   cases q
   exact ⟨F, H, F, _, _, Ext.refl F H, zDK z r, e, fun F' H' v E' R' => kk F' H' v E' R'⟩
  ·rename_i ρ' e
   cases q
   exact ⟨F, H, F, _, _, Ext.refl F H, zDK z r, e, fun F' H' σ' E' T' S' => kk F' H' .non E' .non⟩
  ·cases q
end DL
namespace DL
open PySem PySem.Spec PySem.SeqAt PyProof.Rows L2
mutual
theorem Rep.reads {X : Cx} {pins : List (Addr × Obj)} {σ : L2.St} {H : Hp} {s : Shared} {F : Addr -> Prop} (I : L2.Inv X pins σ H s) {d : D} {x : V} {u : Value} (h : Rep X.K F H d x) (c : d.canLay0 = true) (r : L2.RelV x u) : ∃ as, Reads s.heap u d as := by
 cases h with
 | non => cases r; exact ⟨_, .none⟩
 | bl b => cases r; exact ⟨_, .bool b⟩
 | int i => obtain ⟨t, rfl⟩ := r; exact ⟨_, .int i t⟩
 | str x => obtain ⟨t, rfl⟩ := r; exact ⟨_, .str x t⟩
 | tup h q =>
  cases r
  obtain ⟨its, rv, ⟨o, ho, hc, n, hd⟩, _⟩ := I.tuple h
  obtain ⟨as, z⟩ := Reps.reads I q c rv
  exact ⟨_, .tuple ho hc hd z⟩
 | lst h q =>
  cases r
  obtain ⟨its, rv, pl, _⟩ := I.list h.sq
  obtain ⟨o, n, ho, hc, _, hd⟩ := pl
  obtain ⟨as, z⟩ := Reps.reads I q c rv
  exact ⟨_, .list ho hc hd z⟩
 | dct f h n l r => cases c
 | exn f h n => cases c
theorem Reps.reads {X : Cx} {pins : List (Addr × Obj)} {σ : L2.St} {H : Hp} {s : Shared} {F : Addr -> Prop} (I : L2.Inv X pins σ H s) {ds : List D} {xs : List V} {us : List Value} (h : Reps X.K F H ds xs) (c : PyData.canLayAll0 ds = true) (r : L2.Vals xs us) : ∃ as, ReadsAll s.heap us ds as := by
 cases h with
 | nil => cases r; exact ⟨_, .nil⟩
 | cons h q =>
  have c := QE.mp c
  cases r with
  | cons r1 r2 =>
   obtain ⟨as, z⟩ := Rep.reads I h c.1 r1
   obtain ⟨bs, y⟩ := Reps.reads I q c.2 r2
   exact ⟨_, .cons z y⟩
end
def dI0 (t : Int -> Int -> D) : D -> D -> Option D
 | .int i, .int j => some (t i j)
 | _, _ => none
def dI2 (C : Int -> Int -> Bool) (t : Int -> Int -> D) : D -> D -> Option D
 | .int i, .int j => if C i j = true then some (t i j) else none
 | _, _ => none
def zBS (i j : Int) : Bool := (decide (-18446744073709551616 < i) && decide (i < 18446744073709551616)) || (decide (-18446744073709551616 < j) && decide (j < 18446744073709551616))
def zCN (_ j : Int) : Bool := decide (0 < j) && decide (j < 1073741824)
def zIJ (_ j : Int) : Bool := decide (0 < j)
section
variable {X : Cx}
theorem opd0 {f : Value -> Value -> Sem Value} {g : Int -> Int -> V} {t : Int -> Int -> D} (h : OpR X f (rI0 g)) (r : ∀ i j K F H, Rep K F H (t i j) (g i j)) : OpR X f (rD2 X.K (dI0 t)) :=
 zCP h fun x y H Q zz => by
  obtain ⟨F, d, e, q, z, R1, R2, hq, k⟩ := zz
  unfold dI0 at hq
  split at hq
  ·cases hq
   cases R1
   cases R2
   exact ⟨_, _, rfl, rfl, k F H _ (Ext.refl F H) (r _ _ _ _ _)⟩
  ·cases hq
theorem opd2 {f : Value -> Value -> Sem Value} {C : Int -> Int -> Prop} {B : Int -> Int -> Bool} {g : Int -> Int -> V} {t : Int -> Int -> D} (h : OpR X f (rI C g)) (hB : ∀ i j, B i j = true -> C i j) (r : ∀ i j K F H, Rep K F H (t i j) (g i j)) : OpR X f (rD2 X.K (dI2 B t)) :=
 zCP h fun x y H Q zz => by
  obtain ⟨F, d, e, q, z, R1, R2, hq, k⟩ := zz
  unfold dI2 at hq
  split at hq
  ·rename_i i j
   by_cases hb : B i j = true
   ·rw [if_pos hb] at hq
    cases hq
    cases R1
    cases R2
    exact ⟨_, _, rfl, rfl, hB _ _ hb, k F H _ (Ext.refl F H) (r _ _ _ _ _)⟩
   ·rw [if_neg hb] at hq; cases hq
  ·cases hq
def dSub : D -> D -> Option D := dI0 fun i j => .int (i - j)
def dMul : D -> D -> Option D := dI2 zBS fun i j => .int (i * j)
def zBC : D -> D -> Option D := dI2 zCN fun i j => .int (i / j)
def dMod : D -> D -> Option D := dI2 zIJ fun i j => .int (i % j)
def dLt : D -> D -> Option D := dI0 fun i j => .bool (decide (i < j))
def dLe : D -> D -> Option D := dI0 fun i j => .bool (decide (i <= j))
def dGt : D -> D -> Option D := dI0 fun i j => .bool (decide (j < i))
theorem zFT : OpR X (binaryOp .Sub) (rD2 X.K dSub) := opd0 zMR fun _ _ _ _ _ => .int _
theorem zA3 : OpR X (binaryOp .Mult) (rD2 X.K dMul) := opd2 zMP (fun i j h => by
 unfold zBS at h
 simp only [Bool.or_eq_true, QH, decide_eq_true_eq] at h
 unfold CMul
 lia) fun _ _ _ _ _ => .int _
theorem zDx : OpR X (binaryOp .FloorDiv) (rD2 X.K zBC) := opd2 zMM (fun i j h => by
 unfold zCN at h
 simp only [QH, decide_eq_true_eq] at h
 exact h) fun _ _ _ _ _ => .int _
theorem zCh : OpR X (binaryOp .Mod) (rD2 X.K dMod) := opd2 zMO (fun i j h => by
 unfold zIJ at h
 simpa using h) fun _ _ _ _ _ => .int _
theorem zCg : OpR X (compareOp .Lt) (rD2 X.K dLt) := opd0 op_lt fun _ _ _ _ _ => .bl _
theorem zCO : OpR X (compareOp .LtE) (rD2 X.K dLe) := opd0 op_le fun _ _ _ _ _ => .bl _
theorem zEk : OpR X (compareOp .Gt) (rD2 X.K dGt) := opd0 op_gt fun _ _ _ _ _ => .bl _
def dNeg : D -> Option D
 | .int i => some (.int (-i))
 | _ => none
theorem zBs : UnR X (unaryOp .USub) (rD1 X.K dNeg) := zOR zOQ fun x H Q zz => by
 obtain ⟨F, d, q, z, R1, hq, k⟩ := zz
 unfold dNeg at hq
 split at hq
 ·cases hq
  cases R1
  exact ⟨_, rfl, k F H _ (Ext.refl F H) (.int _)⟩
 ·cases hq
def dEq (d e : D) : Option D := if (shaped d && shaped e) = true then some (.bool (PyData.eqv d e)) else none
def dNe (d e : D) : Option D := if (shaped d && shaped e) = true then some (.bool (!PyData.eqv d e)) else none
theorem zEj (hu : X.A.units + 64 < cLine) : OpR X (compareOp .Eq) (rD2 X.K dEq) := fun pins s σ H x y v u Q I rx ry zz => by
 obtain ⟨F, d, e, q, z, R1, R2, hq, k⟩ := zz
 unfold dEq at hq
 by_cases c : (shaped d && shaped e) = true
 ·rw [if_pos c] at hq
  cases hq
  have c' := QE.mp c
  obtain ⟨as, a1⟩ := R1.reads I (QN c'.1) rx
  obtain ⟨bs, a2⟩ := R2.reads I (QN c'.2) ry
  exact eq_dataH a1 a2 c'.1 c'.2 hu ⟨.bl _, H, I, rfl, k F H _ (Ext.refl F H) (.bl _)⟩
 ·rw [if_neg c] at hq; cases hq
theorem zCi (hu : X.A.units + 64 < cLine) : OpR X (compareOp .NotEq) (rD2 X.K dNe) := fun pins s σ H x y v u Q I rx ry zz => by
 obtain ⟨F, d, e, q, z, R1, R2, hq, k⟩ := zz
 unfold dNe at hq
 by_cases c : (shaped d && shaped e) = true
 ·rw [if_pos c] at hq
  cases hq
  have c' := QE.mp c
  obtain ⟨as, a1⟩ := R1.reads I (QN c'.1) rx
  obtain ⟨bs, a2⟩ := R2.reads I (QN c'.2) ry
  exact ne_dataH a1 a2 c'.1 c'.2 hu ⟨.bl _, H, I, rfl, k F H _ (Ext.refl F H) (.bl _)⟩
 ·rw [if_neg c] at hq; cases hq
def dIn (neg : Bool) (d : D) : D -> Option D
 | .list xs => if (shaped d && shaped (.list xs)) = true then some (.bool (if neg then !(xs.any fun y => PyData.eqv y d) else xs.any fun y => PyData.eqv y d)) else none
 | .tuple xs => if (shaped d && shaped (.tuple xs)) = true then some (.bool (if neg then !(xs.any fun y => PyData.eqv y d) else xs.any fun y => PyData.eqv y d)) else none
 | _ => none
theorem zEl (hu : X.A.units + 65 < cLine) : OpR X (compareOp .In) (rD2 X.K (dIn false)) := fun pins s σ H x y v u Q I rx ry zz => by
 obtain ⟨F, d, e, q, z, R1, R2, hq, k⟩ := zz
 unfold dIn at hq
 split at hq
 ·rename_i xs
  by_cases c : (shaped d && shaped (.list xs)) = true
  ·rw [if_pos c] at hq
   cases hq
   have c' := QE.mp c
   obtain ⟨as, a1⟩ := R1.reads I (QN c'.1) rx
   obtain ⟨bs, a2⟩ := R2.reads I (QN c'.2) ry
   exact in_list_reads a2 a1 (QN c'.2) (QN c'.1) (room_in_shaped c'.1 hu) ⟨.bl _, H, I, rfl, k F H _ (Ext.refl F H) (.bl _)⟩
  ·rw [if_neg c] at hq; cases hq
 ·rename_i xs
  by_cases c : (shaped d && shaped (.tuple xs)) = true
  ·rw [if_pos c] at hq
   cases hq
   have c' := QE.mp c
   obtain ⟨as, a1⟩ := R1.reads I (QN c'.1) rx
   obtain ⟨bs, a2⟩ := R2.reads I (QN c'.2) ry
   exact in_tuple_reads a2 a1 (QN c'.2) (QN c'.1) (room_in_shaped c'.1 hu) ⟨.bl _, H, I, rfl, k F H _ (Ext.refl F H) (.bl _)⟩
  ·rw [if_neg c] at hq; cases hq
 ·cases hq
theorem zFS (hu : X.A.units + 65 < cLine) : OpR X (compareOp .NotIn) (rD2 X.K (dIn true)) := fun pins s σ H x y v u Q I rx ry zz => by
 obtain ⟨F, d, e, q, z, R1, R2, hq, k⟩ := zz
 unfold dIn at hq
 split at hq
 ·rename_i xs
  by_cases c : (shaped d && shaped (.list xs)) = true
  ·rw [if_pos c] at hq
   cases hq
   have c' := QE.mp c
   obtain ⟨as, a1⟩ := R1.reads I (QN c'.1) rx
   obtain ⟨bs, a2⟩ := R2.reads I (QN c'.2) ry
   exact notIn_list_reads a2 a1 (QN c'.2) (QN c'.1) (room_in_shaped c'.1 hu) ⟨.bl _, H, I, rfl, k F H _ (Ext.refl F H) (.bl _)⟩
  ·rw [if_neg c] at hq; cases hq
 ·rename_i xs
  by_cases c : (shaped d && shaped (.tuple xs)) = true
  ·rw [if_pos c] at hq
   cases hq
   have c' := QE.mp c
   obtain ⟨as, a1⟩ := R1.reads I (QN c'.1) rx
   obtain ⟨bs, a2⟩ := R2.reads I (QN c'.2) ry
   exact notIn_tuple_reads a2 a1 (QN c'.2) (QN c'.1) (room_in_shaped c'.1 hu) ⟨.bl _, H, I, rfl, k F H _ (Ext.refl F H) (.bl _)⟩
  ·rw [if_neg c] at hq; cases hq
 ·cases hq
def dIx : D -> D -> Option D
 | .tuple xs, .int i => atI xs i
 | .list xs, .int i => atI xs i
 | _, _ => none
theorem Reps.atI {K : PySem.W.Frag} {F : Addr -> Prop} {H : Hp} {ds : List D} {vs : List V} {i : Int} {d : D} (r : Reps K F H ds vs) (h : L2.atI ds i = some d) : ∃ v, L2.atI vs i = some v /\ Rep K F H d v := by
 unfold L2.atI at h ⊢
 rw [r.length] at h
 cases e : ixN vs.length i with
 | none => rw [e] at h; cases h
 | some j =>
  rw [e] at h
  obtain ⟨v, h1, h2⟩ := r.get (show ds[j]? = some d from h)
  exact ⟨v, h1, h2⟩
theorem ixd : IxR X (rD2 X.K dIx) := zIc (zLS.or zLW) fun x y H Q zz => by
 obtain ⟨F, d, e, q, z, R1, R2, hq, k⟩ := zz
 unfold dIx at hq
 split at hq
 ·rename_i xs i
  cases R1 with
  | @tup a vs _ h1 r1 =>
   cases R2
   obtain ⟨v, g1, g2⟩ := r1.atI hq
   exact .inr ⟨a, vs, i, v, rfl, rfl, h1, g1, k F H _ (Ext.refl F H) g2⟩
 ·rename_i xs i
  cases R1 with
  | @lst a vs _ h1 r1 =>
   cases R2
   obtain ⟨v, g1, g2⟩ := r1.atI hq
   exact .inl ⟨a, vs, i, v, rfl, rfl, h1.sq, g1, k F H _ (Ext.refl F H) g2⟩
 ·cases hq
def dLen : List D -> Option D
 | [.list xs] => some (.int xs.length)
 | [.tuple xs] => some (.int xs.length)
 | _ => none
theorem zBB : zAH X (.builtin "len") (rDA X.K dLen) := zB3 zKi fun xs H Q zz => by
 obtain ⟨F, ds, q, z, R, hq, k⟩ := zz
 unfold dLen at hq
 split at hq
 ·cases hq
  cases R with
  | cons R1 R2 =>
   cases R2
   cases R1 with
   | @lst a vs _ h1 r1 => exact ⟨a, vs, rfl, .inl h1.sq, by rw [<- r1.length]; exact k F H _ (Ext.refl F H) (.int _)⟩
 ·cases hq
  cases R with
  | cons R1 R2 =>
   cases R2
   cases R1 with
   | @tup a vs _ h1 r1 => exact ⟨a, vs, rfl, .inr h1, by rw [<- r1.length]; exact k F H _ (Ext.refl F H) (.int _)⟩
 ·cases hq
def dAbs : List D -> Option D
 | [.int i] => some (.int (if i < 0 then -i else i))
 | _ => none
theorem zGQ : zAH X (.builtin "abs") (rDA X.K dAbs) := zB3 zKf fun xs H Q zz => by
 obtain ⟨F, ds, q, z, R, hq, k⟩ := zz
 unfold dAbs at hq
 split at hq
 ·cases hq
  cases R with
  | cons R1 R2 => cases R2; cases R1; exact ⟨_, rfl, k F H _ (Ext.refl F H) (.int _)⟩
 ·cases hq
def zBy : List D -> Option (List Int)
 | [] => some []
 | .int i :: r => (zBy r).bind fun is => some (i :: is)
 | _ => none
theorem zD8 {K : PySem.W.Frag} {F : Addr -> Prop} {H : Hp} : ∀ {ds : List D} {vs : List V} {is : List Int}, Reps K F H ds vs -> zBy ds = some is -> vs = is.map V.int := by
 intro ds
 induction ds with
 | nil => intro vs is r h; cases r; cases h; rfl
 | cons d ds ih =>
  intro vs is r h
  cases r with
  | cons r1 r2 =>
   cases d with
   | int i =>
    cases r1
    obtain ⟨js, e, h⟩ := bnd h
    cases h
    rw [ih r2 e]; rfl
   | _ => cases h
def zDT : List D -> Option D
 | [.list xs] => some (.tuple xs)
 | [.tuple xs] => some (.tuple xs)
 | _ => none
theorem zGR : zAH X (.type "tuple") (rDA X.K zDT) := zB3 zKo fun xs H Q zz => by
 obtain ⟨F, ds, q, z, R, hq, k⟩ := zz
 unfold zDT at hq
 split at hq
 ·cases hq
  cases R with
  | cons R1 R2 =>
   cases R2
   cases R1 with
   | @lst a vs _ h1 r1 => exact ⟨a, vs, rfl, .inl ⟨h1.sq, fun l hl => k F _ _ (Ext.fresh hl) (Rep.newTup hl r1)⟩⟩
 ·cases hq
  cases R with
  | cons R1 R2 =>
   cases R2
   cases R1 with
   | @tup a vs _ h1 r1 => exact ⟨a, vs, rfl, .inr ⟨h1, k F H _ (Ext.refl F H) (.tup h1 r1)⟩⟩
 ·cases hq
end
end DL
namespace CL
open PySem PySem.Spec PyProof.Rows L2
theorem zES {env : Env} : ∀ (names : List (Str × NameKind)) (acc : List (Str × Addr)), (∀ x ∈ names, x.2 = .free -> ∃ c, env.cells.lookup x.1 = some c) ->
  (∀ x c, acc.lookup x = some c -> env.cells.lookup x = some c) ->
  ∃ cl, (forIn names acc (fun (x : Str × NameKind) (cs : List (Str × Addr)) => (do
    if x.2 == .free then
     let c <- cellOf env x.1
     pure (ForInStep.yield ((x.1, c) :: cs))
    else pure (ForInStep.yield cs) : Sem (ForInStep (List (Str × Addr))))) = (pure cl : Sem _)) /\ (∀ x c, cl.lookup x = some c -> env.cells.lookup x = some c) /\
   (∀ x, (x, NameKind.free) ∈ names -> ∃ c, cl.lookup x = some c) /\ (∀ x c, acc.lookup x = some c -> ∃ c', cl.lookup x = some c') /\ (∀ x c, cl.lookup x = some c -> (x, NameKind.free) ∈ names ∨ acc.lookup x = some c)
 | [], acc, _, h2 => ⟨acc, by rw [List.forIn_nil], h2, fun x h => by simp at h, fun x c h => ⟨c, h⟩, fun x c h => .inr h⟩
 | (n, k) :: r, acc, h1, h2 => by
  rw [List.forIn_cons]
  by_cases hk : k = .free
  ·subst hk
   obtain ⟨c, hc⟩ := h1 (n, .free) (Qf) rfl
   have hc' : env.cells.lookup n = some c := hc
   have h2' : ∀ x c', ((n, c) :: acc).lookup x = some c' -> env.cells.lookup x = some c' := fun x c' h => by
    rw [QQ] at h
    cases e : x == n with
    | true => rw [e] at h; cases h; rw [Yj e]; exact hc'
    | false => rw [e] at h; exact h2 x c' h
   obtain ⟨cl, q, a1, a2, a3, a4⟩ := zES r ((n, c) :: acc) (fun x hx => h1 x (Qe _ hx)) h2'
   refine ⟨cl, ?_, a1, fun x hx => ?_, fun x c' h => ?_, fun x c' h => ?_⟩
   ·have e1 : cellOf env n = pure c := by unfold cellOf; rw [hc']
    simp only [beq_self_eq_true, if_true, e1, pure_bind]
    exact q
   ·rcases Qk.mp hx with hx | hx
    ·cases hx
     exact a3 n c (by rw [QQ, beq_self_eq_true])
    ·exact a2 x hx
   ·cases e : x == n with
    | true => rw [Yj e]; exact a3 n c (by rw [QQ, beq_self_eq_true])
    | false => exact a3 x c' (by rw [QQ, e]; exact h)
   ·rcases a4 x c' h with h | h
    ·exact .inl (Qe _ h)
    ·rw [QQ] at h
     cases e : x == n with
     | true => rw [Yj e]; exact .inl Qf
     | false => rw [e] at h; exact .inr h
  ·obtain ⟨cl, q, a1, a2, a3, a4⟩ := zES r acc (fun x hx => h1 x (Qe _ hx)) h2
   refine ⟨cl, ?_, a1, fun x hx => ?_, a3, fun x c h => (a4 x c h).imp (Qe _) id⟩
   ·have e : (k == NameKind.free) = false := by simpa using hk
    simp only [e, Qp, if_false, pure_bind]
    exact q
   ·rcases Qk.mp hx with hx | hx
    ·cases hx; exact absurd rfl hk
    ·exact a2 x hx
theorem clos {env : Env} {scope : Scope} (h : ∀ x ∈ scope.names, x.2 = .free -> ∃ c, env.cells.lookup x.1 = some c) :
  ∃ cl, closureFor scope env = pure cl /\ (∀ x c, cl.lookup x = some c -> env.cells.lookup x = some c) /\ (∀ x, (x, NameKind.free) ∈ scope.names -> ∃ c, cl.lookup x = some c) /\ (∀ x c, cl.lookup x = some c -> (x, NameKind.free) ∈ scope.names) := by
 obtain ⟨cl, q, a1, a2, _, a4⟩ := zES (env := env) scope.names [] h (fun x c h => by simp at h)
 refine ⟨cl, ?_, a1, a2, fun x c h => (a4 x c h).elim id fun z => by simp at z⟩
 simp only [closureFor]
 first
  | exact q
  | (rw [<- q]; congr 1; funext x cs; obtain ⟨n, k⟩ := x; rfl)
  | simpa using q
def inCx (X : Cx) (N' : List Str) (scope : Scope) (cl : List (Str × Addr)) (C : Addr) (fp : List Addr) (s : Shared) (H : Hp) : Cx :=
 { X with N := N', s₀ := s, H₀ := H, env := compEnvC scope cl C X.env, outer := X.stack, ex := fp, fn := fun x => scope.names.lookup x == some .local, pn := [], xe := fun _ _ => False }
structure zBW (X : Cx) (N' : List Str) (scope : Scope) (inner : List (Option Nat)) : Prop where
 kind : scope.kind = .function
 nocell : ∀ x ∈ scope.names, x.2 ≠ .cell
 loc : ∀ x ∈ scope.names, x.2 = .local -> scope.names.lookup x.1 = some .local
 free : ∀ x ∈ scope.names, x.2 = .free -> scope.names.lookup x.1 = some .free /\ (X.env.scope.names.lookup x.1 = some .cell ∨ X.env.scope.names.lookup x.1 = some .free)
 len : inner.length = N'.length
 out : ∀ (i j : Nat), inner[i]? = some (some j) -> ∃ x, N'[i]? = some x /\ X.N[j]? = some x /\ scope.names.lookup x = some .free
def inSt (inner : List (Option Nat)) (σ : L2.St) : L2.St := inner.map fun o => o.bind fun j => (σ[j]?).bind id
theorem zI8 {env : Env} : ∀ {names : List (Str × NameKind)} {x : Str}, names.lookup x = some .free ->
  (names.map fun (n, k) => if (k == NameKind.free && env.scope.kind == .function && env.kindOf n == some .cell) then (n, NameKind.cell) else (n, k)).lookup x = some .free ∨
  (names.map fun (n, k) => if (k == NameKind.free && env.scope.kind == .function && env.kindOf n == some .cell) then (n, NameKind.cell) else (n, k)).lookup x = some .cell
 | [], _, h => by simp at h
 | (n, k) :: r, x, h => by
  have ih := @zI8 env r x
  rw [Qo]
  show List.lookup x ((if (k == NameKind.free && env.scope.kind == .function && env.kindOf n == some .cell) = true then (n, NameKind.cell) else (n, k)) :: _) = _ ∨ List.lookup x ((if (k == NameKind.free && env.scope.kind == .function && env.kindOf n == some .cell) = true then (n, NameKind.cell) else (n, k)) :: _) = _
  cases hx : x == n with
  | true =>
   simp only [QQ, hx] at h
   cases h
   by_cases hc : (NameKind.free == NameKind.free && env.scope.kind == .function && env.kindOf n == some .cell) = true
   ·rw [if_pos hc]; right; simp [QQ, hx]
   ·rw [if_neg hc]; left; simp [QQ, hx]
  | false =>
   simp only [QQ, hx] at h
   by_cases hc : (k == NameKind.free && env.scope.kind == .function && env.kindOf n == some .cell) = true
   ·rw [if_pos hc]; simp only [QQ, hx]; exact ih h
   ·rw [if_neg hc]; simp only [QQ, hx]; exact ih h
theorem zF4 {env : Env} : ∀ {names : List (Str × NameKind)} {x : Str} {q : NameKind}, (∀ y ∈ names, y.2 ≠ .cell) -> (q = .cell ∨ q = .free) ->
  (names.map fun (n, k) => if (k == NameKind.free && env.scope.kind == .function && env.kindOf n == some .cell) then (n, NameKind.cell) else (n, k)).lookup x = some q -> (x, NameKind.free) ∈ names
 | [], _, _, _, _, h => by simp at h
 | (n, k) :: r, x, q, hn, hq, h => by
  have ih := @zF4 env r x q (fun y hy => hn y (Qe _ hy)) hq
  rw [Qo] at h
  have h' : List.lookup x ((if (k == NameKind.free && env.scope.kind == .function && env.kindOf n == some .cell) = true then (n, NameKind.cell) else (n, k)) :: _) = some q := h
  cases hx : x == n with
  | true =>
   have e : x = n := Yj hx
   by_cases hc : (k == NameKind.free && env.scope.kind == .function && env.kindOf n == some .cell) = true
   ·have : k = .free := by
     have := hc
     simp only [QH, beq_iff_eq] at this
     exact this.1.1
    rw [e, this]; exact Qf
   ·rw [if_neg hc] at h'
    simp only [QQ, hx] at h'
    have kq : k = q := QG h'
    rcases hq with z | z
    ·exact absurd (kq.trans z) (hn (n, k) Qf)
    ·rw [e, <- z, <- kq]; exact Qf
  | false =>
   by_cases hc : (k == NameKind.free && env.scope.kind == .function && env.kindOf n == some .cell) = true
   ·rw [if_pos hc] at h'; simp only [QQ, hx] at h'; exact Qe _ (ih h')
   ·rw [if_neg hc] at h'; simp only [QQ, hx] at h'; exact Qe _ (ih h')
section
variable {X : Cx} {N' : List Str} {scope : Scope} {inner : List (Option Nat)} {cl : List (Str × Addr)} {C : Addr} {fp : List Addr} {s s4 : Shared} {H : Hp} {σ : L2.St} {pins : List (Addr × Obj)}
theorem zLC (CS : zBW X N' scope inner) (I : Inv X pins σ H s) (hf : ∀ b ∈ fp, FpOk X pins H b) (c1 : ∀ x c, cl.lookup x = some c -> X.env.cells.lookup x = some c) (c2 : ∀ x, (x, NameKind.free) ∈ scope.names -> ∃ c, cl.lookup x = some c) (c3 : ∀ x c, cl.lookup x = some c -> (x, NameKind.free) ∈ scope.names)
  (hfl : ∀ b ∈ fp, b < s.heap.objs.size) (hC : C = s.heap.objs.size) {h' : Heap} {tk : Nat} (hk : ∀ b o, s.heap.get? b = some o -> h'.get? b = some o) (hns : h'.Ns C fun _ => none) (hs4 : s4 = { s with heap := h', toks := tk }) :
  Inv (inCx X N' scope cl C fp s H) [] (inSt inner σ) H s4 := by
 subst hs4
 have old : ∀ b o, s.heap.get? b = some o -> b ≠ C := fun b o e => by rw [hC]; exact Qy (Qm e)
 have cC : ∀ x c, cl.lookup x = some c -> c ≠ C := fun x c e => by
  obtain ⟨v, o, q, _⟩ := I.cell x c (c1 x c e)
  exact old c o q
 refine ⟨⟨I.ok.mod, CS.kind, I.ok.glob, I.ok.blt, ?_, fun x y c h1 h2 => I.ok.inj x y c (c1 x c h1) (c1 y c h2), fun x hx => ?_, fun x c hx h => ?_, I.ok.hd, I.ok.frames, .inl rfl, fun b hb => ⟨?_, fun x c e z => (hf b hb).2.2.2.2.1 x c (c1 x c e) z⟩, I.bs, Qx I.ok.bsz I.sz, fun b o e hb => ?_, fun b hb => ?_, I.stack, I.stkFree⟩,
  rfl, I.bare, Un.kept hk, ⟨_, hns, fun i x v e1 e2 e3 => ?_⟩, fun x c e => ?_, ?_, fun x c e => I.freeC x c (c1 x c e), fun p hp => absurd (show p ∈ ([] : List (Addr × Obj)) from hp) (by simp), I.hok.kept hk, ?_⟩
 ·show s.heap.objs.size <= C
  rw [hC]; exact Qh _
 ·have hx' : (relabel scope X.env).names.lookup x = some .cell ∨ (relabel scope X.env).names.lookup x = some .free := hx
  rcases hx' with hx' | hx'
  ·exact c2 x (zF4 CS.nocell (.inl rfl) hx')
  ·exact c2 x (zF4 CS.nocell (.inr rfl) hx')
 ·have hx' : (scope.names.lookup x == some NameKind.local) = true := hx
  have e1 : scope.names.lookup x = some .local := Yj hx'
  have e2 := (CS.free _ (c3 x c h) rfl).1
  rw [e1] at e2; cases e2
 ·show b ≠ C
  rw [hC]; exact Qy (hfl b hb)
 ·rcases (hf b hb).2.2.2.1 with z | z
  ·exact I.ok.noex b o e z
  ·exact absurd (QB (Qm e) (Qx I.ok.bsz z)) (Y7 _)
 ·intro z
  rcases Qk.mp (I.stkSub b z) with q | q
  ·exact (hf b hb).2.1 q
  ·exact (hf b hb).2.2.1 q
 ·-- a name of the block: one that is free, read through its cell
  unfold inSt at e2
  rw [QP] at e2
  cases ei : inner[i]? with
  | none => rw [ei] at e2; cases e2
  | some o =>
   rw [ei] at e2
   cases o with
   | none => cases e2
   | some j =>
    have e2' : (σ[j]?).bind id = some v := by simpa using e2
    have e4 : σ[j]? = some (some v) := by
     cases ej : σ[j]? with
     | none => rw [ej] at e2'; cases e2'
     | some w' => rw [ej] at e2'; exact congrArg some e2'
    obtain ⟨x', g1, g2, g3⟩ := CS.out i j ei
    have e1' : N'[i]? = some x := e1
    rw [e1'] at g1; cases g1
    have mem : (x, NameKind.free) ∈ scope.names := PySem.mem_of_lookup g3
    have outer := (CS.free _ mem rfl).2
    obtain ⟨m, hm, hl⟩ := I.loc
    have vis : Vis X.env.scope x := outer.elim (fun z => .inr (.inl z)) fun z => .inr (.inr z)
    obtain ⟨u, ru, lk⟩ := hl j x v g2 e4 vis
    refine ⟨u, ru, ?_⟩
    obtain ⟨c, hc⟩ := c2 x mem
    rcases lk with ⟨k1, _⟩ | ⟨_, c', k2, k3⟩
    ·have k1' : X.env.scope.names.lookup x = some .local := k1
     rcases outer with z | z <;> (rw [k1'] at z; cases z)
    ·have e5 := c1 x c hc
     rw [k2] at e5; cases e5
     refine .inr ⟨?_, c, hc, (let ⟨o, q1, q2⟩ := k3; ⟨o, hk _ o q1, q2⟩)⟩
     have := zI8 (env := X.env) g3
     exact this.elim .inr .inl
 ·obtain ⟨v, q⟩ := I.cell x c (c1 x c e)
  exact ⟨v, (let ⟨o, q1, q2⟩ := q; ⟨o, hk _ o q1, q2⟩)⟩
 ·show H C = none
  exact I.hok.fresh (by rw [hC]; exact Qh _)
 ·show (inSt inner σ).length = N'.length
  unfold inSt
  rw [Qj]; exact CS.len
theorem zLB (I : Inv X pins σ H s) (hf : ∀ b ∈ fp, FpOk X pins H b) (hC : C = s.heap.objs.size) {σ' : L2.St} {H' : Hp} {s5 : Shared} (J : Inv (inCx X N' scope cl C fp s H) [] σ' H' s5) {h' : Heap} (sb : Heap.SameBut C s5.heap h') :
  Inv X pins σ H' { s5 with heap := h' } := by
 have old : ∀ b o, s.heap.get? b = some o -> b ≠ C := fun b o e => by rw [hC]; exact Qy (Qm e)
 have U : Un (frs X.stack) fp H H' s.heap s5.heap := J.base
 have nC : H' C = none := J.free
 refine I.call' (ch := fp) J.os ⟨fun b o e n hb hx => ?_, fun b o e n hb hx => ?_, U.free, fun b o e hx => ?_, U.tups, U.frzs, U.tbls⟩ (fun b u e => ?_) J.bare fun b hb => ?_
 ·rw [sb.2 b (old b o e)]; exact U.keep b o e n hb hx
 ·obtain ⟨sl, q⟩ := U.slot b o e n hb hx
  exact ⟨sl, by rw [sb.2 b (old b o e)]; exact q⟩
 ·obtain ⟨o', q⟩ := U.there b o e hx
  exact ⟨o', by rw [sb.2 b (old b o e)]; exact q⟩
 ·have nt : ∀ c v, H' c = some v -> c ≠ C := fun c v q z => by rw [z, nC] at q; cases q
  refine (J.hok b u e).stay (fun c v hc q => ?_) (fun _ q => q) fun _ _ q => q
  rw [sb.2 c ?_]
  ·exact q
  ·rcases hc with z | z
   ·rw [z]; exact nt b u e
   ·exact nt c _ z
 ·exact ⟨(hf b hb).2.2.2.1, (hf b hb).2.1, (hf b hb).2.2.2.2.1, (hf b hb).2.2.2.2.2⟩
end
def PTs (X : Cx) (ifs : List Expr) (t : TT) : Prop :=
 ∀ (pins : List (Addr × Obj)) (s : Shared) (σ : L2.St) (H : Hp) (Q : Bool -> Hp -> Prop), Inv X pins σ H s -> t σ H Q ->
  wpAny (model X.prog X.w) X.A (forIn ifs true fun c r => if r = true then do let ok <- isTrue c X.env (eval c X.env); pure (ForInStep.yield ok) else pure (ForInStep.yield r)) (TP X pins σ Q) X.xe s
theorem zNE {X : Cx} {c : Expr} {t : TT} (h : PT X c t) : PTs X [c] t := fun pins s σ H Q I q => wpAny_tests_one (h pins s σ H Q I q)
def zGj (wi : TI) (g : TG) (ti : TT) (te : TE) (inner : List (Option Nat)) : TE := fun σ H Q => wi σ H fun J H1 => ∀ D, H1 D = none -> ∃ W : Nat -> Nat -> L2.St -> Hp -> Prop, (∃ m, W 0 m (inSt inner σ) (upd H1 D (.lst []))) /\ ∀ i m σ' H', W i m σ' H' ->
 (J.stop i H' /\ Q (.ref D) H') ∨ (J.go i H' /\ ∀ x H2, J.yld i H' x H2 -> g x σ' H2 fun σ3 H3 => ti σ3 H3 fun b H4 => if b = true then te σ3 H4 fun y H5 => ∃ ys, H5 D = some (.lst ys) /\ ys.length < sizeLine /\ ∃ m', m' < m /\ W (i + 1) m' σ3 (upd H5 D (.lst (ys ++ [y]))) else ∃ m', m' < m /\ W (i + 1) m' σ3 H4)
section
variable {X : Cx} {elt tg iter : Expr} {ifs : List Expr} {scope : Scope} {pos : Pos} {N' : List Str} {inner : List (Option Nat)} {wi : TI} {g : TG} {ti : TT} {te : TE}
theorem zKB {Y : Cx} {D it : Addr} {fp : List Addr} {tn : Nat -> Heap -> Prop} {J : It} {W : Nat -> Nat -> L2.St -> Hp -> Prop} {Qn : Hp -> Prop} {RR : Result -> Shared -> Prop} {σ0 : L2.St} {H0 : Hp} {s4 : Shared} {m0 : Nat}
  (hc : Y.calm = true) (hxe : ∀ v s, ¬ Y.xe v s) (hg : PG Y tg g) (ht : PTs Y ifs ti) (he : PE Y elt te) (T : Turn Y.prog Y.w Y.K tg J fp it tn) (fx : ∀ {H'' : Hp}, (∀ b ∈ fp, H'' b = none) -> ∀ b ∈ fp, FpOk Y [] H'' b)
  (I4 : Inv Y [] σ0 H0 s4) (t4 : tn 0 s4.heap) (fr4 : ∀ b ∈ fp, H0 b = none) (w0 : W 0 m0 σ0 H0)
  (step : ∀ i m σ' H', W i m σ' H' -> (J.stop i H' /\ Qn H') ∨ (J.go i H' /\ ∀ x H3, J.yld i H' x H3 -> g x σ' H3 fun σ3 H3 => ti σ3 H3 fun b H4 => if b = true then te σ3 H4 fun y H5 => ∃ ys, H5 D = some (.lst ys) /\ ys.length < sizeLine /\ ∃ m', m' < m /\ W (i + 1) m' σ3 (upd H5 D (.lst (ys ++ [y]))) else ∃ m', m' < m /\ W (i + 1) m' σ3 H4))
  (fin : ∀ σ' H' s5, Inv Y [] σ' H' s5 -> Qn H' -> RR (.ok .next) s5) :
  codeAny (model Y.prog Y.w) Y.A (.compLoop (.ListComp elt [⟨tg, iter, ifs, 0⟩] scope pos) 0 (.ref it) (.ref D) Y.env) RR s4 := by
 refine codeAny_loop rfl (fun m s' => ∃ i σ' H', Inv Y [] σ' H' s' /\ tn i s'.heap /\ (∀ b ∈ fp, H' b = none) /\ W i m σ' H') (fun m s' hI => ?_) m0 ⟨0, _, _, I4, t4, fr4, w0⟩
 obtain ⟨i, σ', H', I', t', fr', w'⟩ := hI
 show wpAny _ Y.A ((compTurn (.ListComp elt [⟨tg, iter, ifs, 0⟩] scope pos) 0 (.ref it) (.ref D) Y.env).onRaise (fun x => do noteFrame x Y.env; theTreesLotGoes x)) _ _ s'
 refine wpAny_noted ?_
 rw [compTurn_list]
 refine Qa (wpAny_standAt (Qa ?_))
 rcases step i m σ' H' w' with ⟨stop, qn⟩ | ⟨go, nxt⟩
 ·refine YK (T.done Y rfl rfl rfl hc i [] s' σ' H' (fun _ _ => False) I' (fx fr') t' stop) (fun r s5 hr => ?_) fun _ _ z => z.elim
  obtain ⟨hr, I5⟩ := hr
  subst hr
  exact Qb (fin σ' H' s5 I5 qn)
 ·refine YK (T.item Y rfl rfl rfl hc i [] s' σ' H' (fun _ _ => False) I' (fx fr') t' go) (fun r s5 hr => ?_) fun _ _ z => z.elim
  obtain ⟨u, hr, h5⟩ := hr
  subst hr
  refine Qa (YK h5 (fun _ s6 h6 => ?_) fun _ _ z => z.elim)
  obtain ⟨x, H6, I6, r6, y6, t6, fr6⟩ := h6
  have I6' := I6.pinned (fx fr6) (T.obj _ _ t6)
  have back : ∀ {m' : Nat} {σ7 : L2.St} {H7 : Hp} {s7 : Shared}, Inv Y ([] ++ zDC fp s6.heap) σ7 H7 s7 -> m' < m -> W (i + 1) m' σ7 H7 ->
    ∃ m', m' < m /\ ∃ i σ' H', Inv Y [] σ' H' s7 /\ tn i s7.heap /\ (∀ b ∈ fp, H' b = none) /\ W i m' σ' H' := fun {m' σ7 H7 s7} I7 lt w7 => by
   refine ⟨m', lt, i + 1, σ7, H7, I7.unpinned, T.keep _ _ _ t6 fun b hb o e => (I7.pin (b, o) (Qu _ (Qu _ (zEi hb e)))).1, fun b hb => ?_, w7⟩
   obtain ⟨o, e, _⟩ := T.obj _ _ t6 b hb
   exact (I7.pin (b, o) (Qu _ (Qu _ (zEi hb e)))).2.1
  refine Qa (YK (hg _ s6 σ' H6 x u _ I6' r6 (nxt x H6 y6)) (fun _ s7 h7 => ?_) fun _ _ z => absurd z (hxe _ _))
  obtain ⟨σ7, H7, I7, q7⟩ := h7
  refine Qa (YK (ht _ s7 σ7 H7 _ I7 q7) (fun ok s8 h8 => ?_) fun _ _ z => absurd z (hxe _ _))
  obtain ⟨H8, I8, q8⟩ := h8
  cases ok with
  | false =>
   simp only [Qp, if_false] at q8 ⊢
   obtain ⟨m', lt, w8⟩ := q8
   exact Qb ⟨rfl, back I8 lt w8⟩
  | true =>
   simp only [if_true] at q8 ⊢
   refine Qa (Qa (YK (he _ s8 σ7 H8 _ I8 q8) (fun y s9 h9 => ?_) fun _ _ z => absurd z (hxe _ _)))
   obtain ⟨yv, H9, I9, r9, ys, d9, l9, m', lt, w9⟩ := h9
   refine Qa (YK (zFL (X := Y) _ s9 σ7 H9 (.ref D) [yv] _ [y] (fun v H' => H' = upd H9 D (.lst (ys ++ [yv]))) I9 rfl (.cons r9 .nil) ⟨_, ys, yv, rfl, rfl, d9, l9, rfl⟩) (fun _ s10 h10 => ?_) fun _ _ z => absurd z (hxe _ _))
   obtain ⟨_, H10, I10, _, e10⟩ := h10
   subst e10
   exact Qb (Qb ⟨rfl, back I10 lt w9⟩)
theorem zDh (hc : X.calm = true) (CS : zBW X N' scope inner) (hg : ∀ cl C fp s H, PG (inCx X N' scope cl C fp s H) tg g) (ht : ∀ cl C fp s H, PTs (inCx X N' scope cl C fp s H) ifs ti) (he : ∀ cl C fp s H, PE (inCx X N' scope cl C fp s H) elt te)
  {pins : List (Addr × Obj)} {σ : L2.St} {s2 : Shared} {H2 : Hp} {it : Addr} {fp : List Addr} {tn : Nat -> Heap -> Prop} {J : It} {cl : List (Str × Addr)} {Q : VK} {RR : Value -> Addr -> Result -> Shared -> Prop}
  (c1 : ∀ x c, cl.lookup x = some c -> X.env.cells.lookup x = some c) (c2 : ∀ x, (x, NameKind.free) ∈ scope.names -> ∃ c, cl.lookup x = some c) (c3 : ∀ x c, cl.lookup x = some c -> (x, NameKind.free) ∈ scope.names)
  (I2 : Inv X pins σ H2 s2) (T : Turn X.prog X.w X.K tg J fp it tn) (t0 : tn 0 s2.heap) (f2 : ∀ b ∈ fp, FpOk X pins H2 b)
  (q : ∀ D, H2 D = none -> ∃ W : Nat -> Nat -> L2.St -> Hp -> Prop, (∃ m, W 0 m (inSt inner σ) (upd H2 D (.lst []))) /\ ∀ i m σ' H', W i m σ' H' ->
   (J.stop i H' /\ Q (.ref D) H') ∨ (J.go i H' /\ ∀ x H3, J.yld i H' x H3 -> g x σ' H3 fun σ3 H3 => ti σ3 H3 fun b H4 => if b = true then te σ3 H4 fun y H5 => ∃ ys, H5 D = some (.lst ys) /\ ys.length < sizeLine /\ ∃ m', m' < m /\ W (i + 1) m' σ3 (upd H5 D (.lst (ys ++ [y]))) else ∃ m', m' < m /\ W (i + 1) m' σ3 H4))
  (fin : ∀ (D C : Addr) (H' : Hp) (s5 : Shared) (m : Str -> Option Value), s5.heap.Ns C m -> Q (.ref D) H' -> (∀ h', Heap.SameBut C s5.heap h' -> Inv X pins σ H' { s5 with heap := h' }) -> (H' C = none /\ C ≠ X.env.locals /\ X.s₀.heap.objs.size <= C /\ (∀ x c, X.env.cells.lookup x = some c -> c ≠ C) /\ ∀ p ∈ X.pn ++ pins, p.1 ≠ C) -> RR (.ref D) C (.ok .next) s5) :
  wpAny (model X.prog X.w) X.A (newList []) (fun acc s₃ => wpAny (model X.prog X.w) X.A (newFunctionEnv scope X.env.globals cl [] X.env.qual none .none (some X.env)) (fun cenv s₄ =>
   codeAny (model X.prog X.w) X.A (.compStart (.ListComp elt [⟨tg, iter, ifs, 0⟩] scope pos) 0 (.ref it) acc { cenv with scope := relabel scope X.env }) (RR acc cenv.locals) s₄) X.xe s₃) X.xe s2 := by
 refine wpAny_newList ?_
 have hD : H2 s2.heap.objs.size = none := I2.hok.fresh (Qh _)
 generalize hs3 : ({ s2 with heap := s2.heap.push { cls := .type "list", data := .seq ([] : List Value).toArray } } : Shared) = s3
 have k23 : ∀ b o, s2.heap.get? b = some o -> s3.heap.get? b = some o := fun b o e => by rw [<- hs3]; exact Qc _ e
 have sz3 : s3.heap.objs.size = s2.heap.objs.size + 1 := by rw [<- hs3]; exact Jc _ _
 have I3 : Inv X pins σ (upd H2 s2.heap.objs.size (.lst [])) s3 := by
  rw [<- hs3]
  exact I2.laid (t' := s2.toks) (o := .lst []) (fun b o e => Qc _ e) (Qh _) ⟨QU _, [], 0, .nil, Qt _ rfl⟩
 have ffl : ∀ b ∈ fp, b < s2.heap.objs.size := fun b hb => by
  obtain ⟨o, e, _⟩ := T.obj 0 _ t0 b hb
  exact Qm e
 have f3 : ∀ b ∈ fp, FpOk X pins (upd H2 s2.heap.objs.size (.lst [])) b := fun b hb => by
  obtain ⟨g0, g1⟩ := f2 b hb
  exact ⟨by rw [zAm (Qy (ffl b hb))]; exact g0, g1⟩
 have t3 : tn 0 s3.heap := T.keep _ _ _ t0 fun b _ o e => k23 b o e
 obtain ⟨W, ⟨m0, w0⟩, step⟩ := q _ hD
 refine wpAny_newFunctionEnv (fun x hx => CS.nocell x hx) (by intro y hy; simp at hy) (fun h₁ hns₁ hsb₁ => ?_) CS.kind
 try dsimp only at hns₁ hsb₁ ⊢
 have k34 : ∀ b o, s3.heap.get? b = some o -> h₁.get? b = some o := fun b o e => hsb₁.extBut b o (Qy (Qm e)) (Qc _ e)
 have hns : h₁.Ns s3.heap.objs.size fun _ => none := by
  have : (fun x => ([] : List (Str × Value)).reverse.lookup x) = (fun _ => none : Str -> Option Value) := by funext x; rfl
  rw [this] at hns₁; exact hns₁
 generalize hs4 : ({ s3 with heap := h₁, toks := s3.toks + ([] : List (Str × Value)).length } : Shared) = s4
 have I4 : Inv (inCx X N' scope cl s3.heap.objs.size fp s3 (upd H2 s2.heap.objs.size (.lst []))) [] (inSt inner σ) (upd H2 s2.heap.objs.size (.lst [])) s4 :=
  zLC CS I3 f3 c1 c2 c3 (fun b hb => by rw [sz3]; exact Nat.lt_succ_of_lt (ffl b hb)) rfl k34 hns hs4.symm
 have t4 : tn 0 s4.heap := by rw [<- hs4]; exact T.keep _ _ _ t3 fun b _ o e => k34 b o e
 have CL : s3.heap.objs.size ≠ X.env.locals := YQ I3.lt
 have CC : ∀ x c, X.env.cells.lookup x = some c -> c ≠ s3.heap.objs.size := fun x c e => by
  obtain ⟨v, o, z, _⟩ := I3.cell x c e
  exact Qy (Qm z)
 show codeAny (model X.prog X.w) X.A (.compStart (.ListComp elt [⟨tg, iter, ifs, 0⟩] scope pos) 0 (.ref it) (.ref s2.heap.objs.size) (compEnvC scope cl s3.heap.objs.size X.env)) (RR (.ref s2.heap.objs.size) s3.heap.objs.size) s4
 have loop : codeAny (model X.prog X.w) X.A (.compLoop (.ListComp elt [⟨tg, iter, ifs, 0⟩] scope pos) 0 (.ref it) (.ref s2.heap.objs.size) (compEnvC scope cl s3.heap.objs.size X.env)) (RR (.ref s2.heap.objs.size) s3.heap.objs.size) s4 := by
  have fx : ∀ {H'' : Hp}, (∀ b ∈ fp, H'' b = none) -> ∀ b ∈ fp, FpOk (inCx X N' scope cl s3.heap.objs.size fp s3 (upd H2 s2.heap.objs.size (.lst []))) [] H'' b := fun {H''} z b hb =>
   ⟨z b hb, (I4.ok.exf b hb).1, I4.ok.exfs b hb, .inl hb, fun x c e => (I4.ok.exf b hb).2 x c e, fun p hp => absurd (show p ∈ ([] : List (Addr × Obj)) from hp) (by simp)⟩
  refine zKB (Y := inCx X N' scope cl s3.heap.objs.size fp s3 (upd H2 s2.heap.objs.size (.lst []))) hc (fun _ _ z => z) (hg _ _ _ _ _) (ht _ _ _ _ _) (he _ _ _ _ _) T fx I4 t4 (fun b hb => (f3 b hb).1) w0 step fun σ' H' s5 I5 qn => ?_
  obtain ⟨m5, hm5, _⟩ := id I5.loc
  exact fin _ _ H' s5 m5 hm5 qn (fun h' sb => zLB I3 f3 rfl I5 sb) ⟨I5.free, CL, I3.sz, CC, fun p hp => Qy (Qm (I3.pin p hp).1)⟩
 exact codeAny_compStart_list loop (T.self X.A 0 s4 _ _ t4 loop)
theorem zM5 (hc : X.calm = true) (CS : zBW X N' scope inner) (hi : PI X tg iter wi) (hg : ∀ cl C fp s H, PG (inCx X N' scope cl C fp s H) tg g) (ht : ∀ cl C fp s H, PTs (inCx X N' scope cl C fp s H) ifs ti) (he : ∀ cl C fp s H, PE (inCx X N' scope cl C fp s H) elt te)
  (hs : ∀ x, foldedSetIterable iter X.env x = pure x := by intro _; rfl) : PE X (.ListComp elt [⟨tg, iter, ifs, 0⟩] scope pos) (zGj wi g ti te inner) := by
 intro pins s σ H Q I h
 obtain ⟨cl, hcl, c1, c2, c3⟩ := clos (env := X.env) (scope := scope) fun x hx hk => I.ok.has x.1 (CS.free x hx hk).2
 rw [eval_ListComp]
 refine wpAny_comprehension_free (use := none) rfl hs hcl CS.kind CS.loc (thn (hi pins s σ H _ I h) fun xv s1 h1 => thn h1 fun itv s2 h2 => ?_)
 obtain ⟨it, fp, tn, J, H2, rfl, I2, T, t0, f2, q⟩ := h2
 refine zDh (RR := fun acc C => compPost (model X.prog X.w) X.A X.xe none (EP X pins σ Q) acc C) hc CS hg ht he c1 c2 c3 I2 T t0 f2 q ?_
 intro D C H' s5 m hm hq hI _
 exact ⟨m, hm, fun h' sb => ⟨.ref D, H', hI h' sb, rfl, hq⟩⟩
theorem zNu {i : Nat} {y : Str} {py spos : Pos} (hN : X.N.Nodup) (hc : X.calm = true) (CS : zBW X N' scope inner) (hi : PI X tg iter wi) (hg : ∀ cl C fp s H, PG (inCx X N' scope cl C fp s H) tg g) (ht : ∀ cl C fp s H, PTs (inCx X N' scope cl C fp s H) ifs ti) (he : ∀ cl C fp s H, PE (inCx X N' scope cl C fp s H) elt te)
  (hsw : swapsWith (.ListComp elt [⟨tg, iter, ifs, 0⟩] scope pos) (some (.Name y py)) spos.line X.env = pure true := by rfl) (hy : X.N[i]? = some y := by rfl) (hx : Loc X.env.scope y := by first | exact Or.inl rfl | exact Or.inr rfl) (hf : X.fn y = true ∨ X.env.scope.names.lookup y = some .local := by first | exact .inl rfl | exact .inr rfl | assumption)
  (hs : ∀ x, foldedSetIterable iter X.env x = pure x := by intro _; rfl) : PS X (.Assign [.Name y py] (.ListComp elt [⟨tg, iter, ifs, 0⟩] scope pos) spos) (tAsg (zGj wi g ti te inner) (zD5 i)) := by
 intro pins s σ H D I h
 obtain ⟨cl, hcl, c1, c2, c3⟩ := clos (env := X.env) (scope := scope) fun x hx hk => I.ok.has x.1 (CS.free x hx hk).2
 rw [exec_Assign_Name_used _ _ _ _ hsw]
 refine Qa (wpAny_standAt (Qa ?_))
 show wpAny _ X.A (do let _ <- comprehension (.ListComp elt [⟨tg, iter, ifs, 0⟩] scope pos) scope X.env _ (newList []) false (eval iter X.env) (some (assign (.Name y py) X.env))) _ _ s
 refine Qa (YK (wpAny_comprehension_free (use := some (assign (.Name y py) X.env)) (Q := fun _ s' => SP X pins D .next s') rfl hs hcl CS.kind CS.loc
  (thn (hi pins s σ H _ I h) fun xv s1 h1 => thn h1 fun itv s2 h2 => ?_)) (fun _ s' hq => Qb (Qb hq)) fun _ _ e => e)
 obtain ⟨it, fp, tn, J, H2, rfl, I2, T, t0, f2, q⟩ := h2
 refine zDh (Q := fun v H' => zD5 i v σ H' D.nx) (RR := fun acc C => compPost (model X.prog X.w) X.A X.xe (some (assign (.Name y py) X.env)) (fun _ s' => SP X pins D .next s') acc C) hc CS hg ht he c1 c2 c3 I2 T t0 f2 q ?_
 intro D' C H' s5 m hm hq hI hC
 obtain ⟨z1, z2, z3, z4, z5⟩ := hC
 show wpAny _ X.A (assign (.Name y py) X.env (.ref D')) _ _ _
 have I5 := hI s5.heap (Heap.SameBut.refl ..)
 refine wpAny_assign_Name (zJA (v := .ref D') I5 hN hy hx (show L2.RelV (.ref D') (Value.ref D') from rfl) (fun s6 I6 k6 => ?_) hf)
 obtain ⟨a, sb, ha⟩ := k6
 have na : C ≠ a := by
  rcases ha with ha | ha
  ·rw [ha]; exact z2
  ·exact (z4 y a ha).symm
 refine ⟨m, hm.sameBut sb na, fun h' sb' => ⟨_, H', ?_, hq⟩⟩
 exact I6.turned (t' := s6.toks) (fun b o nb e => by rw [sb'.2 b nb]; exact e) z1 z2 (.inr z3) z4 z5
end
end CL
namespace DL
open PySem PySem.Spec PySem.SeqAt PyProof.Rows L2 CL
def zBx (inner : List (Option Nat)) (ρ : Rho) : Rho := inner.map fun o => match o with
 | some j => match ρ[j]? with
  | some (.dat d) => .dat d
  | _ => .no
 | none => .no
def zCB (s : D -> Rho -> Option Rho) (t : Rho -> Option Bool) (ge : Rho -> Option D) : List D -> Rho -> Option (List D)
 | [], _ => some []
 | d :: ds, ρ => (s d ρ).bind fun ρ1 => (t ρ1).bind fun b => if b = true then (ge ρ1).bind fun y => (zCB s t ge ds ρ1).bind fun r => some (y :: r) else zCB s t ge ds ρ1
def zAJ (gi : Rho -> Option (List D)) (s : D -> Rho -> Option Rho) (t : Rho -> Option Bool) (ge : Rho -> Option D) (inner : List (Option Nat)) : Rho -> Option (List D) :=
 fun ρ => (gi ρ).bind fun xs => (zCB s t ge xs (zBx inner ρ)).bind fun out => if out.length <= 1000 then some out else none
def eLc (g : Rho -> Option (List D)) : Rho -> Option D := fun ρ => (g ρ).bind fun out => some (.list out)
def eT : Rho -> Option Bool := fun _ => some true
def isOwn : Sl -> Bool
 | .own _ | .ownD _ | .ownM _ => true
 | _ => false
def zB2 (ρ : Rho) : Prop := ∀ (i : Nat) (s : Sl), isOwn s = true -> ρ[i]? ≠ some s
def zDN (s : D -> Rho -> Option Rho) : Prop := ∀ d ρ ρ', zB2 ρ -> s d ρ = some ρ' -> zB2 ρ'
theorem zNq {ρ : Rho} {i : Nat} {d : D} (h : zB2 ρ) : zB2 (ρ.set i (.dat d)) := fun j ds ow e => by
 by_cases c : i = j
 ·subst c
  by_cases l : i < ρ.length
  ·rw [Qv l] at e; cases e; cases ow
  ·rw [List.getElem?_eq_none (by simpa using Jb l)] at e; cases e
 ·rw [Qs c] at e; exact h j ds ow e
theorem zBg (i : Nat) : zDN (zAo i) := fun d ρ ρ' h e => by cases e; exact zNq h
theorem zFZ (inner : List (Option Nat)) (ρ : Rho) : zB2 (zBx inner ρ) := fun i ds ow e => by
 unfold zBx at e
 rw [QP] at e
 cases q : inner[i]? with
 | none => rw [q] at e; cases e
 | some o =>
  rw [q] at e
  cases o with
  | none => cases e; cases ow
  | some j =>
   have e' : (match ρ[j]? with | some (.dat d) => Sl.dat d | _ => Sl.no) = ds := QG e
   split at e' <;> (subst e'; cases ow)
theorem zOo {K : PySem.W.Frag} {F : Addr -> Prop} {H : Hp} {p : Addr} {vs us : List V} (hp : H p = some (.lst vs)) (hf : ¬ F p) : Stay K F F H (upd H p (.lst us)) :=
 ⟨fun _ h => h, fun a xs h => by
  rcases h with (h | ⟨o, h⟩) | h
  ·exact .inl (.inl (by rw [zAm (by intro z; subst z; rw [hp] at h; cases h)]; exact h))
  ·exact .inl (.inr ⟨o, by rw [zAm (by intro z; subst z; rw [hp] at h; cases h)]; exact h⟩)
  ·exact .inr h, fun a xs f h => by
  have na : a ≠ p := fun z => hf (by rw [<- z]; exact f)
  rcases h with h | ⟨o, h⟩
  ·exact .inl (by rw [zAm na]; exact h)
  ·exact .inr ⟨o, by rw [zAm na]; exact h⟩, fun a φ f h => by rw [zAm (fun z => hf (by rw [<- z]; exact f))]; exact h⟩
theorem StOk.plain {K : PySem.W.Frag} {F F' : Addr -> Prop} {H H' H₀ H₁ : Hp} {σ : L2.St} {ρ : Rho} (S : StOk K F H H₀ σ ρ) (pl : zB2 ρ) (T : Stay K F F' H H') (z : ∀ a, F' a -> H' a ≠ none) : StOk K F' H' H₁ σ ρ :=
 ⟨S.len, fun i s h => by
  obtain ⟨o, q, w⟩ := S.sl i s h
  refine ⟨o, q, ?_⟩
  cases s with
  | no => trivial
  | ownD kvs => exact absurd h (pl i _ rfl)
  | ownM kvs => exact absurd h (pl i _ rfl)
  | dat d => obtain ⟨v, e, r⟩ := w; exact ⟨v, e, r.stay T⟩
  | own ds => exact absurd h (pl i _ rfl), fun i j a ds es _ h1 => absurd h1 (pl i _ rfl), z⟩
theorem StOk.inner {K : PySem.W.Frag} {F : Addr -> Prop} {H H₀ : Hp} {σ : L2.St} {ρ : Rho} (S : StOk K F H H₀ σ ρ) (inner : List (Option Nat)) : StOk K F H H₀ (inSt inner σ) (zBx inner ρ) :=
 ⟨by simp [inSt, zBx], fun i s h => by
  unfold zBx at h
  unfold inSt
  rw [QP] at h ⊢
  cases q : inner[i]? with
  | none => rw [q] at h; cases h
  | some o =>
   rw [q] at h
   cases o with
   | none => cases h; exact ⟨none, rfl, trivial⟩
   | some j =>
    have h' : (match ρ[j]? with | some (.dat d) => Sl.dat d | _ => Sl.no) = s := QG h
    split at h'
    ·rename_i d e
     cases h'
     obtain ⟨v, e2, r⟩ := S.dat e
     exact ⟨some v, by simp [e2], v, rfl, r⟩
    ·cases h'
     exact ⟨_, rfl, trivial⟩, fun i j a ds es _ h1 => absurd h1 (zFZ inner ρ i _ rfl), S.fz⟩
def DTs (X : Cx) (ifs : List Expr) (t : Rho -> Option Bool) : Prop := PTs X ifs (tDT X.K t)
theorem zDk {X : Cx} : DTs X [] eT := fun pins s σ H Q I zz => by
 obtain ⟨F, H₀, ρ, b, S, q, k⟩ := zz
 cases q
 exact wpAny_tests_nil ⟨H, I, k F H (Ext.refl F H)⟩
theorem zCa {X : Cx} {c : Expr} {t : Rho -> Option Bool} (h : DT X c t) : DTs X [c] t := zNE h
section
variable {X : Cx} {elt tg iter : Expr} {ifs : List Expr} {scope : Scope} {pos : Pos} {N' : List Str} {inner : List (Option Nat)} {gi : Rho -> Option (List D)} {s : D -> Rho -> Option Rho} {t : Rho -> Option Bool} {ge : Rho -> Option D}
structure CInv (X : Cx) (s : D -> Rho -> Option Rho) (t : Rho -> Option Bool) (ge : Rho -> Option D) (xs out : List D) (F1 : Addr -> Prop) (H1 : Hp) (D' : Addr) (i m : Nat) (σ' : L2.St) (H' : Hp) (F2 : Addr -> Prop) (ρ2 : Rho) (vs : List V) (don rst : List D) : Prop where
 em : m = xs.length - i
 hi : i <= xs.length
 E : Ext F1 F2 H1 H'
 T : Stay X.K F1 F2 H1 H'
 S : StOk X.K F2 H' H1 σ' ρ2
 pl : zB2 ρ2
 dD : H' D' = some (.lst vs)
 nf : ¬ F2 D'
 rd : Reps X.K F2 H' don vs
 ec : zCB s t ge (xs.drop i) ρ2 = some rst
 eo : don ++ rst = out
 kp : ∀ b o, b ≠ D' -> H1 b = some o -> H' b = some o
theorem zGV (kp : zDN s) {σ : L2.St} {H : Hp} {Q : VK} {F : Addr -> Prop} {H₀ : Hp} {ρ : Rho} {out : List D} (S : StOk X.K F H H₀ σ ρ) (q : zAJ gi s t ge inner ρ = some out)
  (fin : ∀ F' H' D' vs, Ext F F' H H' -> Stay X.K F F' H H' -> H D' = none -> H' D' = some (.lst vs) -> ¬ F' D' -> Reps X.K F' H' out vs -> StOk X.K F' H' H₀ σ ρ -> Q (.ref D') H') :
  zGj (tDI X.K gi) (tDG X.K s) (tDT X.K t) (tD X.K ge) inner σ H Q := by
 obtain ⟨xs, e1, q⟩ := bnd q
 obtain ⟨out', e2, q⟩ := bnd q
 by_cases hl : out'.length <= 1000
 ·rw [if_pos hl] at q
  cases q
  refine ⟨F, H₀, ρ, xs, S, e1, fun F1 H1 J E1 I1 D' hD => ?_⟩
  have S1 := S.ext E1
  refine ⟨fun i m σ' H' => ∃ F2 ρ2 vs don rst, CInv X s t ge xs out F1 H1 D' i m σ' H' F2 ρ2 vs don rst, ?_, ?_⟩
  ·have E2 : Ext F1 F1 H1 (upd H1 D' (.lst [])) := Ext.fresh hD
   refine ⟨xs.length, F1, zBx inner ρ, [], [], out, rfl, QU _, E2, E2.stay, ?_, zFZ inner ρ, zAL, fun f => S1.fz _ f hD, .nil, e2, rfl, fun b o nb e => by rw [zAm nb]; exact e⟩
   exact (S1.inner inner).plain (zFZ inner ρ) E2.stay (E2.fz S1.fz)
  ·rintro i m σ' H' ⟨F2, ρ2, vs, don, rst, rfl, hi, E2, T2, S2, pl, dD, nf, rd, ec, eo, kp2⟩
   obtain ⟨it1, it2⟩ := I1 F2 H' T2 S2.fz i
   by_cases hlt : i < xs.length
   ·right
    have hget : xs[i]? = some xs[i] := by simp [hlt]
    obtain ⟨go, yld⟩ := it1 _ hget
    rw [Yq hlt] at ec
    obtain ⟨ρ3, e3, ec⟩ := bnd ec
    obtain ⟨b, e4, ec⟩ := bnd ec
    refine ⟨go, fun x H3 y => ?_⟩
    obtain ⟨F3, E3, R3⟩ := yld x H3 y
    have pl3 := kp _ _ _ pl e3
    refine ⟨F3, H1, ρ2, xs[i], ρ3, S2.ext E3, R3, e3, fun σ5 S5 => ⟨F3, H1, ρ3, b, S5, e4, fun F6 H6 E6 => ?_⟩⟩
    have S6 := S5.ext E6
    have E36 := E3.trans E6
    have d6 : H6 D' = some (.lst vs) := E36.same _ _ dD
    have nf6 : ¬ F6 D' := fun f => by
     rcases E36.new _ f with f | ⟨f, _⟩
     ·exact nf f
     ·rw [dD] at f; cases f
    cases b with
    | false =>
     simp only [Qp, if_false] at ec ⊢
     exact ⟨xs.length - (i + 1), by lia, F6, ρ3, vs, don, rst, rfl, hlt, E2.trans E36, T2.trans E36.stay, S6, pl3, d6, nf6, rd.stay E36.stay, ec, eo, fun b o nb e => E36.same _ _ (kp2 b o nb e)⟩
    | true =>
     simp only [if_true] at ec ⊢
     obtain ⟨yd, e5, ec⟩ := bnd ec
     obtain ⟨r', e6, ec⟩ := bnd ec
     cases ec
     refine ⟨F6, H1, ρ3, yd, S6, e5, fun F7 H7 yv E7 R7 => ?_⟩
     have E37 := E36.trans E7
     have d7 : H7 D' = some (.lst vs) := E37.same _ _ dD
     have nf7 : ¬ F7 D' := fun f => by
      rcases E37.new _ f with f | ⟨f, _⟩
      ·exact nf f
      ·rw [dD] at f; cases f
     have T8 : Stay X.K F7 F7 H7 (upd H7 D' (.lst (vs ++ [yv]))) := zOo d7 nf7
     have S7 := S6.ext E7
     have E8 : Ext F1 F7 H1 (upd H7 D' (.lst (vs ++ [yv]))) := (E2.trans E37).turn hD
     have ll : vs.length < 1000 := by
      have h1 := rd.length
      have h2 := congrArg List.length eo
      rw [Ql, QV] at h2
      lia
     refine ⟨vs, d7, zEF (YA ll), xs.length - (i + 1), by lia, F7, ρ3, vs ++ [yv], don ++ [yd], r', rfl, hlt, E8, (T2.trans E37.stay).trans T8, S7.plain pl3 T8 (E8.fz S1.fz), pl3, zAL, nf7, ?_, e6, by rw [QM]; exact eo, fun b o nb e => ?_⟩
     ·exact ((rd.stay E37.stay).append (.cons R7 .nil)).stay T8
     ·rw [zAm nb]; exact E37.same _ _ (kp2 b o nb e)
   ·left
    have hge : xs.length <= i := Jb hlt
    refine ⟨it2 hge, ?_⟩
    rw [List.drop_eq_nil_of_le hge] at ec
    cases ec
    rw [QW] at eo
    subst eo
    have hH : H D' = none := E1.same.free hD
    have EE : Ext F F2 H H' := E1.trans E2
    exact fin F2 H' D' vs EE (E1.stay.trans T2) hH dD nf rd (S.ext EE)
 ·rw [if_neg hl] at q; cases q
theorem zBk (hc : X.calm = true) (CS : zBW X N' scope inner) (kp : zDN s) (hi : DI X tg iter gi) (hg : ∀ cl C fp s' H, DG (inCx X N' scope cl C fp s' H) tg s) (ht : ∀ cl C fp s' H, DTs (inCx X N' scope cl C fp s' H) ifs t) (he : ∀ cl C fp s' H, DE (inCx X N' scope cl C fp s' H) elt ge)
  (hs : ∀ x, foldedSetIterable iter X.env x = pure x := by intro _; rfl) : DE X (.ListComp elt [⟨tg, iter, ifs, 0⟩] scope pos) (eLc (zAJ gi s t ge inner)) :=
 zAK (zM5 (g := tDG X.K s) (ti := tDT X.K t) (te := tD X.K ge) hc CS hi (fun cl C fp s' H => hg cl C fp s' H) (fun cl C fp s' H => ht cl C fp s' H) (fun cl C fp s' H => he cl C fp s' H) hs) fun σ H Q zz => by
  obtain ⟨F, H₀, ρ, d, S, q, k⟩ := zz
  obtain ⟨out, e1, q⟩ := bnd q
  cases q
  refine zGV kp S e1 fun F' H' D' vs E' T' h1 h2 h3 h4 h5 => ?_
  refine k (fun a => F' a ∨ a = D') H' _ ⟨E'.same, fun a f => .inl (E'.up a f), fun a f => ?_⟩ (.lst (.inl ⟨.inr rfl, .inl h2⟩) (h4.stay ⟨fun _ f => .inl f, fun _ _ f => f, fun _ _ _ f => f, fun _ _ _ f => f⟩))
  rcases f with f | rfl
  ·exact E'.new a f
  ·exact .inr ⟨h1, by rw [h2]; simp⟩
theorem zK6 {i : Nat} {y : Str} {py spos : Pos} (hN : X.N.Nodup) (hc : X.calm = true) (CS : zBW X N' scope inner) (kp : zDN s) (hi : DI X tg iter gi) (hg : ∀ cl C fp s' H, DG (inCx X N' scope cl C fp s' H) tg s) (ht : ∀ cl C fp s' H, DTs (inCx X N' scope cl C fp s' H) ifs t) (he : ∀ cl C fp s' H, DE (inCx X N' scope cl C fp s' H) elt ge)
  (hsw : swapsWith (.ListComp elt [⟨tg, iter, ifs, 0⟩] scope pos) (some (.Name y py)) spos.line X.env = pure true := by rfl) (hy : X.N[i]? = some y := by rfl) (hx : L2.Loc X.env.scope y := by first | exact Or.inl rfl | exact Or.inr rfl) (hf : X.fn y = true ∨ X.env.scope.names.lookup y = some .local := by first | exact .inl rfl | exact .inr rfl | assumption)
  (hs : ∀ x, foldedSetIterable iter X.env x = pure x := by intro _; rfl) : DS X (.Assign [.Name y py] (.ListComp elt [⟨tg, iter, ifs, 0⟩] scope pos) spos) (sSet i (eLc (zAJ gi s t ge inner))) :=
 ps_mono (zNu (g := tDG X.K s) (ti := tDT X.K t) (te := tD X.K ge) hN hc CS hi (fun cl C fp s' H => hg cl C fp s' H) (fun cl C fp s' H => ht cl C fp s' H) (fun cl C fp s' H => he cl C fp s' H) hsw hy hx hf hs) fun W σ H zz => by
  obtain ⟨F₀, H₀, F, ρ, o, E, S, q, k⟩ := zz
  obtain ⟨d, e1, q⟩ := bnd q
  cases q
  obtain ⟨out, e2, q⟩ := bnd e1
  cases q
  refine zGV kp S e2 fun F' H' D' vs E' T' h1 h2 h3 h4 h5 => ?_
  have T9 : Stay X.K F' (fun a => F' a ∨ a = D') H' H' := ⟨fun _ f => .inl f, fun _ _ f => f, fun _ _ _ f => f, fun _ _ _ f => f⟩
  have E9 : Ext F (fun a => F' a ∨ a = D') H H' := ⟨E'.same, fun a f => .inl (E'.up a f), fun a f => by
   rcases f with f | rfl
   ·exact E'.new a f
   ·exact .inr ⟨h1, by rw [h2]; simp⟩⟩
  exact k _ H' _ (E.trans E9) (T'.trans T9) ((S.ext E9).put (.lst (.inl ⟨.inr rfl, .inl h2⟩) (h4.stay T9)))
end
end DL
namespace SD
open PySem PySem.Spec PySem.SeqAt PyProof.Rows L2 DL SG
theorem zCL : ∀ a : List Int, HT.lexLt a a = false
 | [] => rfl
 | x :: xs => by rw [HT.lexLt_cons, if_pos rfl]; exact zCL xs
theorem zEe : ∀ a b c : List Int, HT.lexLt a b = true -> HT.lexLt b c = true -> HT.lexLt a c = true
 | [], b, [], h1, h2 => by cases b with | nil => cases h1 | cons _ _ => cases h2
 | [], _, _ :: _, _, _ => rfl
 | _ :: _, [], _, h1, _ => by cases h1
 | _ :: _, _ :: _, [], _, h2 => by cases h2
 | x :: xs, y :: ys, z :: zs, h1, h2 => by
  rw [HT.lexLt_cons] at h1 h2 ⊢
  by_cases c1 : x = y
  ·subst c1
   rw [if_pos rfl] at h1
   by_cases c2 : x = z
   ·subst c2
    rw [if_pos rfl] at h2 ⊢
    exact zEe xs ys zs h1 h2
   ·rw [if_neg c2] at h2 ⊢; exact h2
  ·rw [if_neg c1] at h1
   have g1 : x < y := of_decide_eq_true h1
   by_cases c2 : y = z
   ·subst c2
    rw [if_neg c1]; exact decide_eq_true g1
   ·rw [if_neg c2] at h2
    have g2 : y < z := of_decide_eq_true h2
    rw [if_neg (by lia)]
    exact decide_eq_true (by lia)
theorem zDu : ∀ a b : List Int, HT.lexLt a b = false -> HT.lexLt b a = false -> a = b
 | [], [], _, _ => rfl
 | [], _ :: _, h1, _ => by cases h1
 | _ :: _, [], _, h2 => by cases h2
 | x :: xs, y :: ys, h1, h2 => by
  rw [HT.lexLt_cons] at h1 h2
  by_cases c : x = y
  ·subst c
   rw [if_pos rfl] at h1 h2
   rw [zDu xs ys h1 h2]
  ·rw [if_neg c] at h1
   rw [if_neg (Ne.symm c)] at h2
   have g1 : ¬ x < y := of_decide_eq_false h1
   have g2 : ¬ y < x := of_decide_eq_false h2
   lia
theorem zIi (a b c : List Int) (h : HT.lexLt a c = true) : HT.lexLt a b = true ∨ HT.lexLt b c = true := by
 cases e1 : HT.lexLt a b with
 | true => exact .inl rfl
 | false =>
  right
  cases e2 : HT.lexLt b a with
  | false => rw [<- zDu a b e1 e2]; exact h
  | true => exact zEe b a c e2 h
theorem zFH : ∀ (a b c d : List Int), a.length = b.length -> HT.lexLt (a ++ c) (b ++ d) = if a = b then HT.lexLt c d else HT.lexLt a b
 | [], [], c, d, _ => by simp
 | [], _ :: _, _, _, h => by simp at h
 | _ :: _, [], _, _, h => by simp at h
 | x :: xs, y :: ys, c, d, h => by
  rw [List.cons_append, List.cons_append, HT.lexLt_cons]
  have ih := zFH xs ys c d (by simpa using h)
  by_cases e : x = y
  ·subst e
   rw [if_pos rfl, ih, HT.lexLt_cons, if_pos rfl]
   simp
  ·rw [if_neg e, if_neg (by simp [e]), HT.lexLt_cons, if_neg e]
def keyT (tab : List (Value × List Int)) : PyProof.Rows.KeyKind where
 α := List Int
 blt := HT.lexLt
 irrefl := zCL
 trans := zEe
 negTrans := zIi
 total := zDu
 keyOf := fun v => tab.lookup v
 dflt := []
def isI : D -> Option Int
 | .int i => some i
 | _ => none
def zA7 (x y : D) : Bool := (isI x).isSome && (isI y).isSome
def zA2 : List D -> List D -> Bool
 | [], [] => true
 | x :: xs, y :: ys => zA7 x y && zA2 xs ys
 | _, _ => false
def zBR (d : D) : Option (List Int) := (isI d).bind fun i => some [i]
theorem zFD {d : D} {i : Int} (h : isI d = some i) : d = .int i := by
 cases d with
 | int j => cases h; rfl
 | _ => cases h
theorem zBF {d : D} {a : List Int} (h : zBR d = some a) : ∃ i, d = .int i /\ a = [i] := by
 obtain ⟨i, e, h⟩ := bnd h
 cases h
 exact ⟨i, zFD e, rfl⟩
theorem zFI {x y : D} (h : zA7 x y = true) : (∃ i, x = .int i) /\ ∃ j, y = .int j := by
 obtain ⟨h1, h2⟩ := QE.mp h
 obtain ⟨i, e1⟩ := Y8.mp h1
 obtain ⟨j, e2⟩ := Y8.mp h2
 exact ⟨⟨i, zFD e1⟩, j, zFD e2⟩
def zBf : List D -> Option (List Int)
 | [] => some []
 | d :: ds => (zBR d).bind fun a => (zBf ds).bind fun b => some (a ++ b)
theorem zMg {d x y : D} (h1 : zA7 d x = true) (h2 : zA7 d y = true) : zA7 x y = true := by
 obtain ⟨_, i, rfl⟩ := zFI h1
 obtain ⟨_, j, rfl⟩ := zFI h2
 rfl
theorem zEg : ∀ {d x y : List D}, zA2 d x = true -> zA2 d y = true -> zA2 x y = true
 | [], [], [], _, _ => rfl
 | [], [], _ :: _, _, h => by cases h
 | [], _ :: _, _, h, _ => by cases h
 | _ :: _, [], _, h, _ => by cases h
 | _ :: _, _ :: _, [], _, h => by cases h
 | d :: ds, x :: xs, y :: ys, h1, h2 => by
  have a := QE.mp h1
  have b := QE.mp h2
  exact QE.mpr ⟨zMg a.1 b.1, zEg a.2 b.2⟩
section
variable {prog : Program} {w : World} {A : Around} {E : Value -> Shared -> Prop} {s : Shared}
theorem zHx {x y : D} {a b : List Int} (l : zA7 x y = true) (fx : zBR x = some a) (fy : zBR y = some b) : a.length = b.length := by
 obtain ⟨i, _, rfl⟩ := zBF fx
 obtain ⟨j, _, rfl⟩ := zBF fy
 rfl
theorem el_eq {x y : D} {p q : Value} {a b : List Int} {as bs : List Addr} (hu : A.units + 64 < cLine) (rp : Reads s.heap p x as) (rq : Reads s.heap q y bs) (l : zA7 x y = true) (fx : zBR x = some a) (fy : zBR y = some b) : EqAt A s p q (decide (a = b)) := by
 obtain ⟨i, rfl, rfl⟩ := zBF fx
 obtain ⟨j, rfl, rfl⟩ := zBF fy
 cases rp with
 | int _ t => cases rq with
  | int _ u =>
   have e : (i == j) = decide ([i] = [j]) := by
    by_cases c : i = j
    ·subst c; simp
    ·simp [c]
   rw [<- e]; exact EqAt.int_int (A := A) (s := s) i t j u
theorem zOF {b : Bool} {Q : Bool -> Shared -> Prop} (h : Q b s) : wpAny (model prog w) A (truthOfDropped (.bool b)) Q E s := by
 unfold truthOfDropped
 exact YB h
theorem el_lt {x y : D} {p q : Value} {a b : List Int} {as bs : List Addr} {f : Bool} {Q : Bool -> Shared -> Prop} (hu : A.units + 64 < cLine) (rp : Reads s.heap p x as) (rq : Reads s.heap q y bs) (l : zA7 x y = true) (fx : zBR x = some a) (fy : zBR y = some b)
  (hf : f = true -> ∃ i, x = .int i) (k : Q (HT.lexLt a b) s) (ne : a ≠ b) : wpAny (model prog w) A (oneLt' f p q) Q E s := by
 obtain ⟨i, rfl, rfl⟩ := zBF fx
 obtain ⟨j, rfl, rfl⟩ := zBF fy
 cases rp
 cases rq
 have e : HT.lexLt [i] [j] = decide (i < j) := by
  rw [HT.lexLt_cons, if_neg (by intro z; exact ne (by rw [z]))]
 rw [e] at k
 cases f with
 | true => exact oneLt_int k
 | false =>
  rw [oneLt'_eq]
  simp only [Qp, if_false]
  refine Qa (HT.rcLt_int A s i _ j _ prog w E _ (zOF k))
theorem zJd {b : Bool} {fin : Bool} {Q : Bool -> Shared -> Prop} (hu : A.units + 64 < cLine) : ∀ {xs ys : List D} {a c : List Int} {us vs : List Value} {as bs : List Addr} (i : Nat), zA2 xs ys = true -> zBf xs = some a -> zBf ys = some c -> ReadsAll s.heap us xs as -> ReadsAll s.heap vs ys bs ->
  (b = true -> i = 0 -> ∀ x r, xs = x :: r -> ∃ n, x = .int n) -> (a = c -> Q fin s) -> (a ≠ c -> Q (HT.lexLt a c) s) -> PySem.W.KatLex prog w A b fin Q (us.zip vs) i s
 | [], [], _, _, _, _, _, _, i, _, f1, f2, r1, r2, _, k1, k2 => by
  cases f1; cases f2; cases r1; cases r2
  exact PySem.W.kat_nil (k1 rfl)
 | [], _ :: _, _, _, _, _, _, _, _, l, _, _, _, _, _, _, _ => by cases l
 | _ :: _, [], _, _, _, _, _, _, _, l, _, _, _, _, _, _, _ => by cases l
 | x :: xs, y :: ys, _, _, _, _, _, _, i, l, f1, f2, r1, r2, hb, k1, k2 => by
  obtain ⟨a1, e1, f1⟩ := bnd f1
  obtain ⟨a2, e2, f1⟩ := bnd f1
  cases f1
  obtain ⟨c1, e3, f2⟩ := bnd f2
  obtain ⟨c2, e4, f2⟩ := bnd f2
  cases f2
  obtain ⟨l1, l2⟩ := QE.mp l
  have hlen := zHx l1 e1 e3
  cases r1 with
  | cons p1 p2 => cases r2 with
   | cons q1 q2 =>
    rw [List.zip_cons_cons]
    refine PySem.W.kat_cons (el_eq hu p1 q1 l1 e1 e3 prog w _ _ ?_)
    by_cases c : a1 = c1
    ·rw [decide_eq_true c]
     subst c
     refine PySem.W.kat_yes (zJd hu (i + 1) l2 e2 e4 p2 q2 (fun _ h => by lia) (fun e => k1 (by rw [e])) fun e => ?_)
     have := k2 (fun z => e (List.append_cancel_left z))
     rw [zFH _ _ _ _ rfl, if_pos rfl] at this
     exact this
    ·rw [decide_eq_false c]
     refine PySem.W.kat_no (el_lt hu p1 q1 l1 e1 e3 (fun hf => ?_) ?_ c)
     ·obtain ⟨g1, g2⟩ := QE.mp hf
      exact hb g1 (by simpa using g2) x xs rfl
     ·have ne : a1 ++ a2 ≠ c1 ++ c2 := fun z => c (List.append_inj_left z hlen)
      have := k2 ne
      rw [zFH _ _ _ _ hlen, if_neg c] at this
      exact this
theorem zFJ {α : Type} {f : Value -> Sem α} {g : Value -> α} : ∀ {vs : List Value} {Q : List α -> Shared -> Prop}, (∀ v ∈ vs, ∀ (R : α -> Shared -> Prop), R (g v) s -> wpAny (model prog w) A (f v) R E s) -> Q (vs.map g) s -> wpAny (model prog w) A (vs.mapM f) Q E s
 | [], _, _, k => by rw [List.mapM_nil]; exact Qb k
 | v :: vs, Q, h, k => by
  rw [List.mapM_cons]
  refine Qa (h v Qf _ (Qa (zFJ (fun u hu => h u (Qe _ hu)) (Qb k))))
def isInt : D -> Bool
 | .int _ => true
 | _ => false
def zBp (h : Heap) : Value -> Option Value
 | .ref a => match h.get? a with
  | some o => match o.data with
   | .seq xs _ => xs[0]?
   | _ => none
  | none => none
 | _ => none
def tyE : Value -> Value
 | .ref _ => .type "tuple"
 | _ => .type "int"
theorem zLj (v : Value) : firstOfTuple' v = (typeOf v >>= fun t => if (t != .type "tuple") = true then pure none else Builtin.List.listItems v >>= fun xs => pure xs[0]?) := by
 unfold firstOfTuple'
 rfl
theorem zL5 {vs : List Value} {bi : Bool} {d : D} (hd : isInt d = bi) (hR : ∀ v ∈ vs, ∃ x xs as, Reads s.heap v (.tuple (x :: xs)) as /\ zA7 d x = true) (hne : vs ≠ []) :
  wpAny (model prog w) A (keyKind' vs.toArray) (fun q s' => q = tuples' bi /\ s' = s) E s := by
 rw [keyKind'_eq, List.mapM_toArray, map_eq_pure_bind]
 refine Qa (Qa (zFJ (g := fun v => zBp s.heap v) (fun v hv R hR' => ?_) (Qb ?_)))
 ·obtain ⟨x, xs, as, r, _⟩ := hR v hv
  cases r with
  | @tuple a o us n _ _ h1 h2 h3 h4 =>
   rw [zLj]
   refine Qa (Y3 (T := "tuple") ⟨o, h1, h2⟩ ?_)
   have e : (Value.type "tuple" != Value.type "tuple") = false := by simp
   rw [if_neg (by rw [e]; simp)]
   refine Qa (listItems_at h1 h3 (Qb ?_))
   have e2 : zBp s.heap (.ref a) = us[0]? := by
    show (match s.heap.get? a with | some o => (match o.data with | .seq xs _ => xs[0]? | _ => none) | none => none) = us[0]?
    rw [h1]
    show (match o.data with | .seq xs _ => xs[0]? | _ => none) = us[0]?
    rw [h3]
   rw [e2] at hR'
   exact hR'
 ·have fst : ∀ v ∈ vs, ∃ u x as, zBp s.heap v = some u /\ Reads s.heap u x as /\ zA7 d x = true := fun v hv => by
   obtain ⟨x, xs, as, r, l⟩ := hR v hv
   cases r with
   | @tuple a o us n _ _ h1 h2 h3 h4 =>
    have e2 : zBp s.heap (.ref a) = us[0]? := by
     show (match s.heap.get? a with | some o => (match o.data with | .seq xs _ => xs[0]? | _ => none) | none => none) = us[0]?
     rw [h1]
     show (match o.data with | .seq xs _ => xs[0]? | _ => none) = us[0]?
     rw [h3]
    generalize hl : us.toList = ul at h4
    cases h4 with
    | @cons u vs' _ _ as' bs' r1 r2 =>
     refine ⟨u, x, as', ?_, r1, l⟩
     rw [e2, <- QD, hl]
     rfl
  have ty : ∀ u x as, Reads s.heap u x as -> zA7 d x = true -> tyE u = (if bi = true then .type "int" else .type "tuple") /\ ∀ (R : Value -> Shared -> Prop), R (tyE u) s -> wpAny (model prog w) A (typeOf u) R E s := fun u x as r l => by
   obtain ⟨⟨i, ed⟩, j, rfl⟩ := zFI l
   subst ed
   cases r
   cases hd
   exact ⟨rfl, fun R k => Y3 (T := "int") (typeIs_int s _ _) k⟩
  have all : ((vs.map fun v => zBp s.heap v).toArray.all fun x => x.isSome) = true := by
   rw [List.all_toArray, List.all_map, QS]
   intro v hv
   obtain ⟨u, x, as, e, _⟩ := fst v hv
   simp [e]
  rw [if_pos all]
  refine Qa (wpAny_rule (Qa ?_))
  rw [oneTypeOnly'_eq]
  have ef : ((vs.map fun v => zBp s.heap v).toArray.filterMap id) = (vs.filterMap fun v => zBp s.heap v).toArray := by
   rw [List.filterMap_toArray, List.filterMap_map]
   rfl
  rw [ef, List.mapM_toArray, map_eq_pure_bind]
  have mem : ∀ u ∈ vs.filterMap (fun v => zBp s.heap v), ∃ x as, Reads s.heap u x as /\ zA7 d x = true := fun u hu => by
   obtain ⟨v, hv, e⟩ := List.mem_filterMap.mp hu
   obtain ⟨u', x, as, e', r, l⟩ := fst v hv
   rw [e] at e'; cases e'
   exact ⟨x, as, r, l⟩
  refine Qa (Qa (zFJ (g := tyE) (fun u hu R k => ?_) (Qb ?_)))
  ·obtain ⟨x, as, r, l⟩ := mem u hu
   exact (ty u x as r l).2 R k
  ·obtain ⟨v0, vs', rfl⟩ : ∃ v0 vs', vs = v0 :: vs' := by
    cases vs with
    | nil => exact absurd rfl hne
    | cons a b => exact ⟨a, b, rfl⟩
   obtain ⟨u0, x0, as0, e0, r0, l0⟩ := fst v0 Qf
   have em : ∀ t ∈ ((v0 :: vs').filterMap (fun v => zBp s.heap v)).map tyE, t = (if bi = true then .type "int" else .type "tuple") := fun t ht => by
    obtain ⟨u, hu, rfl⟩ := QJ.mp ht
    obtain ⟨x, as, r, l⟩ := mem u hu
    exact (ty u x as r l).1
   have e1 : (((v0 :: vs').filterMap (fun v => zBp s.heap v)).map tyE).toArray[0]? = some (if bi = true then .type "int" else .type "tuple") := by
    rw [Y9, e0]
    simp only [Qo]
    rw [(ty u0 x0 as0 r0 l0).1]
    rfl
   rw [e1]
   have e2 : ((((v0 :: vs').filterMap (fun v => zBp s.heap v)).map tyE).toArray.all fun x => x == (if bi = true then .type "int" else .type "tuple")) = true := by
    rw [List.all_toArray, QS]
    intro t ht
    rw [em t ht]
    simp
   dsimp only
   rw [if_pos e2]
   refine Qb (Qb ⟨?_, rfl⟩)
   cases bi <;> rfl
end
end SD
namespace SD
open PySem PySem.Spec PySem.SeqAt PyProof.Rows L2 DL SG
abbrev KD := List Int × D
def rowK (d0 : List D) : D -> Option (List Int)
 | .tuple (x :: xs) => if zA2 d0 (x :: xs) = true then zBf (x :: xs) else none
 | _ => none
def zAT (d0 : List D) : List D -> Option (List KD)
 | [] => some []
 | d :: ds => (rowK d0 d).bind fun k => (zAT d0 ds).bind fun r => some ((k, d) :: r)
def insK (p : KD) : List KD -> List KD
 | [] => [p]
 | q :: r => if HT.lexLt q.1 p.1 = true then q :: insK p r else p :: q :: r
def zAQ : List KD -> List KD
 | [] => []
 | p :: r => insK p (zAQ r)
def zB5 : List D -> Option D
 | [.list []] => some (.list [])
 | [.list (.tuple d0 :: ds)] => if ds.length < 63 then (zAT d0 (.tuple d0 :: ds)).bind fun l => some (.list ((zAQ l).map (·.2))) else none
 | _ => none
def Le (p q : KD) : Prop := HT.lexLt q.1 p.1 = false
theorem Le.trans {p q r : KD} (a : Le p q) (b : Le q r) : Le p r := by
 unfold Le at *
 cases e : HT.lexLt r.1 p.1 with
 | false => rfl
 | true =>
  rcases zIi _ q.1 _ e with h | h
  ·rw [b] at h; cases h
  ·rw [a] at h; cases h
theorem zFA (p : KD) : ∀ l : List KD, (insK p l).Perm (p :: l)
 | [] => .refl _
 | q :: r => by
  unfold insK
  split
  ·exact ((zFA p r).cons q).trans (.swap p q r)
  ·exact .refl _
theorem zCY : ∀ l : List KD, (zAQ l).Perm l
 | [] => .refl _
 | p :: r => (zFA p (zAQ r)).trans ((zCY r).cons p)
theorem zH5 (p : KD) : ∀ l : List KD, l.Pairwise Le -> (insK p l).Pairwise Le
 | [], _ => by simp [insK]
 | q :: r, h => by
  obtain ⟨h1, h2⟩ := Yb.mp h
  unfold insK
  split
  ·rename_i c
   refine Yb.mpr ⟨fun z hz => ?_, zH5 p r h2⟩
   rcases Qk.mp ((zFA p r).mem_iff.mp hz) with e | e
   ·subst e
    unfold Le
    cases e2 : HT.lexLt z.1 q.1 with
    | false => rfl
    | true => have := zEe _ _ _ c e2; rw [zCL] at this; cases this
   ·exact h1 z e
  ·rename_i c
   have pq : Le p q := by simpa [Le] using c
   refine Yb.mpr ⟨fun z hz => ?_, h⟩
   rcases Qk.mp hz with e | e
   ·rw [e]; exact pq
   ·exact pq.trans (h1 z e)
theorem zDI : ∀ l : List KD, (zAQ l).Pairwise Le
 | [] => .nil
 | p :: r => zH5 p _ (zDI r)
theorem zGh : ∀ {a b : List KD}, a.Perm b -> a.Pairwise Le -> b.Pairwise Le -> (∀ p ∈ a, ∀ q ∈ a, p.1 = q.1 -> p = q) -> a = b
 | [], b, h, _, _, _ => h.nil_eq
 | x :: r, [], h, _, _, _ => absurd h.length_eq (by simp)
 | x :: r, y :: t, h, ha, hb, inj => by
  have hy : y ∈ x :: r := h.mem_iff.mpr Qf
  have hx : x ∈ y :: t := h.mem_iff.mp Qf
  have e : x = y := by
   refine inj x Qf y hy (zDu _ _ ?_ ?_)
   ·rcases Qk.mp hx with c | c
    ·rw [c]; exact zCL _
    ·exact (Yb.mp hb).1 x c
   ·rcases Qk.mp hy with c | c
    ·rw [c]; exact zCL _
    ·exact (Yb.mp ha).1 y c
  subst e
  rw [zGh h.cons_inv (Yb.mp ha).2 (Yb.mp hb).2 fun p hp q hq => inj p (Qe _ hp) q (Qe _ hq)]
theorem zNf {α β : Type} {f : α -> β} {a b : List β} (h : a.Perm b) : ∀ l : List α, l.map f = a -> ∃ l' : List α, l'.Perm l /\ l'.map f = b := by
 induction h with
 | nil => intro l e; exact ⟨l, .refl _, e⟩
 | cons x _ ih =>
  intro l e
  cases l with
  | nil => cases e
  | cons y l =>
   rw [Qo] at e
   injection e with e1 e2
   obtain ⟨l', p, q⟩ := ih l e2
   exact ⟨y :: l', p.cons y, by rw [Qo, e1, q]⟩
 | swap x y r =>
  intro l e
  match l, e with
  | a :: b :: l, e =>
   rw [Qo, Qo] at e
   injection e with e1 e2
   injection e2 with e2 e3
   exact ⟨b :: a :: l, .swap a b l, by rw [Qo, Qo, e1, e2, e3]⟩
 | trans _ _ ih1 ih2 =>
  intro l e
  obtain ⟨l1, p1, q1⟩ := ih1 l e
  obtain ⟨l2, p2, q2⟩ := ih2 l1 q1
  exact ⟨l2, p2.trans p1, q2⟩
theorem zHv : ∀ {xs ys : List D} {a : List Int}, zA2 xs ys = true -> zBf xs = some a -> zBf ys = some a -> xs = ys
 | [], [], _, _, _, _ => rfl
 | [], _ :: _, _, l, _, _ => by cases l
 | _ :: _, [], _, l, _, _ => by cases l
 | x :: xs, y :: ys, a, l, f1, f2 => by
  obtain ⟨a1, e1, f1⟩ := bnd f1
  obtain ⟨a2, e2, f1⟩ := bnd f1
  obtain ⟨c1, e3, f2⟩ := bnd f2
  obtain ⟨c2, e4, f2⟩ := bnd f2
  obtain ⟨l1, l2⟩ := QE.mp l
  have hl := zHx l1 e1 e3
  have ee : a1 ++ a2 = c1 ++ c2 := (QG f1).trans (QG f2).symm
  obtain ⟨g1, g2⟩ := List.append_inj ee hl
  subst g1 g2
  rw [zHv l2 e2 e4]
  congr 1
  obtain ⟨i, rfl, ei⟩ := zBF e1
  obtain ⟨j, rfl, ej⟩ := zBF e3
  rw [ei] at ej
  cases ej
  rfl
theorem zFb : ∀ {xs : List D} {a : List Int}, zBf xs = some a -> PyData.canLayAll0 xs = true
 | [], _, _ => rfl
 | x :: xs, a, f => by
  obtain ⟨a1, e1, f⟩ := bnd f
  obtain ⟨a2, e2, f⟩ := bnd f
  have h2 := zFb e2
  obtain ⟨i, rfl, _⟩ := zBF e1
  exact h2
theorem zCo {d0 : List D} {d : D} {k : List Int} (h : rowK d0 d = some k) : ∃ x xs, d = .tuple (x :: xs) /\ zA2 d0 (x :: xs) = true /\ zBf (x :: xs) = some k := by
 cases d with
 | tuple ds =>
  cases ds with
  | nil => cases h
  | cons x xs =>
   have h' : (if zA2 d0 (x :: xs) = true then zBf (x :: xs) else none) = some k := h
   by_cases c : zA2 d0 (x :: xs) = true
   ·rw [if_pos c] at h'; exact ⟨x, xs, rfl, c, h'⟩
   ·rw [if_neg c] at h'; cases h'
 | _ => cases h
theorem zCn {d0 : List D} {d e : D} {k : List Int} (h1 : rowK d0 d = some k) (h2 : rowK d0 e = some k) : d = e := by
 obtain ⟨x, xs, rfl, l1, f1⟩ := zCo h1
 obtain ⟨y, ys, rfl, l2, f2⟩ := zCo h2
 rw [zHv (zEg l1 l2) f1 f2]
theorem zF7 {d0 : List D} : ∀ {ds : List D} {l : List KD}, zAT d0 ds = some l -> l.map (·.2) = ds /\ ∀ p ∈ l, rowK d0 p.2 = some p.1
 | [], _, h => by cases h; exact ⟨rfl, fun p hp => nomatch hp⟩
 | d :: ds, _, h => by
  obtain ⟨k, e1, h⟩ := bnd h
  obtain ⟨r, e2, h⟩ := bnd h
  cases h
  obtain ⟨h1, h2⟩ := zF7 e2
  refine ⟨by rw [Qo, h1], fun p hp => ?_⟩
  rcases Qk.mp hp with e | e
  ·rw [e]; exact e1
  ·exact h2 p e
abbrev Tr := KD × V × Value
section
variable {X : Cx} {pins : List (Addr × Obj)} {σ : L2.St} {H : Hp} {s : Shared} {F : Addr -> Prop}
theorem zJG {K : PySem.W.Frag} : ∀ {l : List KD} {vs : List V} {us : List Value}, Reps K F H (l.map (·.2)) vs -> L2.Vals vs us -> ∃ T : List Tr, T.map (·.1) = l /\ T.map (·.2.1) = vs /\ T.map (·.2.2) = us /\ ∀ t ∈ T, Rep K F H t.1.2 t.2.1 /\ L2.RelV t.2.1 t.2.2
 | [], _, _, r, v => by cases r; cases v; exact ⟨[], rfl, rfl, rfl, fun t ht => nomatch ht⟩
 | p :: l, _, _, r, v => by
  cases r with
  | cons r1 r2 => cases v with
   | cons v1 v2 =>
    obtain ⟨T, h1, h2, h3, h4⟩ := zJG (l := l) r2 v2
    refine ⟨(p, _, _) :: T, by rw [Qo, h1], by rw [Qo, h2], by rw [Qo, h3], fun t ht => ?_⟩
    rcases Qk.mp ht with e | e
    ·rw [e]; exact ⟨r1, v1⟩
    ·exact h4 t e
theorem zJH {K : PySem.W.Frag} : ∀ {T : List Tr}, (∀ t ∈ T, Rep K F H t.1.2 t.2.1 /\ L2.RelV t.2.1 t.2.2) -> Reps K F H (T.map (·.1.2)) (T.map (·.2.1)) /\ L2.Vals (T.map (·.2.1)) (T.map (·.2.2))
 | [], _ => ⟨.nil, .nil⟩
 | t :: T, h => by
  obtain ⟨h1, h2⟩ := h t Qf
  obtain ⟨g1, g2⟩ := zJH fun u hu => h u (Qe _ hu)
  exact ⟨.cons h1 g1, .cons h2 g2⟩
theorem zEI : ∀ {T : List Tr} {v : Value} {k : List Int}, (T.map fun t => (t.2.2, t.1.1)).lookup v = some k -> ∃ t ∈ T, t.2.2 = v /\ t.1.1 = k
 | [], _, _, h => by cases h
 | t :: T, v, k, h => by
  rw [Qo, QQ] at h
  cases e : v == t.2.2 with
  | true => rw [e] at h; cases h; exact ⟨t, Qf, (Yj e).symm, rfl⟩
  | false =>
   rw [e] at h
   obtain ⟨u, hu, h1, h2⟩ := zEI h
   exact ⟨u, Qe _ hu, h1, h2⟩
theorem zJE : ∀ {T : List Tr} {t : Tr}, t ∈ T -> ∃ k, (T.map fun t => (t.2.2, t.1.1)).lookup t.2.2 = some k := by
 intro T
 induction T with
 | nil => intro t h; cases h
 | cons u T ih =>
  intro t h
  rw [Qo, QQ]
  cases e : t.2.2 == u.2.2 with
  | true => exact ⟨_, rfl⟩
  | false =>
   rcases Qk.mp h with z | z
   ·rw [z, beq_self_eq_true] at e; cases e
   ·exact ih z
theorem zJx {d0 : List D} {its : List Value} {ds : List D} {vs : List V} {l : List KD} {Q : VK} (hu : X.A.units + 66 < cLine) (I : L2.Inv X pins σ H s) (rv : L2.Vals vs its) (r : Reps X.K F H ds vs) (hk : zAT d0 ds = some l) (h64 : ds.length < 64)
  (k : ∀ p vs', H p = none -> Reps X.K F H ((zAQ l).map (·.2)) vs' -> vs'.length <= 1000 -> Q (.ref p) (upd H p (.lst vs'))) : wpAny (model X.prog X.w) X.A.in1 (newList its >>= fun l => holding [l] (call (.builtin "list.sort") [l] []) >>= fun _ => ret l) (fun fin s' => ∃ v, fin = .done (.ret v) /\ EP X pins σ Q v s') X.xe s := by
 obtain ⟨em, hrow⟩ := zF7 hk
 obtain ⟨T, t1, t2, t3, t4⟩ := zJG (K := X.K) (F := F) (H := H) (l := l) (by rw [em]; exact r) rv
 have rowT : ∀ t ∈ T, rowK d0 t.1.2 = some t.1.1 := fun t ht => hrow t.1 (by rw [<- t1]; exact List.mem_map_of_mem ht)
 have l64 : its.length < 64 := by rw [<- rv.length, <- r.length]; exact h64
 have all : KeysOf (keyT (T.map fun t => (t.2.2, t.1.1))) (pairsOf its) := fun p hp => by
  rw [pairsOf_toList] at hp
  have : p.1 ∈ its := (List.of_mem_zip hp).1
  rw [<- t3] at this
  obtain ⟨t, ht, e⟩ := QJ.mp this
  rw [<- e]
  exact zJE ht
 have rd : ∀ t ∈ T, ∀ h' : Heap, (∀ b o, s.heap.get? b = some o -> h'.get? b = some o) -> ∃ as, Reads h' t.2.2 t.1.2 as := fun t ht h' hk' => by
  obtain ⟨y, ys, y1, _, y2⟩ := zCo (rowT t ht)
  obtain ⟨as, z⟩ := (t4 t ht).1.reads I (by rw [y1]; exact zFb y2) (t4 t ht).2
  exact ⟨as, Reads.keeps hk' z⟩
 have same : ∀ t ∈ T, ∀ u ∈ T, t.2.2 = u.2.2 -> t.1.1 = u.1.1 := fun t ht u hu' e => by
  obtain ⟨as, z1⟩ := rd t ht s.heap fun _ _ q => q
  obtain ⟨bs, z2⟩ := rd u hu' s.heap fun _ _ q => q
  obtain ⟨x, xs, e1, _, f1⟩ := zCo (rowT t ht)
  rw [e] at z1
  have e2 : t.1.2 = u.1.2 := Reads.unique t.1.2 u.1.2 u.2.2 as bs (by rw [e1]; exact zFb f1) z1 z2
  have h1 := rowT t ht
  have h2 := rowT u hu'
  rw [e2, h2] at h1
  exact (QG h1).symm
 refine Qa (wpAny_newList ?_ (hsz := ?_))
 rotate_left
 ·exact zAR (by lia)
 show wpAny _ _ _ _ _ { s with heap := s.heap.push (seqObj "list" its.toArray 0) }
 have hL : (s.heap.push (seqObj "list" its.toArray 0)).get? s.heap.objs.size = some (seqObj "list" its.toArray 0) := Qt _ rfl
 have kp : ∀ h' : Heap, (∀ b o, b ≠ s.heap.objs.size -> (s.heap.push (seqObj "list" its.toArray 0)).get? b = some o -> h'.get? b = some o) -> ∀ b o, s.heap.get? b = some o -> h'.get? b = some o := fun h' hk' b o e =>
  hk' b o (Qy (Qm e)) (Qc _ e)
 refine Qa (Q8 (Yh slot_list_sort ⟨_, hL, rfl⟩ entry_list_sort (zOg (κ := keyT (T.map fun t => (t.2.2, t.1.1))) (kd := tuples' (isInt (d0.headD .none))) hL all l64 (fun h' hk' h2 => ?_) (fun h' hk' => ?_) fun z' p1 p2 => ⟨_, rfl, Qb ⟨_, rfl, ?_⟩⟩) (args_list_sort _)))
 ·-- the kind of the keys
  refine zL5 (s := { s with heap := h' }) (d := d0.headD .none) rfl (fun v hv => ?_) (fun e => by rw [e] at h2; simp at h2)
  rw [<- t3] at hv
  obtain ⟨t, ht, e⟩ := QJ.mp hv
  obtain ⟨x, xs, e1, l1, f1⟩ := zCo (rowT t ht)
  obtain ⟨as, z⟩ := rd t ht h' (kp h' hk')
  rw [e1] at z
  refine ⟨x, xs, as, by rw [<- e]; exact z, ?_⟩
  cases d0 with
  | nil => cases l1
  | cons y ys => exact (QE.mp l1).1
 ·-- what a comparison answers
  intro x y ka kb E' Q' h1 h2 hQ'
  obtain ⟨t, ht, e1, g1⟩ := zEI h1
  obtain ⟨u, hu', e2, g2⟩ := zEI h2
  obtain ⟨x1, xs1, e3, l1, f1⟩ := zCo (rowT t ht)
  obtain ⟨y1, ys1, e4, l2, f2⟩ := zCo (rowT u hu')
  obtain ⟨as, z1⟩ := rd t ht h' (kp h' hk')
  obtain ⟨bs, z2⟩ := rd u hu' h' (kp h' hk')
  rw [e3, e1] at z1
  rw [e4, e2] at z2
  rw [g1] at f1
  rw [g2] at f2
  cases z1 with
  | @tuple ax ox us n _ _ q1 q2 q3 q4 => cases z2 with
   | @tuple ay oy ws m _ _ w1 w2 w3 w4 =>
    have ll : us.size = ws.size := by
     have a1 := ReadsAll.length _ _ _ q4
     have a2 := ReadsAll.length _ _ _ w4
     have a3 : ∀ (p q : List D), zA2 p q = true -> p.length = q.length := by
      intro p
      induction p with
      | nil => intro q hq'; cases q with
       | nil => rfl
       | cons _ _ => cases hq'
      | cons p0 p ih => intro q hq'; cases q with
       | nil => cases hq'
       | cons q0 q => simp [ih q (QE.mp hq').2]
     have a4 := a3 _ _ (zEg l1 l2)
     rw [Qr] at a1 a2
     lia
    have ef : decide (us.size < ws.size) = false := by rw [ll]; simp
    refine PySem.W.kat_lt (s := { s with heap := h' }) q1 q3 w1 w3 ?_
    rw [ef]
    refine zJd (s := { s with heap := h' }) (show X.A.in1.in1.units + 64 < cLine by show X.A.units + 1 + 1 + 64 < cLine; lia) 0 (zEg l1 l2) f1 f2 q4 w4 (fun hb _ z r' ez => ?_) (fun e => ?_) fun _ => hQ'
    ·cases ez
     cases d0 with
     | nil => cases l1
     | cons y0 ys0 =>
      have l3 := (QE.mp l1).1
      cases y0 with
      | int n => cases x1 with
       | int m => exact ⟨m, rfl⟩
       | _ => cases l3
      | _ => cases hb
    ·have e5 : HT.lexLt ka kb = false := by rw [e]; exact zCL _
     have : (keyT (T.map fun t => (t.2.2, t.1.1))).blt ka kb = false := e5
     rw [this] at hQ'
     exact hQ'
 ·-- the list behind
  have pm : (((arrOf z').map (·.2)).toList).Perm its := by
   have h1 := Array.perm_iff_toList_perm.mp p1
   have h2 := h1.map (·.2)
   rw [pairsOf_toList] at h2
   rw [Array.toList_map]
   have h3 : (its.zip its).map (·.2) = its := by
    rw [List.map_snd_zip]
    exact Qh _
   rw [h3] at h2
   exact h2
  obtain ⟨T', q1, q2⟩ := zNf pm.symm T t3
  have memT : ∀ t ∈ T', t ∈ T := fun t ht => q1.mem_iff.mp ht
  obtain ⟨g1, g2⟩ := zJH (K := X.K) (F := F) (H := H) (T := T') fun t ht => t4 t (memT t ht)
  have lT : T'.length = its.length := by rw [q1.length_eq, <- t3, Qj]
  have ord : (T'.map (·.1)).Pairwise Le := by
   rw [Q5, List.pairwise_iff_getElem]
   intro i j hi hj hij
   have sz' : (arrOf z').size = T'.length := by
    rw [p1.size_eq, Js, lT]
   have key : ∀ m (hm : m < T'.length), KK (keyT (T.map fun t => (t.2.2, t.1.1))) (arrOf z') m = T'[m].1.1 := fun m hm => by
    have hm' : m < (arrOf z').size := by rw [sz']; exact hm
    have e1 : (arrOf z')[m]? = some (arrOf z')[m] := getElem?_pos _ m hm'
    have e2 : (arrOf z')[m] ∈ (pairsOf its).toList := (Array.perm_iff_toList_perm.mp p1).mem_iff.mp (by simp)
    rw [pairsOf_toList] at e2
    have e3 : (arrOf z')[m].1 = (arrOf z')[m].2 := by
     obtain ⟨n, hn, en⟩ := List.getElem_of_mem e2
     rw [List.getElem_zip] at en
     rw [<- en]
    have e4 : (arrOf z')[m].2 = T'[m].2.2 := by
     have := congrArg (fun (l : List Value) => l[m]?) q2
     simp only [QP, Array.toList_map, QD, e1] at this
     rw [Qg hm] at this
     exact (QG this).symm
    unfold KK
    rw [e1]
    show ((keyT (T.map fun t => (t.2.2, t.1.1))).keyOf (arrOf z')[m].1).getD [] = _
    rw [e3, e4]
    obtain ⟨kx, hkx⟩ := zJE (memT T'[m] (YF hm))
    obtain ⟨t, ht, e5, e6⟩ := zEI hkx
    show ((T.map fun t => (t.2.2, t.1.1)).lookup T'[m].2.2).getD [] = _
    rw [hkx]
    show kx = _
    rw [<- e6]
    exact same t ht _ (memT _ (YF hm)) e5
   have := p2 i j (YA hij) (by rw [Js, <- lT]; exact hj)
   rw [key i hi, key j hj] at this
   exact this
  have uni : T'.map (·.1) = zAQ l := by
   refine zGh (((q1.map (·.1)).trans (.of_eq t1)).trans (zCY l).symm) ord (zDI l) fun p hp q hq' e => ?_
   obtain ⟨t, ht, rfl⟩ := QJ.mp hp
   obtain ⟨u, hu', rfl⟩ := QJ.mp hq'
   have h1 := rowT t (memT t ht)
   have h2 := rowT u (memT u hu')
   rw [e] at h1
   exact Jk e (zCn h1 h2)
  have eD : (zAQ l).map (·.2) = T'.map (·.1.2) := by rw [<- uni, Yg]; rfl
  have fresh : H s.heap.objs.size = none := I.hok.fresh (Qh _)
  obtain ⟨ep, hat⟩ := sortedHeap_at (out := (arrOf z').map (·.2)) hL
  have old : ∀ b o, s.heap.get? b = some o -> (sortedHeap (s.heap.push (seqObj "list" its.toArray 0)) s.heap.objs.size its ((arrOf z').map (·.2))).get? b = some o := fun b o e => by
   have lt := Qm e
   rw [sortedHeap_old (Qy lt) (by rw [size_push']; exact Nat.lt_succ_of_lt lt)]
   exact Qc _ e
  have lv : (T'.map (·.2.1)).length <= 1000 := by rw [Qj, lT]; lia
  refine ⟨.ref s.heap.objs.size, _, I.laid (t' := s.toks) (o := .lst (T'.map (·.2.1))) old (Qh _) ?_, rfl, k _ _ fresh (by rw [eD]; exact g1) lv⟩
  refine ⟨zAR lv, T'.map (·.2.2), ep, g2, ?_⟩
  rw [hat, q2]
theorem zDJ {d0 : List D} {a : Addr} {ds : List D} {vs : List V} {l : List KD} {Q : VK} (hu : X.A.units + 66 < cLine) (I : L2.Inv X pins σ H s) (hq : SqL X.K H a vs) (r : Reps X.K F H ds vs) (hk : zAT d0 ds = some l) (h64 : ds.length < 64)
  (k : ∀ p vs', H p = none -> Reps X.K F H ((zAQ l).map (·.2)) vs' -> vs'.length <= 1000 -> Q (.ref p) (upd H p (.lst vs'))) : wpAny (model X.prog X.w) X.A (call (.builtin "sorted") [.ref a]) (EP X pins σ Q) X.xe s := by
 obtain ⟨its, rv, pl, hz⟩ := I.list hq
 refine Calls.call_function_entry kind_sorted plain_sorted entry_sorted (args_sorted1 _) ?_
 unfold Builtin.«sorted»
 refine Qa (m := checkCount "sorted" 1 1 _) (Qb (Qa (collect_list pl.isList ?_ (hsz := ?_))))
 ·refine zJx hu (I.kept (h' := (s.heap.push (seqObj "list" #[] 0)).update s.heap.objs.size (Obj.mapSeq (· ++ its.toArray))) (t' := s.toks) fun b o e => ?_) rv r hk h64 k
  rw [Heap.get?_update_ne _ _ _ _ (Qy (Qm e))]
  exact Qc _ e
 ·rw [<- rv.length]; exact hz
end
end SD
namespace DL
open PySem PySem.Spec PyProof.Rows L2 SD
theorem zKv {X : Cx} (hu : X.A.units + 66 < cLine) : zAH X (.builtin "sorted") (rDA X.K zB5) := fun pins s σ H xs us Q I rx zz => by
 obtain ⟨F, ds, q, z, R, hq, k⟩ := zz
 unfold zB5 at hq
 split at hq
 ·cases hq
  cases R with
  | cons R1 R2 =>
   cases R2
   cases R1 with
   | @lst a vs _ h1 r1 =>
    obtain ⟨u, rfl, ru⟩ := zBU rx
    cases ru
    exact zDJ (d0 := []) (l := []) hu I h1.sq r1 rfl (by simp) fun p vs' hp r' _ => k _ _ _ (Ext.frozen hp) (Rep.newLst hp r')
 ·rename_i d0 ds'
  by_cases c : ds'.length < 63
  ·rw [if_pos c] at hq
   obtain ⟨l, e1, hq⟩ := bnd hq
   cases hq
   cases R with
   | cons R1 R2 =>
    cases R2
    cases R1 with
    | @lst a vs _ h1 r1 =>
     obtain ⟨u, rfl, ru⟩ := zBU rx
     cases ru
     exact zDJ (d0 := d0) hu I h1.sq r1 e1 (by simp; lia) fun p vs' hp r' _ => k _ _ _ (Ext.frozen hp) (Rep.newLst hp r')
  ·rw [if_neg c] at hq; cases hq
 ·cases hq
end DL
namespace ZL
open PySem PySem.Spec PyProof.Rows L2 DL
def Itz (K : PySem.W.Frag) (a b : Addr) : It :=
 ⟨fun i H => ∃ xs ys x y, SqL K H a xs /\ SqL K H b ys /\ xs[i]? = some x /\ ys[i]? = some y,
  fun i H v H' => ∃ p, H p = none /\ v = .ref p /\ ∃ x y, H' = upd H p (.tup [x, y]) /\ (∀ xs, SqL K H a xs -> xs[i]? = some x) /\ ∀ ys, SqL K H b ys -> ys[i]? = some y,
  fun i H => ∃ xs ys, SqL K H a xs /\ SqL K H b ys /\ (xs.length <= i ∨ ys.length <= i)⟩
theorem zJX {X : Cx} {pins : List (Addr × Obj)} {σ : L2.St} {H H' : Hp} {s : Shared} {ch : List Addr} {h' : Heap} {tk : Nat} (I : L2.Inv X pins σ H s) (hf : ∀ b ∈ ch, FpOk X pins H b) (k : ∀ b o, b ∉ ch -> s.heap.get? b = some o -> h'.get? b = some o)
  (hH : ∀ b o, s.heap.get? b = some o -> H' b = H b) (hS : ∀ b o, H b = some o -> H' b = some o) (hok : HOk X.prog X.w H' h') : L2.Inv X pins σ H' { s with heap := h', toks := tk } := by
 refine I.step (g' := s.gens) (d' := s.drawn) (ch := ch) (fun b hb => ?_) (fun b o _ _ hc e _ => k b o hc e) (fun b o _ _ hc e _ => ⟨o.slots, k b o hc e⟩) (fun b o _ e n => by rw [hH b o e]; exact n)
  (fun b o hc e => ⟨o, k b o hc e⟩) (fun b xs e => hS _ _ e) (fun b o u e => hS _ _ e) (fun b ps e => ⟨#[], by rw [hS _ _ e]; simp⟩) (fun m hm => ?_) hok I.bare
 ·obtain ⟨_, f1, _, f3, f4, f5⟩ := hf b hb
  exact ⟨f3, f1, f4, f5⟩
 ·obtain ⟨o, es, ep, ho, r⟩ := hm
  exact ⟨o, es, ep, k _ o (fun z => (hf _ z).2.1 rfl) ho, r⟩
theorem zON {P : Program} {w : World} {K : PySem.W.Frag} {elts : List Expr} {x1} {tpos : Pos} (a b z TI TO i1 i2 : Addr) (D : ZipApart z TI TO i1 i2 a b) :
  Turn P w K (.Tuple elts x1 tpos) (Itz K a b) [z, TI, TO, i1, i2] z (fun i h => IsZip h z TI TO .none /\ IsPair h TI (.ref i1) (.ref i2) /\ (∃ u v, IsPair h TO u v) /\ h.IsListIter i1 a i /\ h.IsListIter i2 b i) where
 mem := by simp
 obj := fun i h st c hc => by
  obtain ⟨h1, h2, ⟨u, v, h3⟩, ⟨o4, e4, _, d4⟩, ⟨o5, e5, _, d5⟩⟩ := st
  rcases Qk.mp hc with rfl | hc
  ·exact ⟨_, h1, fun v z => by have z' : Data.fields _ = Data.cell v := z; cases z'⟩
  rcases Qk.mp hc with rfl | hc
  ·exact ⟨_, h2, fun v z => by have z' : Data.seq _ _ = Data.cell v := z; cases z'⟩
  rcases Qk.mp hc with rfl | hc
  ·exact ⟨_, h3, fun v z => by have z' : Data.seq _ _ = Data.cell v := z; cases z'⟩
  rcases Qk.mp hc with rfl | hc
  ·exact ⟨o4, e4, fun v z => by rw [d4] at z; cases z⟩
  rcases Qk.mp hc with rfl | hc
  ·exact ⟨o5, e5, fun v z => by rw [d5] at z; cases z⟩
  cases hc
 keep := fun i h h' st k => by
  obtain ⟨h1, h2, ⟨u, v, h3⟩, h4, h5⟩ := st
  exact ⟨k z (by simp) _ h1, k TI (by simp) _ h2, ⟨u, v, k TO (by simp) _ h3⟩, h4.at fun o e => k i1 (by simp) o e, h5.at fun o e => k i2 (by simp) o e⟩
 item := by
  intro X hP hw hK hc i pins s σ H E I hf st hg
  subst hP hw hK
  obtain ⟨xs, ys, x, y, ha, hb, hx, hy⟩ := hg
  obtain ⟨h1, h2, ⟨u, v, h3⟩, h4, h5⟩ := st
  obtain ⟨its, rv, pl, _⟩ := I.list ha
  obtain ⟨jts, rw', pl2, _⟩ := I.list hb
  obtain ⟨xu, ex, rx⟩ := rv.get hx
  obtain ⟨yu, ey, ry⟩ := rw'.get hy
  refine wpAny_pyNext_zip_item D h1 h2 h3 h4 h5 pl.isList pl2.isList (x := xu) (y := yu) (by simpa using ex) (by simpa using ey) fun h' a1 a2 a3 a4 a5 a6 hk => ⟨_, rfl, ?_⟩
  refine wpAny_letOwnedTupleGo_zip (s := { s with heap := h' }) a1 fun h'' z1 sb => ?_
  have up : ∀ c o, c ≠ z -> h'.get? c = some o -> h''.get? c = some o := fun c o nc e => sb.extBut c o nc e
  have hn : H s.heap.objs.size = none := I.hok.fresh (Qh _)
  have old : ∀ c o, s.heap.get? c = some o -> c ≠ s.heap.objs.size := fun c o e => Qy (Qm e)
  have zT : s.heap.objs.size ≠ z := (old z _ h1).symm
  have kk : ∀ c o, c ∉ [z, TI, TO, i1, i2] -> s.heap.get? c = some o -> h''.get? c = some o := fun c o nc e =>
   up c o (fun q => nc (by simp [q])) (hk c o (fun q => nc (by simp [q])) (fun q => nc (by simp [q])) (fun q => nc (by simp [q])) (fun q => nc (by simp [q])) e)
  have nfp : ∀ c o, H c = some o -> c ∉ [z, TI, TO, i1, i2] := fun c o e hc' => by
   have := (hf c hc').1
   rw [this] at e; cases e
  have t2 : IsPair h'' TI (.ref i1) (.ref i2) := up _ _ D.TIz (hk _ _ D.TIz D.TITO D.TIi1 D.TIi2 h2)
  have t3 : IsPair h'' TO xu yu := up _ _ D.TOz a2
  have t4 : h''.IsListIter i1 a (i + 1) := a3.at fun o e => up _ o D.i1z e
  have t5 : h''.IsListIter i2 b (i + 1) := a4.at fun o e => up _ o D.i2z e
  have hok : HOk X.prog X.w (upd H s.heap.objs.size (.tup [x, y])) h'' := fun c o e => by
   by_cases hcT : c = s.heap.objs.size
   ·subst hcT
    rw [zAL] at e; cases e
    exact ⟨zAR (by simp), [xu, yu], .cons rx (.cons ry .nil), ⟨_, up _ _ zT a5, rfl, 0, rfl⟩⟩
   ·rw [zAm hcT] at e
    refine (I.hok c o e).stay (fun d v hd q => kk d v ?_ q) (fun d q => by rw [zAm (zBA q hn)]; exact q) fun d xs q => by rw [zAm (zBA q hn)]; exact q
    rcases hd with rfl | hd
    ·exact nfp _ _ e
    ·exact nfp _ _ hd
  refine ⟨.ref s.heap.objs.size, _, zJX (s := s) (h' := h'') (tk := s.toks) I hf kk (fun c o e => zAm (old c o e)) (fun c o e => by rw [zAm (zBA e hn)]; exact e) hok, rfl, ⟨_, hn, rfl, x, y, rfl, fun xs' h' => by rw [I.list_inj h' ha]; exact hx, fun ys' h' => by rw [I.list_inj h' hb]; exact hy⟩, ⟨z1, t2, ⟨_, _, t3⟩, t4, t5⟩, fun c hc' => ?_⟩
  ·have e := (hf c hc').1
   have nT : c ≠ s.heap.objs.size := by
    rcases Qk.mp hc' with rfl | hc'
    ·exact old _ _ h1
    rcases Qk.mp hc' with rfl | hc'
    ·exact old _ _ h2
    rcases Qk.mp hc' with rfl | hc'
    ·exact old _ _ h3
    rcases Qk.mp hc' with rfl | hc'
    ·obtain ⟨_, e', _⟩ := h4; exact old _ _ e'
    rcases Qk.mp hc' with rfl | hc'
    ·obtain ⟨_, e', _⟩ := h5; exact old _ _ e'
    cases hc'
   rw [zAm nT]; exact e
 done := by
  intro X hP hw hK hc i pins s σ H E I hf st hg
  subst hP hw hK
  obtain ⟨xs, ys, ha, hb, hend⟩ := hg
  obtain ⟨h1, h2, ⟨u, v, h3⟩, h4, h5⟩ := st
  obtain ⟨its, rv, pl, _⟩ := I.list ha
  obtain ⟨jts, rw', pl2, _⟩ := I.list hb
  have l1 := rv.length
  have l2 := rw'.length
  refine wpAny_pyNext_zip_end (I.ok.hd hc) D h1 h2 h3 h4 h5 pl.isList pl2.isList (by
   rcases hend with hend | hend
   ·left; simp; lia
   ·right; simp; lia) fun h' hk => ⟨rfl, ?_⟩
  have kk : ∀ c o, c ∉ [z, TI, TO, i1, i2] -> s.heap.get? c = some o -> h'.get? c = some o := fun c o nc e =>
   hk c o (fun q => nc (by simp [q])) (fun q => nc (by simp [q])) (fun q => nc (by simp [q])) (fun q => nc (by simp [q])) e
  have nfp : ∀ c o, H c = some o -> c ∉ [z, TI, TO, i1, i2] := fun c o e hc' => by
   have := (hf c hc').1
   rw [this] at e; cases e
  refine zJX (s := s) (h' := h') (tk := s.toks) I hf kk (fun _ _ _ => rfl) (fun _ _ e => e) fun c o e => ?_
  refine (I.hok c o e).stay (fun d v hd q => kk d v ?_ q) (fun d q => q) fun d xs q => q
  rcases hd with rfl | hd
  ·exact nfp _ _ e
  ·exact nfp _ _ hd
 self := fun _ _ _ _ _ st h => wpAny_pyIter_zip st.1 h
theorem nne {x y : Nat} (h : x ≠ y) : @Ne Addr x y := h
theorem zOX {n a b : Nat} (la : a < n) (lb : b < n) : ZipApart (n + 4) (n + 2) (n + 3) n (n + 1) a b :=
 ⟨nne (by lia), nne (by lia), nne (by lia), nne (by lia), nne (by lia), nne (by lia), nne (by lia), nne (by lia), nne (by lia), nne (by lia), nne (by lia), nne (by lia), nne (by lia), nne (by lia), nne (by lia), nne (by lia), nne (by lia), nne (by lia)⟩
def iZip (K : PySem.W.Frag) (ta : TA) : TI := fun σ H R => ta σ H fun vs H1 => ∃ a b, vs = [.ref a, .ref b] /\ (∃ xs, SqL K H1 a xs) /\ (∃ ys, SqL K H1 b ys) /\ R (Itz K a b) H1
theorem zNl {X : Cx} {elts : List Expr} {x1} {tpos : Pos} {a b : Expr} {ta : TA} {p pos : Pos} (hg : Gl X "zip") (hm : X.mg "zip" = none) (ha : PA X [a, b] ta) (hs : starEach [a, b] X.env = [(false, eval a X.env), (false, eval b X.env)] := by rfl) (hs2 : starEach [b] X.env = [(false, eval b X.env)] := by rfl) :
  PI X (.Tuple elts x1 tpos) (.Call (.Name "zip" p) [a, b] [] pos) (iZip X.K ta) := by
 intro pins s σ H R I h
 refine Call_ (zCc I hg hm boot_zip (YR (thn (ha pos pins s σ H _ I h) fun us s1 ⟨vs, H1, I1, r1, q1⟩ => ?_) (by rw [hs, hs2]) (by rw [hs2]; rfl)))
 obtain ⟨a', b', e, ⟨xs, hx⟩, ⟨ys, hy⟩, q⟩ := q1
 subst e
 cases r1 with
 | cons r rr =>
  cases rr with
  | cons r' rr =>
   cases rr
   cases r
   cases r'
   obtain ⟨its, rv, pl, _⟩ := I1.list hx
   obtain ⟨jts, rw', pl2, _⟩ := I1.list hy
   refine call_zip_2 pl.isList pl2.isList fun h' a1 a2 a3 a4 a5 a6 hk => ?_
   have I2 : L2.Inv X pins σ H1 { s1 with heap := h' } := I1.kept (t' := s1.toks) hk
   refine wpAny_pyIter_zip (s := { s1 with heap := h' }) a1 ?_
   have la : a' < s1.heap.objs.size := by obtain ⟨_, e, _⟩ := pl.isList; exact Qm e
   have lb : b' < s1.heap.objs.size := by obtain ⟨_, e, _⟩ := pl2.isList; exact Qm e
   refine ⟨_, [s1.heap.objs.size + 4, s1.heap.objs.size + 2, s1.heap.objs.size + 3, s1.heap.objs.size, s1.heap.objs.size + 1], _, _, H1, rfl, I2, zON a' b' (s1.heap.objs.size + 4) (s1.heap.objs.size + 2) (s1.heap.objs.size + 3) s1.heap.objs.size (s1.heap.objs.size + 1) (zOX la lb), ⟨a1, a2, ⟨_, _, a3⟩, a4, a5⟩, fun c hc => ?_, q⟩
   have lc : s1.heap.objs.size <= c := by
    rcases Qk.mp hc with rfl | hc
    ·exact Yn _ _
    rcases Qk.mp hc with rfl | hc
    ·exact Yn _ _
    rcases Qk.mp hc with rfl | hc
    ·exact Yn _ _
    rcases Qk.mp hc with rfl | hc
    ·exact Qh _
    rcases Qk.mp hc with rfl | hc
    ·exact Yn _ _
    cases hc
   exact I1.fpOk lc (I1.hok.fresh lc)
end ZL
namespace DL
open PySem PySem.Spec PyProof.Rows L2 ZL
def zipD : List D -> Option (List D)
 | [.list xs, .list ys] => some (List.zipWith (fun x y => .tuple [x, y]) xs ys)
 | _ => none
theorem zLO {K : PySem.W.Frag} {F : Addr -> Prop} {H : Hp} {a b : Addr} {vs us : List V} {ds es : List D} (h1 : FzL K F H a vs) (r1 : Reps K F H ds vs) (h2 : FzL K F H b us) (r2 : Reps K F H es us) : ItD K F H (List.zipWith (fun x y => .tuple [x, y]) ds es) (Itz K a b) := fun F2 H2 T z i => by
 have g1 := h1.stay T
 have g2 := h2.stay T
 have s1 := r1.stay T
 have s2 := r2.stay T
 refine ⟨fun d hd => ?_, fun hl => ⟨vs, us, g1.sq, g2.sq, ?_⟩⟩
 ·rw [List.getElem?_zipWith] at hd
  cases e1 : ds[i]? with
  | none => rw [e1] at hd; cases hd
  | some x =>
   cases e2 : es[i]? with
   | none => rw [e1, e2] at hd; cases hd
   | some y =>
    rw [e1, e2] at hd
    cases hd
    obtain ⟨v, e3, R1⟩ := s1.get e1
    obtain ⟨u, e4, R2⟩ := s2.get e2
    refine ⟨⟨vs, us, v, u, g1.sq, g2.sq, e3, e4⟩, fun w H3 yy => ?_⟩
    obtain ⟨p, hp, rfl, x', y', rfl, q1, q2⟩ := yy
    have q3 := q1 vs g1.sq
    have q4 := q2 us g2.sq
    rw [e3] at q3; cases q3
    rw [e4] at q4; cases q4
    exact ⟨F2, Ext.fresh hp, Rep.newTup hp (.cons R1 (.cons R2 .nil))⟩
 ·rw [List.length_zipWith] at hl
  rw [<- s1.length, <- s2.length]
  lia
theorem zKY {X : Cx} {elts : List Expr} {x1} {tpos : Pos} {a b : Expr} {gr : Rho -> Option (List D)} {p pos : Pos} (hg : Gl X "zip") (hm : X.mg "zip" = none) (ha : DA X [a, b] gr) (hs : starEach [a, b] X.env = [(false, eval a X.env), (false, eval b X.env)] := by rfl) (hs2 : starEach [b] X.env = [(false, eval b X.env)] := by rfl) :
  DI X (.Tuple elts x1 tpos) (.Call (.Name "zip" p) [a, b] [] pos) (fun ρ => (gr ρ).bind zipD) :=
 zIZ (zNl hg hm ha hs hs2) fun σ H R zz => by
  obtain ⟨F, H₀, ρ, ds, S, q, k⟩ := zz
  obtain ⟨xs, e1, q⟩ := bnd q
  unfold zipD at q
  split at q
  ·cases q
   refine ⟨F, H₀, ρ, _, S, e1, fun F1 H1 vs E1 R1 => ?_⟩
   cases R1 with
   | cons r rs =>
    cases r with
    | @lst a' vs' _ h1 r1 =>
     cases rs with
     | cons r rs =>
      cases r with
      | @lst b' us' _ h2 r2 =>
       cases rs
       exact ⟨a', b', rfl, ⟨_, h1.sq⟩, ⟨_, h2.sq⟩, k F1 H1 _ E1 (zLO h1 r1 h2 r2)⟩
  ·cases q
end DL
namespace DL
open PySem PySem.Spec PySem.SeqAt PyProof.Rows L2 CL SD ZL
def cutD (xs : List D) (lo hi : Option Int) : List D := (xs.drop (HT.sIx xs.length 0 lo)).take (HT.sIx xs.length xs.length hi - HT.sIx xs.length 0 lo)
def tDO (K : PySem.W.Frag) (g : Rho -> Option (Option Int)) : TO := fun σ H Q => TDx K σ H g fun F o => ∀ F' H', Ext F F' H H' -> Q o H'
def DO (X : Cx) (e : Option Expr) (g : Rho -> Option (Option Int)) : Prop := PO X e (tDO X.K g)
def oNo : Rho -> Option (Option Int) := fun _ => some none
def oE (g : Rho -> Option D) : Rho -> Option (Option Int) := fun ρ => (g ρ).bind fun d => (asI d).bind fun i => some (some i)
section
variable {X : Cx} {a b e : Expr} {ga : Rho -> Option D} {pos p p2 : Pos} {lo hi : Option Expr} {gl gh : Rho -> Option (Option Int)}
theorem zI3 {o : Option Expr} {t t' : TO} (h : PO X o t) (m : ∀ σ H Q, t' σ H Q -> t σ H Q) : PO X o t' := fun pins s σ H Q I q => h pins s σ H Q I (m σ H Q q)
theorem zG9 : DO X none oNo := zI3 zNr fun σ H Q zz => by
 obtain ⟨F, H₀, ρ, o, S, q, k⟩ := zz
 cases q
 exact k F H (Ext.refl F H)
theorem zHa (h : DE X e ga) : DO X (some e) (oE ga) := zI3 (zNs h) fun σ H Q zz => by
 obtain ⟨F, H₀, ρ, o, S, q, k⟩ := zz
 obtain ⟨d, e1, q⟩ := bnd q
 obtain ⟨i, e2, q⟩ := bnd q
 cases q
 exact ⟨F, H₀, ρ, d, S, e1, fun F1 H1 v E1 R1 => ⟨i, zNV R1 e2, k F1 H1 E1⟩⟩
theorem Reps.cut {K : PySem.W.Frag} {F : Addr -> Prop} {H : Hp} {ds : List D} {vs : List V} (r : Reps K F H ds vs) (lo hi : Option Int) : Reps K F H (cutD ds lo hi) (cutV vs lo hi) := by
 unfold cutD cutV
 rw [r.length]
 exact (r.drop _).take _
def tyD : D -> String
 | .none => "NoneType"
 | .bool _ => "bool"
 | .int _ => "int"
 | .str _ => "str"
 | .list _ => "list"
 | .tuple _ => "tuple"
 | .dict _ => "dict"
def isD (T : String) (d : D) : Bool := tyD d == T || (T == "int" && tyD d == "bool")
def zFC : D -> Bool
 | .dict _ => true
 | _ => false
def eIs (T : String) (ga : Rho -> Option D) : Rho -> Option D := fun ρ => (ga ρ).bind fun d => if zFC d = true then none else some (.bool (isD T d))
theorem zL6 (K : PySem.W.Frag) (T : String) (hT : T = "list" ∨ T = "tuple" ∨ T = "int" ∨ T = "bool" ∨ T = "str" ∨ T = "dict") (d : D) : PySem.W.kitOne K (.type (tyD d)) (.type T) = some (isD T d) := by
 rcases hT with rfl | rfl | rfl | rfl | rfl | rfl <;> cases d <;> (first | rfl | (unfold PySem.W.kitOne; with_unfolding_all rfl) | decide +kernel)
theorem zKh {T : String} (hT : T = "list" ∨ T = "tuple" ∨ T = "int" ∨ T = "bool" ∨ T = "str" ∨ T = "dict") : zAH X (.builtin "isinstance") (fun xs H Q => ∃ (F : Addr -> Prop) (d : D) (x : V), Rep X.K F H d x /\ zFC d = false /\ xs = [x, .ty T] /\ Q (.bl (isD T d)) H) := by
 intro pins s σ H xs us Q I rv h
 obtain ⟨F, d, x, R, nd, rfl, q⟩ := h
 obtain ⟨u, u2, rfl, ru, r2⟩ := zGo rv
 cases (show u2 = Value.type T from r2)
 have ok := zL6 X.K T hT d
 have fin : ∀ tk, EP X pins σ Q (.bool (isD T d)) { s with toks := tk } := fun tk => ⟨.bl _, H, I.tok tk, rfl, q⟩
 cases R with
 | non => cases (show u = Value.none from ru); exact PySem.W.kia_one PySem.W.kitx_none I.kIn True.intro ok (fun z => nomatch z) fin
 | dct _ _ _ _ _ => cases nd
 | exn _ _ _ => cases nd
 | bl b => cases (show u = Value.bool b from ru); exact PySem.W.kia_one PySem.W.kitx_bool I.kIn True.intro ok (fun z => nomatch z) fin
 | int i => obtain ⟨t, e⟩ := (show ∃ t, u = Value.int i t from ru); cases e; exact PySem.W.kia_one PySem.W.kitx_int I.kIn True.intro ok (fun z => nomatch z) fin
 | str y => obtain ⟨t, e⟩ := (show ∃ t, u = Value.str y t from ru); cases e; exact PySem.W.kia_one PySem.W.kitx_str I.kIn True.intro ok (fun z => nomatch z) fin
 | @tup a vs ds h1 r1 =>
  cases (show u = Value.ref a from ru)
  obtain ⟨its, _, ⟨o, g1, g2, _⟩, _⟩ := I.tuple h1
  exact PySem.W.kia_one PySem.W.kitx_tuple I.kIn ⟨o, g1, g2⟩ ok (fun z => nomatch z) fin
 | @lst a vs ds h1 r1 =>
  cases (show u = Value.ref a from ru)
  obtain ⟨its, _, ⟨o, n, g1, g2, _⟩, _⟩ := I.list h1.sq
  exact PySem.W.kia_one PySem.W.kitx_list I.kIn ⟨o, g1, g2⟩ ok (fun z => nomatch z) fin
theorem zKd : bootBuiltins "isinstance" = some (.builtin "isinstance") := by decide +kernel
theorem zEY {T : String} {Tn : Str} {p' : Pos} (hT : T = "list" ∨ T = "tuple" ∨ T = "int" ∨ T = "bool" ∨ T = "str" ∨ T = "dict") (hg : Gl X "isinstance") (hm : X.mg "isinstance" = none) (hgT : Gl X Tn) (hmT : X.mg Tn = none) (hvT : bootBuiltins Tn = some (.type T)) (hn : Tn ≠ "__name__") (ha : DE X e ga)
  (hs : starEach [e, .Name Tn p'] X.env = (false, eval e X.env) :: starEach [.Name Tn p'] X.env := by rfl) (hs2 : starEach [.Name Tn p'] X.env = (false, eval (.Name Tn p') X.env) :: starEach [] X.env := by rfl) (hdb : (Tn == ("__debug__" : Str)) = false := by decide)
  (hpl : (backTo pos (starEach [.Name Tn p'] X.env)).any (·.1) = false := by rfl) : DE X (.Call (.Name "isinstance" p) [e, .Name Tn p'] [] pos) (eIs T ga) :=
 zAK (zIR (zKh hT) hg hm zKd (zCj ha (zCj (zM0 (v := .ty T) hgT hmT hvT rfl hn hdb) zCR hs2) hs) (he := hs) (hpl := hpl)) fun σ H Q zz => by
  obtain ⟨F, H₀, ρ, d, S, q, k⟩ := zz
  obtain ⟨x, e1, q⟩ := bnd q
  by_cases c : zFC x = true
  ·rw [if_pos c] at q; cases q
  ·rw [if_neg c] at q
   cases q
   exact ⟨F, H₀, ρ, x, S, e1, fun F1 H1 v E1 R1 => ⟨F1, x, v, R1, by simpa using c, rfl, k F1 H1 _ E1 (.bl _)⟩⟩
end
def zGU (osc : Scope) (oN N' : List Str) (scope : Scope) (inner : List (Option Nat)) : Bool :=
 scope.kind == .function && scope.names.all (fun x => x.2 != .cell) && scope.names.all (fun x => x.2 != .local || scope.names.lookup x.1 == some .local) &&
 scope.names.all (fun x => x.2 != .free || (scope.names.lookup x.1 == some .free && (osc.names.lookup x.1 == some .cell || osc.names.lookup x.1 == some .free))) && inner.length == N'.length &&
 (List.range inner.length).all fun i => match inner[i]? with
  | some (some j) => match N'[i]? with
   | some x => oN[j]? == some x && scope.names.lookup x == some .free
   | none => false
  | _ => true
theorem zBd {X : Cx} {N' : List Str} {scope : Scope} {inner : List (Option Nat)} (osc : Scope) (oN : List Str) (h1 : X.env.scope = osc) (h2 : X.N = oN) (h : zGU osc oN N' scope inner = true) : zBW X N' scope inner := by
 unfold zGU at h
 simp only [QH] at h
 obtain ⟨⟨⟨⟨⟨a1, a2⟩, a3⟩, a4⟩, a5⟩, a6⟩ := h
 refine ⟨Yj a1, fun x hx e => ?_, fun x hx e => ?_, fun x hx e => ?_, Yj a5, fun i j e => ?_⟩
 ·have := QS.mp a2 x hx
  rw [e] at this; cases this
 ·have := QS.mp a3 x hx
  rw [e] at this
  rcases Bool.or_eq_true_iff.mp this with z | z
  ·cases z
  ·exact Yj z
 ·have := QS.mp a4 x hx
  rw [e] at this
  rcases Bool.or_eq_true_iff.mp this with z | z
  ·cases z
  ·obtain ⟨z1, z2⟩ := QE.mp z
   refine ⟨Yj z1, ?_⟩
   rw [h1]
   rcases Bool.or_eq_true_iff.mp z2 with z | z
   ·exact .inl (Yj z)
   ·exact .inr (Yj z)
 ·have hi : i < inner.length := (Qd.mp e).1
  have := QS.mp a6 i (QO.mpr hi)
  rw [e] at this
  dsimp only at this
  split at this
  ·rename_i x e2
   obtain ⟨z1, z2⟩ := QE.mp this
   exact ⟨x, e2, by rw [h2]; exact Yj z1, Yj z2⟩
  ·cases this
theorem u64 {k : Nat} {A : Around} (r : Room k A) : A.units + 64 < cLine := by have := r.un; lia
theorem u65 {k : Nat} {A : Around} (r : Room k A) : A.units + 65 < cLine := by have := r.un; lia
theorem u66 {k : Nat} {A : Around} (r : Room k A) : A.units + 66 < cLine := by have := r.un; lia
def zEG (K : PySem.W.Frag) (G : List D -> Option D) : Sp := fun vs H Q E => ∃ (a : Addr) (ns : List Int), vs = [.ref a] /\ SqL K H a (ns.map V.int) /\ ns.length <= 63 /\ ∀ H', Q (.bl true) H'
theorem zCK {K : PySem.W.Frag} {F : Addr -> Prop} {H : Hp} : ∀ ns : List Int, Reps K F H (ns.map PyData.int) (ns.map V.int)
 | [] => .nil
 | n :: ns => .cons (.int n) (zCK ns)
theorem law_D {P : Program} {w : World} {K : PySem.W.Frag} {mg : Str -> Option Value} {base : Heap} {CX : CXT} {k : Nat} {f : Addr} {fd : FuncData} {ps : List Str} {G : List D -> Option D} (F : FnOk P w K mg base CX k f fd ps (spD K 1 G))
  (h : ∀ ns : List Int, ns.length <= 63 -> G [.list (ns.map PyData.int)] = some (.bool true)) : FnOk P w K mg base CX k f fd ps (zEG K G) :=
 F.imp fun vs H Q E zz => by
  obtain ⟨a, ns, e, hq, hl, q⟩ := zz
  subst e
  refine ⟨fun b => H b ≠ none, [.list (ns.map PyData.int)], .bool true, rfl, fun _ z => z, .cons ?_ .nil, h ns hl, fun F' H' v E' R' => ?_⟩
  ·rcases hq with hq | hq
   ·refine .lst (.inl ⟨?_, hq⟩) (zCK ns)
    rcases hq with hq | ⟨o, hq⟩ <;> (rw [hq]; simp)
   ·exact .lst (.inr (.inr hq)) (zCK ns)
  ·cases R'
   exact q H'
theorem zAx {P : Program} {w : World} {K : PySem.W.Frag} {mg : Str -> Option Value} {base : Heap} {x qual : Str} {st : Stmt} {f : Addr} {fd : FuncData} {N ps : List Str} {k n m : Nat} {g : Rho -> Option Out} {G : List D -> Option D} (hG : G = fnD m g) (hn : ps.length = n) (hm : N.length = m) (F : Fun K x qual st f fd) (S : zAr N ps (zAj st))
  (hb : ∀ (cdv : Value) (A : Around) (outer : List Env) (s : Shared) (H : Hp) (E : XK), Room k (A.deeper (envOfC qual (zAj st) s.heap.objs.size f cdv)) ->
   DSs (cxOf CX0 P w K mg base N qual (zAj st) f cdv A outer s H E).nox (zAP st) g) : FnOk P w K mg base CX0 (k + 1) f fd ps (spD K n G) := by
 subst hn hm hG
 exact fn_D F S hb
end DL
namespace ST
open PySem PySem.SetTable
def fI (M i : Nat) : Nat := (i * 5 + 1) % (M + 1)
def itN (M : Nat) : Nat -> Nat -> Nat
 | 0, i => i
 | n + 1, i => itN M n (fI M i)
theorem zDr (M : Nat) : ∀ a b i, itN M (a + b) i = itN M b (itN M a i)
 | 0, b, i => by rw [Nat.zero_add]; rfl
 | a + 1, b, i => by rw [Nat.succ_add]; exact zDr M a b (fI M i)
def logs : Nat -> List Nat
 | 7 => [0, 1, 6, 7, 4, 5, 2, 3]
 | 15 => [0, 1, 6, 15, 12, 13, 2, 11, 8, 9, 14, 7, 4, 5, 10, 3]
 | 31 => [0, 1, 6, 15, 28, 13, 2, 27, 24, 25, 30, 7, 20, 5, 26, 19, 16, 17, 22, 31, 12, 29, 18, 11, 8, 9, 14, 23, 4, 21, 10, 3]
 | 63 => [0, 1, 6, 47, 28, 45, 2, 59, 56, 25, 62, 7, 20, 5, 58, 19, 48, 49, 54, 31, 12, 29, 50, 43, 40, 9, 46, 55, 4, 53, 42, 3, 32, 33, 38, 15, 60, 13, 34, 27, 24, 57, 30, 39, 52, 37, 26, 51, 16, 17, 22, 63, 44, 61, 18, 11, 8, 41, 14, 23, 36, 21, 10, 35]
 | 255 => [0, 1, 70, 239, 156, 109, 2, 123, 120, 25, 254, 71, 148, 5, 58, 83, 240, 49, 182, 159, 140, 157, 114, 43, 104, 73, 110, 247, 132, 53, 170, 3, 224, 97, 38, 79, 124, 205, 226, 219, 88, 121, 222, 167, 116, 101, 26, 179, 208, 145, 150, 255, 108, 253, 82, 139, 72, 169, 78, 87, 100, 149, 138, 99, 192, 193, 6, 175, 92, 45, 194, 59, 56, 217, 190, 7, 84, 197, 250, 19, 176, 241, 118, 95, 76, 93, 50, 235, 40, 9, 46, 183, 68, 245, 106, 195, 160, 33, 230, 15, 60, 141, 162, 155, 24, 57, 158, 103, 52, 37, 218, 115, 144, 81, 86, 191, 44, 189, 18, 75, 8, 105, 14, 23, 36, 85, 74, 35, 128, 129, 198, 111, 28, 237, 130, 251, 248, 153, 126, 199, 20, 133, 186, 211, 112, 177, 54, 31, 12, 29, 242, 171, 232, 201, 238, 119, 4, 181, 42, 131, 96, 225, 166, 207, 252, 77, 98, 91, 216, 249, 94, 39, 244, 229, 154, 51, 80, 17, 22, 127, 236, 125, 210, 11, 200, 41, 206, 215, 228, 21, 10, 227, 64, 65, 134, 47, 220, 173, 66, 187, 184, 89, 62, 135, 212, 69, 122, 147, 48, 113, 246, 223, 204, 221, 178, 107, 168, 137, 174, 55, 196, 117, 234, 67, 32, 161, 102, 143, 188, 13, 34, 27, 152, 185, 30, 231, 180, 165, 90, 243, 16, 209, 214, 63, 172, 61, 146, 203, 136, 233, 142, 151, 164, 213, 202, 163]
 | _ => [0, 1, 70, 111, 28, 109, 2, 123, 120, 25, 126, 71, 20, 5, 58, 83, 112, 49, 54, 31, 12, 29, 114, 43, 104, 73, 110, 119, 4, 53, 42, 3, 96, 97, 38, 79, 124, 77, 98, 91, 88, 121, 94, 39, 116, 101, 26, 51, 80, 17, 22, 127, 108, 125, 82, 11, 72, 41, 78, 87, 100, 21, 10, 99, 64, 65, 6, 47, 92, 45, 66, 59, 56, 89, 62, 7, 84, 69, 122, 19, 48, 113, 118, 95, 76, 93, 50, 107, 40, 9, 46, 55, 68, 117, 106, 67, 32, 33, 102, 15, 60, 13, 34, 27, 24, 57, 30, 103, 52, 37, 90, 115, 16, 81, 86, 63, 44, 61, 18, 75, 8, 105, 14, 23, 36, 85, 74, 35]
def zBN (M : Nat) : Bool := (itN M (M + 1) 0 == 0) && (List.range (M + 1)).all fun j => decide ((logs M).getD j 0 <= M) && itN M ((logs M).getD j 0) 0 == j
theorem cyc7 : zBN 7 = true := by decide +kernel
theorem cyc31 : zBN 31 = true := by decide +kernel
theorem zKI : zBN 127 = true := by decide +kernel
theorem cyc15 : zBN 15 = true := by decide +kernel
theorem cyc63 : zBN 63 = true := by decide +kernel
theorem zKJ : zBN 255 = true := by decide +kernel
def Good (M : Nat) : Prop := M = 7 ∨ M = 31 ∨ M = 127 ∨ M = 15 ∨ M = 63 ∨ M = 255
theorem Good.cyc {M : Nat} (g : Good M) : zBN M = true := by
 rcases g with rfl | rfl | rfl | rfl | rfl | rfl
 ·exact cyc7
 ·exact cyc31
 ·exact zKI
 ·exact cyc15
 ·exact cyc63
 ·exact zKJ
theorem cyc0 {M : Nat} (g : Good M) : itN M (M + 1) 0 = 0 /\ ∀ j, j <= M -> ∃ k, k <= M /\ itN M k 0 = j := by
 have h := g.cyc
 unfold zBN at h
 rw [QH, beq_iff_eq, QS] at h
 refine ⟨h.1, fun j hj => ?_⟩
 have := h.2 j (QO.mpr (by lia))
 rw [QH, beq_iff_eq, decide_eq_true_eq] at this
 exact ⟨_, this.1, this.2⟩
theorem cyc {M i j : Nat} (g : Good M) (hi : i <= M) (hj : j <= M) : ∃ k, k <= M /\ itN M k i = j := by
 obtain ⟨z, c⟩ := cyc0 g
 obtain ⟨m, hm, rfl⟩ := c i hi
 obtain ⟨n, hn, rfl⟩ := c j hj
 by_cases q : m <= n
 ·refine ⟨n - m, by lia, ?_⟩
  rw [<- zDr]
  congr 1
  lia
 ·refine ⟨n + (M + 1) - m, by lia, ?_⟩
  rw [<- zDr, show m + (n + (M + 1) - m) = (M + 1) + n by lia, zDr, z]
def adv (M : Nat) (p : Probe) : Probe :=
 if p.more > 0 then { p with j := p.j + 1, more := p.more - 1 } else
 { p with j := (leap M p.i p.perturb).1, more := runEnd M (leap M p.i p.perturb).1 - (leap M p.i p.perturb).1, i := (leap M p.i p.perturb).1, perturb := (leap M p.i p.perturb).2 }
def run (M : Nat) (l : Nat × Nat) : Probe := { j := l.1, more := runEnd M l.1 - l.1, i := l.1, perturb := l.2, dummy := none }
def L (M : Nat) (h : Int) : Nat -> Nat × Nat
 | 0 => (bits h % (M + 1), bits h)
 | k + 1 => leap M (L M h k).1 (L M h k).2
def P (M : Nat) (h : Int) : Nat -> Probe
 | 0 => run M (L M h 0)
 | n + 1 => adv M (P M h n)
theorem L_le (M : Nat) (h : Int) : ∀ k, (L M h k).1 <= M
 | 0 => YJ (Nat.mod_lt _ (Nat.succ_pos _))
 | k + 1 => YJ (Nat.mod_lt _ (Nat.succ_pos _))
theorem zEt {M i : Nat} (h : i <= M) : i <= runEnd M i /\ runEnd M i <= M /\ runEnd M i - i <= 9 := by
 unfold runEnd
 split <;> lia
theorem P_ok (M : Nat) (h : Int) : ∀ n, (P M h n).j + (P M h n).more <= M /\ (P M h n).dummy = none
 | 0 => by
  have := zEt (L_le M h 0)
  show (L M h 0).1 + (runEnd M (L M h 0).1 - (L M h 0).1) <= M /\ none = none
  exact ⟨by lia, rfl⟩
 | n + 1 => by
  obtain ⟨h1, h2⟩ := P_ok M h n
  show (adv M (P M h n)).j + (adv M (P M h n)).more <= M /\ (adv M (P M h n)).dummy = none
  unfold adv
  split
  ·exact ⟨by show (P M h n).j + 1 + ((P M h n).more - 1) <= M; lia, h2⟩
  ·refine ⟨?_, h2⟩
   have : (leap M (P M h n).i (P M h n).perturb).1 <= M := YJ (Nat.mod_lt _ (Nat.succ_pos _))
   have := zEt this
   show (leap M (P M h n).i (P M h n).perturb).1 + (runEnd M (leap M (P M h n).i (P M h n).perturb).1 - (leap M (P M h n).i (P M h n).perturb).1) <= M
   lia
theorem P_le (M : Nat) (h : Int) (n : Nat) : (P M h n).j <= M := by have := (P_ok M h n).1; lia
theorem zEM {M : Nat} {h : Int} {n k : Nat} (e : P M h n = run M (L M h k)) : ∀ d, d <= runEnd M (L M h k).1 - (L M h k).1 ->
  P M h (n + d) = { j := (L M h k).1 + d, more := runEnd M (L M h k).1 - (L M h k).1 - d, i := (L M h k).1, perturb := (L M h k).2, dummy := none }
 | 0, _ => e
 | d + 1, hd => by
  show adv M (P M h (n + d)) = _
  rw [zEM e d (by lia)]
  unfold adv
  rw [if_pos (show runEnd M (L M h k).1 - (L M h k).1 - d > 0 by lia)]
  rfl
theorem zGI {M : Nat} {h : Int} {n k : Nat} (e : P M h n = run M (L M h k)) : P M h (n + (runEnd M (L M h k).1 - (L M h k).1) + 1) = run M (L M h (k + 1)) := by
 show adv M (P M h (n + (runEnd M (L M h k).1 - (L M h k).1))) = _
 rw [zEM e _ (Qh _)]
 unfold adv
 rw [if_neg (show ¬ runEnd M (L M h k).1 - (L M h k).1 - (runEnd M (L M h k).1 - (L M h k).1) > 0 by lia)]
 rfl
theorem P_at (M : Nat) (h : Int) : ∀ k, ∃ n, n <= 10 * k /\ P M h n = run M (L M h k)
 | 0 => ⟨0, Qh _, rfl⟩
 | k + 1 => by
  obtain ⟨n, hn, e⟩ := P_at M h k
  have := zEt (L_le M h k)
  exact ⟨_, by lia, zGI e⟩
theorem zGu (M : Nat) (h : Int) : ∀ k, (L M h k).2 = bits h / 32 ^ k
 | 0 => by show bits h = _; rw [Nat.pow_zero, Nat.div_one]
 | k + 1 => by
  show (L M h k).2 / 32 = _
  rw [zGu M h k, Nat.div_div_eq_div_mul, <- Nat.pow_succ]
theorem zKc (h : Int) : bits h < 36893488147419103232 := by
 unfold bits
 have : h % (2 ^ 64 : Int) < 2 ^ 64 := Ji _ (by decide)
 have h2 : (2 ^ 64 : Int) = 18446744073709551616 := by decide
 rw [h2] at this ⊢
 lia
theorem L_13 (M : Nat) (h : Int) : ∀ k, (L M h (13 + k)).2 = 0 /\ (L M h (13 + k)).1 = itN M k (L M h 13).1
 | 0 => by
  refine ⟨?_, rfl⟩
  rw [zGu]
  exact Nat.div_eq_of_lt (zKc h)
 | k + 1 => by
  obtain ⟨h1, h2⟩ := L_13 M h k
  show (L M h (13 + k)).2 / 32 = 0 /\ ((L M h (13 + k)).1 * 5 + 1 + (L M h (13 + k)).2 / 32) % (M + 1) = itN M (k + 1) (L M h 13).1
  rw [h1, h2, zDr]
  exact ⟨rfl, rfl⟩
theorem zGW {M : Nat} (g : Good M) (h : Int) {j : Nat} (hj : j <= M) : ∃ k, k < turns M /\ (L M h k).1 = j := by
 obtain ⟨k, hk, e⟩ := cyc g (L_le M h 13) hj
 exact ⟨13 + k, by unfold turns; lia, by rw [(L_13 M h k).2, e]⟩
theorem cover {M : Nat} (g : Good M) (h : Int) {j : Nat} (hj : j <= M) : ∃ n, n < 10 * turns M /\ (P M h n).j = j := by
 obtain ⟨k, hk, e⟩ := zGW g h hj
 obtain ⟨n, hn, q⟩ := P_at M h k
 exact ⟨n, by lia, by rw [q, <- e]; rfl⟩
end ST
namespace ST
open PySem PySem.SetTable
abbrev Up (l : List Nat) : Prop := l.Pairwise (· < ·)
theorem Up.at {l : List Nat} (s : Up l) {i k x y : Nat} (hx : l[i]? = some x) (hy : l[k]? = some y) (h : i < k) : x < y := by
 obtain ⟨h1, rfl⟩ := Qd.mp hx
 obtain ⟨h2, rfl⟩ := Qd.mp hy
 exact List.pairwise_iff_getElem.mp s i k h1 h2 h
theorem Up.le {l : List Nat} (s : Up l) {i k x y : Nat} (hx : l[i]? = some x) (hy : l[k]? = some y) (h : i <= k) : x <= y := by
 by_cases e : i = k
 ·subst e; rw [hx] at hy; cases hy; exact Qh _
 ·exact YA (s.at hx hy (by lia))
theorem Up.nodup {l : List Nat} (s : Up l) : l.Nodup := s.imp fun h => Qy h
theorem zFs (xs : Array Nat) (s : Up xs.toList) (j : Nat) : ∀ fuel lo hi, lo <= hi -> hi <= xs.size -> hi - lo <= fuel ->
  (∀ i x, xs.toList[i]? = some x -> i < lo -> x < j) -> (∀ i x, xs.toList[i]? = some x -> hi <= i -> j <= x) ->
  below.go xs j fuel lo hi <= xs.size /\ (∀ i x, xs.toList[i]? = some x -> i < below.go xs j fuel lo hi -> x < j) /\ (∀ i x, xs.toList[i]? = some x -> below.go xs j fuel lo hi <= i -> j <= x)
 | 0, lo, hi, h1, h2, h3, a, b => by
  have e : lo = hi := by lia
  subst e
  exact ⟨h2, a, b⟩
 | fuel + 1, lo, hi, h1, h2, h3, a, b => by
  unfold below.go
  by_cases c : lo < hi
  ·rw [if_pos c]
   dsimp only
   have hm : (lo + hi) / 2 < xs.size := by lia
   have hv : xs.toList[(lo + hi) / 2]? = some (xs.getD ((lo + hi) / 2) j) := by
    rw [QD, QC hm]
    simp [Array.getD, hm]
   by_cases d : xs.getD ((lo + hi) / 2) j < j
   ·rw [if_pos d]
    exact zFs xs s j fuel _ _ (by lia) h2 (by lia) (fun i x hx hi' => Yf (s.le hx hv (by lia)) d) b
   ·rw [if_neg d]
    exact zFs xs s j fuel _ _ (by lia) (by lia) (by lia) a (fun i x hx hi' => Qx (by lia) (s.le hv hx hi'))
  ·rw [if_neg c]
   have e : lo = hi := by lia
   subst e
   exact ⟨h2, a, b⟩
theorem zCz (xs : Array Nat) (s : Up xs.toList) (j : Nat) : below xs j <= xs.size /\ (∀ i x, xs.toList[i]? = some x -> i < below xs j -> x < j) /\ (∀ i x, xs.toList[i]? = some x -> below xs j <= i -> j <= x) :=
 zFs xs s j _ _ _ (QU _) (Qh _) (by lia) (fun i x _ h => absurd h (Ym _)) fun i x hx h => by
  obtain ⟨q, _⟩ := Qd.mp hx
  rw [Qr] at q
  lia
structure TOk (t : SetTable) (hs : List Int) : Prop where
 good : Good t.mask
 dum : t.dummies = #[]
 len : t.place.toList.length = hs.length
 up : Up t.place.toList
 le : ∀ x ∈ t.place.toList, x <= t.mask
 room : t.place.toList.length * 5 < t.mask * 3
 reach : ∀ q ∈ t.place.toList.zip hs, ∃ n, (P t.mask q.2 n).j = q.1 /\ ∀ m, m < n -> (P t.mask q.2 m).j ∈ t.place.toList
theorem zED {t : SetTable} (hd : t.dummies = #[]) (s : Up t.place.toList) (j : Nat) : (∃ i, t.slot j = .live i /\ t.place.toList[i]? = some j) ∨ (t.slot j = .empty /\ j ∉ t.place.toList) := by
 obtain ⟨h1, h2, h3⟩ := zCz t.place s j
 unfold slot
 dsimp only
 by_cases c : (t.place[below t.place j]? == some j) = true
 ·rw [if_pos c]
  exact .inl ⟨_, rfl, by rw [QD]; exact Yj c⟩
 ·rw [if_neg c, hd]
  refine .inr ⟨rfl, fun hj => c ?_⟩
  obtain ⟨i, hi⟩ := QX hj
  have e : i = below t.place j := by
   by_cases a : i < below t.place j
   ·have := h2 i j hi a; lia
   ·by_cases b : i = below t.place j
    ·exact b
    ·have hb : below t.place j < t.place.toList.length := by
      obtain ⟨q, _⟩ := Qd.mp hi
      lia
     have hv := Qg hb
     have := s.at hv hi (by lia)
     have := h3 _ _ hv (Qh _)
     lia
  rw [<- e, <- QD, hi]
  simp
theorem zJv {t : SetTable} (hd : t.dummies = #[]) (s : Up t.place.toList) {j i : Nat} (h : t.slot j = .live i) : t.place.toList[i]? = some j := by
 rcases zED hd s j with ⟨i', h1, h2⟩ | ⟨h1, _⟩
 ·rw [h] at h1; cases h1; exact h2
 ·rw [h] at h1; cases h1
theorem least {p : Nat -> Prop} [DecidablePred p] : ∀ n, p n -> ∃ m, m <= n /\ p m /\ ∀ k, k < m -> ¬ p k := by
 intro n
 induction n using Nat.strongRecOn with
 | ind n ih =>
  intro h
  by_cases c : ∃ k, k < n /\ p k
  ·obtain ⟨k, hk, pk⟩ := c
   obtain ⟨m, h1, h2, h3⟩ := ih k hk pk
   exact ⟨m, by lia, h2, h3⟩
  ·exact ⟨n, Qh _, h, fun k hk pk => c ⟨k, hk, pk⟩⟩
theorem spare {M : Nat} {l : List Nat} (h : l.length <= M) : ∃ j, j <= M /\ j ∉ l := by
 refine Yr fun c => ?_
 have : List.range (M + 1) ⊆ l := fun j hj => Yr fun hn => c ⟨j, by have := QO.mp hj; lia, hn⟩
 have := Yo List.nodup_range this
 rw [QR] at this
 lia
theorem zHD {M : Nat} {l : List Nat} (g : Good M) (h : l.length <= M) (x : Int) : ∃ n, n < 10 * turns M /\ (P M x n).j ∉ l /\ ∀ m, m < n -> (P M x m).j ∈ l := by
 obtain ⟨j, hj, hn⟩ := spare h
 obtain ⟨n, h1, h2⟩ := cover g x hj
 obtain ⟨m, q1, q2, q3⟩ := least (p := fun n => (P M x n).j ∉ l) n (by rw [h2]; exact hn)
 exact ⟨m, by lia, q2, fun k hk => Yr (q3 k hk)⟩
section
variable {t : SetTable} {hs : List Int} {hashAt : Nat -> Int} {h : Int} {n : Nat}
theorem zHR (T : TOk t hs) (h1 : (P t.mask h n).j ∉ t.place.toList) (h2 : ∀ m, m < n -> (P t.mask h m).j ∈ t.place.toList) : ∀ fuel c, c <= n -> n - c < fuel ->
  (probe.go t hashAt h fuel (P t.mask h c) = some (.empty (P t.mask h n).j none) /\ ∀ m, c <= m -> m < n -> ∀ i, t.slot (P t.mask h m).j = .live i -> hashAt i ≠ h)
  ∨ ∃ m i, c <= m /\ m < n /\ t.slot (P t.mask h m).j = .live i /\ hashAt i = h /\ (∀ m', c <= m' -> m' < m -> ∀ i, t.slot (P t.mask h m').j = .live i -> hashAt i ≠ h) /\ probe.go t hashAt h fuel (P t.mask h c) = some (.candidate (P t.mask h m).j i (P t.mask h (m + 1)))
 | 0, c, _, hf => absurd hf (Ym _)
 | fuel + 1, c, hc, hf => by
  unfold probe.go
  by_cases e : c = n
  ·subst e
   rcases zED T.dum T.up (P t.mask h c).j with ⟨i, q1, q2⟩ | ⟨q1, _⟩
   ·exact absurd (QL q2) h1
   ·rw [q1]
    refine .inl ⟨?_, fun m a b => by lia⟩
    show some (Met.empty (P t.mask h c).j (P t.mask h c).dummy) = _
    rw [(P_ok t.mask h c).2]
  ·rcases zED T.dum T.up (P t.mask h c).j with ⟨i, q1, q2⟩ | ⟨_, q2⟩
   ·rw [q1]
    dsimp only
    by_cases k : (hashAt i == h) = true
    ·rw [if_pos k]
     exact .inr ⟨c, i, Qh _, by lia, q1, Yj k, fun m' a b => by lia, rfl⟩
    ·rw [if_neg k]
     have hk : hashAt i ≠ h := fun e => k (by rw [e]; simp)
     rcases zHR T h1 h2 fuel (c + 1) (by lia) (by lia) with ⟨a, b⟩ | ⟨m, i', a1, a2, a3, a4, a5, a6⟩
     ·refine .inl ⟨a, fun m hm1 hm2 i2 hi2 => ?_⟩
      by_cases e2 : m = c
      ·subst e2; rw [q1] at hi2; cases hi2; exact hk
      ·exact b m (by lia) hm2 i2 hi2
     ·refine .inr ⟨m, i', by lia, a2, a3, a4, fun m' hm1 hm2 i2 hi2 => ?_, a6⟩
      by_cases e2 : m' = c
      ·subst e2; rw [q1] at hi2; cases hi2; exact hk
      ·exact a5 m' (by lia) hm2 i2 hi2
   ·exact absurd (h2 c (by lia)) q2
theorem met (T : TOk t hs) (h1 : (P t.mask h n).j ∉ t.place.toList) {i j : Nat} (hj : t.place.toList[i]? = some j) (hh : hs[i]? = some h) : ∃ m, m < n /\ (P t.mask h m).j = j := by
 have hq : (j, h) ∈ t.place.toList.zip hs := QL (i := i) (by rw [Ys]; exact ⟨hj, hh⟩)
 obtain ⟨m, e, a⟩ := T.reach _ hq
 refine ⟨m, Yr fun c => h1 ?_, e⟩
 by_cases d : n = m
 ·subst d; rw [e]; exact QL hj
 ·exact a n (by lia)
end
theorem zBG {α : Type} (xs : Array α) (p : Nat) (x : α) : (insertAt xs p x).toList = xs.toList.take p ++ x :: xs.toList.drop p := by
 rw [SetTable.toList_insertAt]
theorem zNJ {t : SetTable} {hs : List Int} {h : Int} {n : Nat} (T : TOk t hs) (h1 : (P t.mask h n).j ∉ t.place.toList) (h2 : ∀ m, m < n -> (P t.mask h m).j ∈ t.place.toList)
  (hr : (t.place.toList.length + 1) * 5 < t.mask * 3) (pl : Bool) :
  TOk { (t.put (P t.mask h n).j).1 with plain := pl } (hs.take (t.put (P t.mask h n).j).2 ++ h :: hs.drop (t.put (P t.mask h n).j).2) := by
 obtain ⟨b1, b2, b3⟩ := zCz t.place T.up (P t.mask h n).j
 have hmem : ∀ x, x ∈ (insertAt t.place (below t.place (P t.mask h n).j) (P t.mask h n).j).toList ↔ x = (P t.mask h n).j ∨ x ∈ t.place.toList := by
  intro x
  rw [zBG, Qz, Qk]
  conv => rhs; rw [<- Yc (below t.place (P t.mask h n).j) t.place.toList, Qz]
  constructor
  ·rintro (a | a | a)
   ·exact .inr (.inl a)
   ·exact .inl a
   ·exact .inr (.inr a)
  ·rintro (a | a | a)
   ·exact .inr (.inl a)
   ·exact .inl a
   ·exact .inr (.inr a)
 refine ⟨T.good, ?_, ?_, ?_, ?_, ?_, ?_⟩
 ·show (if has t.dummies _ = true then _ else t.dummies) = #[]
  rw [T.dum]
  rfl
 ·show (insertAt t.place (below t.place (P t.mask h n).j) (P t.mask h n).j).toList.length = (hs.take (below t.place (P t.mask h n).j) ++ h :: hs.drop (below t.place (P t.mask h n).j)).length
  rw [zBG]
  simp only [Ql, Q0, QV, Yw]
  rw [T.len]
 ·show Up (insertAt t.place (below t.place (P t.mask h n).j) (P t.mask h n).j).toList
  rw [zBG]
  unfold Up
  rw [List.pairwise_append]
  have hlt : ∀ x ∈ t.place.toList.take (below t.place (P t.mask h n).j), x < (P t.mask h n).j := fun x hx => by
   obtain ⟨i, hi⟩ := QX hx
   rw [List.getElem?_take] at hi
   split at hi
   ·rename_i q; exact b2 i x hi q
   ·cases hi
  have hgt : ∀ x ∈ t.place.toList.drop (below t.place (P t.mask h n).j), (P t.mask h n).j < x := fun x hx => by
   obtain ⟨i, hi⟩ := QX hx
   rw [List.getElem?_drop] at hi
   have := b3 _ x hi (by lia)
   have hne : x ≠ (P t.mask h n).j := fun e => h1 (e ▸ QL hi)
   lia
  refine ⟨T.up.sublist (List.take_sublist _ _), Yb.mpr ⟨hgt, T.up.sublist (List.drop_sublist _ _)⟩, fun a ha b hb => ?_⟩
  rcases Qk.mp hb with rfl | hb
  ·exact hlt a ha
  ·exact Nat.lt_trans (hlt a ha) (hgt b hb)
 ·intro x hx
  rcases (hmem x).mp hx with rfl | hx
  ·exact P_le _ _ _
  ·exact T.le x hx
 ·show (insertAt t.place (below t.place (P t.mask h n).j) (P t.mask h n).j).toList.length * 5 < t.mask * 3
  rw [zBG]
  simp only [Ql, Q0, QV, Yw]
  lia
 ·intro q hq
  have hz : (insertAt t.place (below t.place (P t.mask h n).j) (P t.mask h n).j).toList.zip (hs.take (below t.place (P t.mask h n).j) ++ h :: hs.drop (below t.place (P t.mask h n).j)) = (t.place.toList.take (below t.place (P t.mask h n).j)).zip (hs.take (below t.place (P t.mask h n).j)) ++ ((P t.mask h n).j, h) :: (t.place.toList.drop (below t.place (P t.mask h n).j)).zip (hs.drop (below t.place (P t.mask h n).j)) := by
   rw [zBG, List.zip_append (by rw [Q0, Q0, T.len]), List.zip_cons_cons]
  have hq' : q = ((P t.mask h n).j, h) ∨ q ∈ t.place.toList.zip hs := by
   have hq2 : q ∈ (insertAt t.place (below t.place (P t.mask h n).j) (P t.mask h n).j).toList.zip (hs.take (below t.place (P t.mask h n).j) ++ h :: hs.drop (below t.place (P t.mask h n).j)) := hq
   rw [hz, Qz, Qk] at hq2
   conv => rhs; rw [<- Yc (below t.place (P t.mask h n).j) t.place.toList, <- Yc (below t.place (P t.mask h n).j) hs, List.zip_append (by rw [Q0, Q0, T.len]), Qz]
   rcases hq2 with a | a | a
   ·exact .inr (.inl a)
   ·exact .inl a
   ·exact .inr (.inr a)
  rcases hq' with rfl | hq'
  ·exact ⟨n, rfl, fun m hm => (hmem _).mpr (.inr (h2 m hm))⟩
  ·obtain ⟨m, e, a⟩ := T.reach q hq'
   exact ⟨m, e, fun k hk => (hmem _).mpr (.inr (a k hk))⟩
end ST
namespace ST
open PySem PySem.SetTable
structure Own (M : Nat) (hs : List Int) (ow : Array (Option Nat)) : Prop where
 size : ow.size = M + 1
 lt : ∀ j i : Nat, ow[j]? = some (some i) -> i < hs.length
 all : ∀ i, i < hs.length -> ∃ j : Nat, ow[j]? = some (some i)
 inj : ∀ j j' i : Nat, ow[j]? = some (some i) -> ow[j']? = some (some i) -> j = j'
 reach : ∀ (j i : Nat) (h : Int), ow[j]? = some (some i) -> hs[i]? = some h -> ∃ n, (P M h n).j = j /\ ∀ m, m < n -> ∃ i', ow[(P M h m).j]? = some (some i')
theorem Own.free {M : Nat} {hs : List Int} {ow : Array (Option Nat)} (W : Own M hs ow) (h : hs.length <= M) : ∃ j : Nat, j <= M /\ ow[j]? = some none := by
 refine Yr fun c => ?_
 have hv : ∀ j, j <= M -> ∃ i, ow[j]? = some (some i) := fun j hj => by
  have hl : j < ow.size := by rw [W.size]; lia
  cases e : ow[j] with
  | none => exact absurd ⟨j, hj, by rw [QC hl, e]⟩ c
  | some i => exact ⟨i, by rw [QC hl, e]⟩
 have e : ∀ j, j <= M -> ow[j]? = some (some ((ow.getD j none).getD 0)) := fun j hj => by
  obtain ⟨i, hi⟩ := hv j hj
  have hl : j < ow.size := by rw [W.size]; lia
  rw [hi]
  rw [QC hl] at hi
  have : ow.getD j none = some i := by simp [Array.getD, hl]; exact QG hi
  rw [this]
  rfl
 have hs1 : (List.range (M + 1)).map (fun j => (ow.getD j none).getD 0) ⊆ List.range hs.length := fun i hi => by
  obtain ⟨j, hj, rfl⟩ := QJ.mp hi
  exact QO.mpr (W.lt j _ (e j (by have := QO.mp hj; lia)))
 have hn : ((List.range (M + 1)).map (fun j => (ow.getD j none).getD 0)).Nodup := by
  unfold List.Nodup
  rw [Q5]
  refine List.Pairwise.imp_of_mem ?_ List.nodup_range
  intro a b ha hb hne he
  refine hne (W.inj a b _ (e a (by have := QO.mp ha; lia)) ?_)
  rw [he]
  exact e b (by have := QO.mp hb; lia)
 have := Yo hn hs1
 rw [Qj, QR, QR] at this
 lia
theorem zHE {M : Nat} {ow : Array (Option Nat)} {h : Int} (hsz : ow.size = M + 1) : ∀ fuel k n, P M h n = run M (L M h k) -> (∀ m, m < n -> ∃ i, ow[(P M h m).j]? = some (some i)) ->
  (∃ kk, k <= kk /\ kk < k + fuel /\ ow[(L M h kk).1]? = some none) ->
  ∃ n', layClean.free M ow fuel (L M h k).1 (L M h k).2 = some (P M h n').j /\ ow[(P M h n').j]? = some none /\ ∀ m, m < n' -> ∃ i, ow[(P M h m).j]? = some (some i)
 | 0, k, n, e, a, ⟨kk, h1, h2, _⟩ => by lia
 | fuel + 1, k, n, e, a, ⟨kk, h1, h2, h3⟩ => by
  have hr := zEt (L_le M h k)
  have hget : ∀ d, d <= runEnd M (L M h k).1 - (L M h k).1 -> ow[(L M h k).1 + d]? = some (ow.getD ((L M h k).1 + d) (some 0)) := fun d hd => by
   have hl : (L M h k).1 + d < ow.size := by lia
   rw [QC hl]
   simp [Array.getD, hl]
  have hP : ∀ d, d <= runEnd M (L M h k).1 - (L M h k).1 -> (P M h (n + d)).j = (L M h k).1 + d := fun d hd => by rw [zEM e d hd]
  unfold layClean.free
  cases q : (List.range (runEnd M (L M h k).1 + 1 - (L M h k).1)).find? fun d => (ow.getD ((L M h k).1 + d) (some 0)).isNone with
  | some d =>
   rw [List.find?_range_eq_some] at q
   obtain ⟨q1, q2, q3⟩ := q
   have hd : d <= runEnd M (L M h k).1 - (L M h k).1 := by have := QO.mp q2; lia
   refine ⟨n + d, ?_, ?_, fun m hm => ?_⟩
   ·rw [hP d hd]
   ·rw [hP d hd, hget d hd, Option.isNone_iff_eq_none.mp q1]
   ·by_cases c : m < n
    ·exact a m c
    ·have := q3 (m - n) (by lia)
     have hd' : m - n <= runEnd M (L M h k).1 - (L M h k).1 := by lia
     have h5 := hP (m - n) hd'
     rw [show n + (m - n) = m by lia] at h5
     rw [h5, hget (m - n) hd']
     cases hv : ow.getD ((L M h k).1 + (m - n)) (some 0) with
     | none => rw [hv] at this; simp at this
     | some i => exact ⟨i, rfl⟩
  | none =>
   rw [List.find?_eq_none] at q
   have hocc : ∀ d, d <= runEnd M (L M h k).1 - (L M h k).1 -> ∃ i, ow[(L M h k).1 + d]? = some (some i) := fun d hd => by
    have := q d (QO.mpr (by lia))
    rw [hget d hd]
    cases hv : ow.getD ((L M h k).1 + d) (some 0) with
    | none => rw [hv] at this; simp at this
    | some i => exact ⟨i, rfl⟩
   have hk : kk ≠ k := fun e2 => by
    subst e2
    obtain ⟨i, hi⟩ := hocc 0 (QU _)
    rw [Nat.add_zero, h3] at hi
    cases hi
   refine zHE hsz fuel (k + 1) _ (zGI e) (fun m hm => ?_) ⟨kk, by lia, by lia, h3⟩
   by_cases c : m < n
   ·exact a m c
   ·have hd' : m - n <= runEnd M (L M h k).1 - (L M h k).1 := by lia
    have h5 := hP (m - n) hd'
    rw [show n + (m - n) = m by lia] at h5
    rw [h5]
    exact hocc (m - n) hd'
theorem Own.put {M : Nat} {hs : List Int} {ow : Array (Option Nat)} {h : Int} {n : Nat} (W : Own M hs ow) (h1 : ow[(P M h n).j]? = some none) (h2 : ∀ m, m < n -> ∃ i, ow[(P M h m).j]? = some (some i)) :
  Own M (hs ++ [h]) (ow.setIfInBounds (P M h n).j (some hs.length)) := by
 have hl : (P M h n).j < ow.size := by rw [W.size]; have := P_le M h n; lia
 have hg : ∀ j, (ow.setIfInBounds (P M h n).j (some hs.length))[j]? = if (P M h n).j = j then some (some hs.length) else ow[j]? := fun j => by
  rw [Array.getElem?_setIfInBounds]
  split
  ·first | rfl | rw [if_pos hl]
  ·rfl
 have hup : ∀ j : Nat, (∃ i, ow[j]? = some (some i)) -> ∃ i, (ow.setIfInBounds (P M h n).j (some hs.length))[j]? = some (some i) := fun j zz => by
  obtain ⟨i, hi⟩ := zz
  rw [hg]
  split
  ·exact ⟨_, rfl⟩
  ·exact ⟨i, hi⟩
 refine ⟨by simpa using W.size, fun j i hj => ?_, fun i hi => ?_, fun j j' i hj hj' => ?_, fun j i x hj hx => ?_⟩
 ·rw [Ql, QT]
  rw [hg] at hj
  split at hj
  ·cases hj; lia
  ·have := W.lt j i hj; lia
 ·rw [Ql, QT] at hi
  by_cases c : i < hs.length
  ·obtain ⟨j, hj⟩ := W.all i c
   refine ⟨j, ?_⟩
   rw [hg, if_neg (fun e => by rw [e, hj] at h1; cases h1)]
   exact hj
  ·refine ⟨(P M h n).j, ?_⟩
   rw [hg, if_pos rfl, show i = hs.length by lia]
 ·rw [hg] at hj hj'
  split at hj
  ·rename_i e
   cases hj
   split at hj'
   ·rename_i e'; rw [<- e, <- e']
   ·have := W.lt j' _ hj'; lia
  ·split at hj'
   ·cases hj'
    have := W.lt j _ hj; lia
   ·exact W.inj j j' i hj hj'
 ·rw [hg] at hj
  split at hj
  ·rename_i e
   cases hj
   rw [YC (Qh _), Nat.sub_self] at hx
   cases hx
   exact ⟨n, e, fun m hm => hup _ (h2 m hm)⟩
  ·rw [YE (W.lt j i hj)] at hx
   obtain ⟨m, e, a⟩ := W.reach j i x hj hx
   exact ⟨m, e, fun k hk => hup _ (a k hk)⟩
def lay (M : Nat) (acc : Option (Array (Option Nat) × Nat)) (h : Int) : Option (Array (Option Nat) × Nat) := do
 let (owner, k) <- acc
 let j <- layClean.free M owner (turns M) (bits h % (M + 1)) (bits h)
 pure (owner.setIfInBounds j (some k), k + 1)
theorem zHA {M : Nat} (g : Good M) : ∀ (rest done : List Int) (ow : Array (Option Nat)), Own M done ow -> (done ++ rest).length <= M -> ∃ ow', rest.foldl (lay M) (some (ow, done.length)) = some (ow', (done ++ rest).length) /\ Own M (done ++ rest) ow'
 | [], done, ow, W, _ => ⟨ow, by rw [QW]; rfl, by rw [QW]; exact W⟩
 | h :: rest, done, ow, W, hl => by
  rw [Ql, QV] at hl
  obtain ⟨j, hj, hf⟩ := W.free (by lia)
  obtain ⟨kk, hk, e⟩ := zGW g h hj
  obtain ⟨n, q1, q2, q3⟩ := zHE (h := h) W.size (turns M) 0 0 rfl (fun m hm => absurd hm (Ym _)) ⟨kk, QU _, by lia, by rw [e]; exact hf⟩
  have W2 := W.put q2 q3
  obtain ⟨ow', r1, r2⟩ := zHA g rest (done ++ [h]) _ W2 (by simp; lia)
  refine ⟨ow', ?_, by rw [<- List.append_cons] at r2; exact r2⟩
  rw [Yv]
  have : lay M (some (ow, done.length)) h = some (ow.setIfInBounds (P M h n).j (some done.length), (done ++ [h]).length) := by
   show (layClean.free M ow (turns M) (L M h 0).1 (L M h 0).2).bind _ = _
   rw [q1, Ql]
   rfl
  rw [this, r1, <- List.append_cons]
theorem own0 (M : Nat) : Own M [] (Array.replicate (M + 1) none) := by
 have : ∀ (j : Nat) (i : Nat), (Array.replicate (M + 1) (none : Option Nat))[j]? = some (some i) -> False := fun j i h => by
  rw [Array.getElem?_replicate] at h
  split at h <;> simp at h
 exact ⟨by simp, fun j i h => (this j i h).elim, fun i hi => absurd hi (Ym _), fun j j' i h => (this j i h).elim, fun j i _ h => (this j i h).elim⟩
theorem zMa {M : Nat} (g : Good M) (hs : Array Int) (hl : hs.size <= M) : ∃ ow, layClean M hs = some ow /\ Own M hs.toList ow := by
 obtain ⟨ow, h1, h2⟩ := zHA g hs.toList [] _ (own0 M) (by simpa using hl)
 refine ⟨ow, ?_, h2⟩
 unfold layClean
 rw [<- Array.foldl_toList]
 show (hs.toList.foldl (lay M) (some (Array.replicate (M + 1) none, 0))).map (·.1) = _
 rw [show (0 : Nat) = ([] : List Int).length from rfl, h1]
 rfl
def zAS (M : Nat) (ow : Array (Option Nat)) : List (Nat × Nat) := (List.range (M + 1)).filterMap fun j => (ow.getD j none).map (j, ·)
theorem zCd {M : Nat} {hs : List Int} {ow : Array (Option Nat)} (W : Own M hs ow) (q : Nat × Nat) : q ∈ zAS M ow ↔ q.1 <= M /\ ow[q.1]? = some (some q.2) := by
 unfold zAS
 rw [List.mem_filterMap]
 constructor
 ·rintro ⟨j, hj, e⟩
  have hl : j < ow.size := by rw [W.size]; exact QO.mp hj
  cases hv : ow.getD j none with
  | none => rw [hv] at e; cases e
  | some i =>
   rw [hv] at e
   cases e
   refine ⟨by have := QO.mp hj; show j <= M; lia, ?_⟩
   show ow[j]? = some (some i)
   rw [QC hl]
   simp [Array.getD, hl] at hv
   rw [hv]
 ·rintro ⟨h1, h2⟩
  have hl : q.1 < ow.size := by rw [W.size]; lia
  refine ⟨q.1, QO.mpr (by lia), ?_⟩
  rw [QC hl] at h2
  have : ow.getD q.1 none = some q.2 := by simp [Array.getD, hl]; exact QG h2
  rw [this]
  rfl
theorem zIn (M : Nat) (ow : Array (Option Nat)) : (zAS M ow).Pairwise fun p q => p.1 < q.1 := by
 unfold zAS
 rw [List.pairwise_filterMap]
 refine List.Pairwise.imp ?_ List.pairwise_lt_range
 intro a b hab x hx y hy
 cases ha : ow.getD a none with
 | none => rw [ha] at hx; cases hx
 | some i =>
  cases hb : ow.getD b none with
  | none => rw [hb] at hy; cases hy
  | some k =>
   rw [ha] at hx; rw [hb] at hy
   cases hx; cases hy
   exact hab
theorem zIe {hs : Array Int} {M : Nat} (fi mo : Nat) (le pl : Bool) (g : Good M) (hl : hs.size * 5 < M * 3) :
  ∃ t' order, laid M fi mo le pl hs = some (t', order) /\ List.Perm order.toList (List.range hs.size) /\ TOk t' (order.toList.map fun i => hs.toList.getD i 0) /\ t'.led = le /\ t'.plain = pl := by
 obtain ⟨ow, h1, W⟩ := zMa g hs (by lia)
 have hperm : List.Perm ((zAS M ow).map (·.2)) (List.range hs.size) := by
  rw [List.perm_ext_iff_of_nodup ?_ List.nodup_range]
  ·intro i
   rw [QJ, QO]
   constructor
   ·rintro ⟨q, hq, rfl⟩
    have := W.lt _ _ ((zCd W q).mp hq).2
    simpa using this
   ·intro hi
    obtain ⟨j, hj⟩ := W.all i (by simpa using hi)
    have hjl : j < ow.size := (QZ.mp hj).1
    exact ⟨(j, i), (zCd W (j, i)).mpr ⟨by rw [W.size] at hjl; show j <= M; lia, hj⟩, rfl⟩
  ·unfold List.Nodup
   rw [Q5]
   refine List.Pairwise.imp_of_mem ?_ (zIn M ow)
   intro p q hp hq hlt he
   have a := ((zCd W p).mp hp).2
   have b := ((zCd W q).mp hq).2
   rw [he] at a
   have := W.inj _ _ _ a b
   lia
 have hlen : (zAS M ow).length = hs.size := by
  have := hperm.length_eq
  rwa [Qj, QR] at this
 refine ⟨{ mask := M, place := ((zAS M ow).map (·.1)).toArray, dummies := #[], finger := fi, led := le, moves := mo, plain := pl }, ((zAS M ow).map (·.2)).toArray, ?_, hperm, ?_, rfl, rfl⟩
 ·unfold laid
  rw [h1]
  rfl
 ·refine ⟨g, rfl, ?_, ?_, ?_, ?_, ?_⟩
  ·show ((zAS M ow).map (·.1)).length = (((zAS M ow).map (·.2)).map fun i => hs.toList.getD i 0).length
   simp
  ·show Up ((zAS M ow).map (·.1))
   unfold Up
   rw [Q5]
   exact zIn M ow
  ·intro x hx
   have hx' : x ∈ (zAS M ow).map (·.1) := hx
   obtain ⟨q, hq, rfl⟩ := QJ.mp hx'
   exact ((zCd W q).mp hq).1
  ·show ((zAS M ow).map (·.1)).length * 5 < M * 3
   rw [Qj, hlen]
   exact hl
  ·intro q hq
   have hq' : q ∈ ((zAS M ow).map (·.1)).zip (((zAS M ow).map (·.2)).map fun i => hs.toList.getD i 0) := hq
   rw [Yg, List.zip_map'] at hq'
   obtain ⟨p, hp, rfl⟩ := QJ.mp hq'
   obtain ⟨a, b⟩ := (zCd W p).mp hp
   have hlt := W.lt _ _ b
   have hx : hs.toList[p.2]? = some (hs.toList.getD p.2 0) := by
    rw [YX, Qg hlt]
    rfl
   obtain ⟨n, e, c⟩ := W.reach _ _ _ b hx
   refine ⟨n, e, fun m hm => ?_⟩
   obtain ⟨i, hi⟩ := c m hm
   show (P M (hs.toList.getD p.2 0) m).j ∈ (zAS M ow).map (·.1)
   exact QJ.mpr ⟨((P M (hs.toList.getD p.2 0) m).j, i), (zCd W _).mpr ⟨P_le _ _ _, hi⟩, rfl⟩
theorem zNT {t : SetTable} {hs : Array Int} {wanted M : Nat} (hM : sizeAbove wanted - 1 = M) (g : Good M) (hl : hs.size * 5 < M * 3) :
  ∃ t' order, t.relaid hs wanted = some (t', order) /\ List.Perm order.toList (List.range hs.size) /\ TOk t' (order.toList.map fun i => hs.toList.getD i 0) /\ t'.led = t.led /\ t'.plain = t.plain := by
 unfold relaid
 rw [hM]
 exact zIe _ _ _ _ g hl
end ST
namespace ST
open PySem PySem.SetTable
section
variable {prog : Program} {w : World} {A : Around} {E : Value -> Shared -> Prop} {s : Shared}
abbrev TK (prog : Program) (w : World) (h : Heap) (k : List Int) (a : Addr) : Prop := IsTupleKey (intKind prog w) h k a
abbrev TH (prog : Program) (w : World) (k : List Int) : Int := tupleKeyHash (intKind prog w) k
theorem items_int {ks : List Int} {vs : List Value} (h : ItemsAre (intKind prog w) ks vs) : ∀ v ∈ vs, ∃ i t, v = .int i t := by
 induction h with
 | nil => intro v hv; simp at hv
 | @cons k v' ks vs h1 _ ih =>
  intro v hv
  rcases Qk.mp hv with rfl | hv
  ·obtain ⟨t, e⟩ := Value.isInt_shape h1
   exact ⟨k, t, e⟩
  ·exact ih v hv
theorem zIF {k : List Int} {a : Addr} {Q : Bool -> Shared -> Prop} (hk : TK prog w s.heap k a) (h : Q false s) : wpAny (model prog w) A (ofAClassStatement 8 (.ref a)) Q E s := by
 have hT := hk.typeIs
 obtain ⟨o, items, n, ho, _, hd, hi⟩ := hk
 have hv := items_int hi
 unfold ofAClassStatement
 refine Qa (Y3 hT ?_)
 show wpAny _ _ (do let underTuple <- (if ("tuple" == "tuple") = true then pure true else isSubtype (.type "tuple") (.type "tuple")); _) Q E s
 refine Qa ?_
 rw [if_pos (by decide)]
 refine Qb ?_
 simp only [YG, Qp, if_false]
 refine Qa (wpAny_seqItems ho hd ?_)
 dsimp only
 refine Qa ?_
 rw [<- Array.forIn_toList]
 refine Jt _ (fun rest r s' => r.1 = none /\ s' = s /\ ∀ v ∈ rest, ∃ i t, v = Value.int i t) _ ?_ ?_ _ _ ⟨rfl, rfl, hv⟩
 ·rintro v rest r s' ⟨hr, rfl, hall⟩
  obtain ⟨i, t, rfl⟩ := hall v Qf
  refine Qa ?_
  unfold ofAClassStatement
  refine Qb ?_
  simp only [Qp, if_false]
  exact Qb ⟨rfl, rfl, fun u hu' => hall u (Qe _ hu')⟩
 ·rintro ⟨r1, r2⟩ s' ⟨hr, rfl, _⟩
  simp only at hr
  subst hr
  exact Qb h
theorem zKe {k : List Int} {a : Addr} {Q : Bool -> Shared -> Prop} (hk : TK prog w s.heap k a) (h : Q true s) : wpAny (model prog w) A (hashByValue 8 (.ref a)) Q E s := by
 have hT := hk.typeIs
 obtain ⟨o, items, n, ho, _, hd, hi⟩ := hk
 have hv := items_int hi
 unfold hashByValue
 refine Qa (Jl hT F.slot_tuple_hash.lookup ?_)
 dsimp only
 refine Qa (wpAny_seqItems ho hd ?_)
 refine Qa ?_
 show wpAny _ _ (forIn items _ _) _ _ s
 rw [<- Array.forIn_toList]
 refine Jt _ (fun rest r s' => r.1 = none /\ s' = s /\ ∀ v ∈ rest, ∃ i t, v = Value.int i t) _ ?_ ?_ _ _ ⟨rfl, rfl, hv⟩
 ·rintro v rest r s' ⟨hr, rfl, hall⟩
  obtain ⟨i, t, rfl⟩ := hall v Qf
  refine Qa ?_
  unfold hashByValue
  refine Qb ?_
  simp only [YG, Qp, if_false]
  exact Qb ⟨rfl, rfl, fun u hu' => hall u (Qe _ hu')⟩
 ·rintro ⟨r1, r2⟩ s' ⟨hr, rfl, _⟩
  simp only at hr
  subst hr
  exact Qb h
theorem zIH {k : List Int} {a : Addr} {stored : List Value} {Q : Bool -> Shared -> Prop} (hk : TK prog w s.heap k a) (hs : ∀ y ∈ stored, ∃ k' b, y = .ref b /\ TK prog w s.heap k' b) (h : Q false s) :
  wpAny (model prog w) A (searchCouldBeSeen (.ref a) stored) Q E s := by
 unfold searchCouldBeSeen
 refine Qa ?_
 refine Jt _ (fun rest r s' => r.1 = none /\ s' = s /\ ∀ y ∈ rest, ∃ k' b, y = .ref b /\ TK prog w s.heap k' b) _ ?_ ?_ _ _ ⟨rfl, rfl, hs⟩
 ·rintro v rest r s' ⟨hr, rfl, hall⟩
  have hrest : ∀ y ∈ rest, ∃ k' b, y = .ref b /\ TK prog w s'.heap k' b := fun u hu' => hall u (Qe _ hu')
  obtain ⟨k', b, rfl, hb⟩ := hall v Qf
  dsimp only
  by_cases c : (a == b) = true
  ·rw [c]
   simp only [Bool.true_or, if_true]
   exact Qb ⟨rfl, rfl, hrest⟩
  ·rw [if_neg (by simp [carriedByValue, c])]
   refine Qa (wpAny_eqIsQuiet_tuple hk ?_)
   simp only [YG, Qp, if_false]
   refine Qa (wpAny_eqIsQuiet_tuple hb ?_)
   simp only [YG, Qp, if_false]
   refine Qa (zIF hk ?_)
   simp only [Qp, if_false]
   refine Qa (zIF hb ?_)
   simp only [Qp, if_false]
   exact Qb ⟨rfl, rfl, hrest⟩
 ·rintro ⟨r1, r2⟩ s' ⟨hr, rfl, _⟩
  simp only at hr
  subst hr
  exact Qb h
end
end ST
namespace ST
open PySem PySem.SetTable
section
variable {prog : Program} {w : World} {A : Around} {E : Value -> Shared -> Prop} {s : Shared}
inductive Ents (prog : Program) (w : World) (h : Heap) : List (Int × Value) -> List (List Int) -> Prop
 | nil : Ents prog w h [] []
 | cons {k : List Int} {b : Addr} {es : List (Int × Value)} {ks : List (List Int)} : TK prog w h k b -> Ents prog w h es ks -> Ents prog w h ((TH prog w k, .ref b) :: es) (k :: ks)
theorem Ents.at {h : Heap} {es : List (Int × Value)} {ks : List (List Int)} (X : Ents prog w h es ks) : ∀ {i : Nat} {e : Int × Value}, es[i]? = some e -> ∃ k b, ks[i]? = some k /\ e = (TH prog w k, .ref b) /\ TK prog w h k b := by
 induction X with
 | nil => intro i e h; simp at h
 | @cons k b es ks h1 _ ih =>
  intro i e h
  cases i with
  | zero => cases h; exact ⟨k, b, rfl, rfl, h1⟩
  | succ i => exact ih (i := i) (by simpa using h)
theorem Ents.length {h : Heap} {es : List (Int × Value)} {ks : List (List Int)} (X : Ents prog w h es ks) : es.length = ks.length := by
 induction X with
 | nil => rfl
 | cons _ _ ih => simp [ih]
theorem Ents.append {h : Heap} {es es' : List (Int × Value)} {ks ks' : List (List Int)} (X : Ents prog w h es ks) (Y : Ents prog w h es' ks') : Ents prog w h (es ++ es') (ks ++ ks') := by
 induction X with
 | nil => exact Y
 | cons h1 _ ih => exact .cons h1 ih
theorem Ents.take {h : Heap} {es : List (Int × Value)} {ks : List (List Int)} (X : Ents prog w h es ks) : ∀ n, Ents prog w h (es.take n) (ks.take n) := by
 induction X with
 | nil => intro n; simpa using Ents.nil
 | cons h1 _ ih =>
  intro n
  cases n with
  | zero => exact .nil
  | succ n => exact .cons h1 (ih n)
theorem Ents.drop {h : Heap} {es : List (Int × Value)} {ks : List (List Int)} (X : Ents prog w h es ks) : ∀ n, Ents prog w h (es.drop n) (ks.drop n) := by
 induction X with
 | nil => intro n; simpa using Ents.nil
 | @cons k b es ks h1 hr ih =>
  intro n
  cases n with
  | zero => exact .cons h1 hr
  | succ n => exact ih n
theorem Ents.mono {h h' : Heap} {es : List (Int × Value)} {ks : List (List Int)} (X : Ents prog w h es ks) (m : ∀ k b, TK prog w h k b -> TK prog w h' k b) : Ents prog w h' es ks := by
 induction X with
 | nil => exact .nil
 | cons h1 _ ih => exact .cons (m _ _ h1) ih
theorem Ents.pick {h : Heap} {es : List (Int × Value)} {ks : List (List Int)} (X : Ents prog w h es ks) : ∀ (l : List Nat), (∀ i ∈ l, i < es.length) -> Ents prog w h (l.filterMap (es[·]?)) (l.filterMap (ks[·]?)) := by
 intro l
 induction l with
 | nil => intro _; exact .nil
 | cons i l ih =>
  intro hl
  have hi := hl i Qf
  obtain ⟨k, b, h1, h2, h3⟩ := X.at (Qg hi)
  rw [List.filterMap_cons_some (b := (TH prog w k, Value.ref b)) (by rw [Qg hi, h2]), List.filterMap_cons_some (b := k) h1]
  exact .cons h3 (ih fun j hj => hl j (Qe _ hj))
theorem TOk.fits {t : SetTable} {hs : List Int} (T : TOk t hs) {n : Nat} (e : hs.length = n) : t.fits n = true := by
 have h1 := T.len
 have h2 := T.room
 rw [Qr] at h1 h2
 unfold SetTable.fits SetTable.fill
 rw [T.dum, h1, e]
 rw [h1] at h2
 simp only [QH, beq_iff_eq, decide_eq_true_eq]
 refine ⟨?_, ?_⟩
 ·trivial
 ·show n + 0 <= t.mask
  lia
theorem TOk.odd {t : SetTable} {hs : List Int} (T : TOk t hs) : t.gaveWay = false := by
 unfold SetTable.gaveWay
 rcases T.good with h | h | h | h | h | h <;> rw [h] <;> rfl
theorem zJq {a x : Addr} {o : Obj} {es : Array (Int × Value)} {ep : Nat} {t : SetTable} {ks : List (List Int)} {k : List Int} {n : Nat} {Q : SetFound -> Shared -> Prop}
  (hu : A.units < cLine) (ho : s.heap.get? a = some o) (hd : o.data = .set es ep t) (T : TOk t (es.toList.map (·.1))) (X : Ents prog w s.heap es.toList ks) (hk : TK prog w s.heap k x)
  (h1 : (P t.mask (TH prog w k) n).j ∉ t.place.toList) (h2 : ∀ m, m < n -> (P t.mask (TH prog w k) m).j ∈ t.place.toList)
  (q1 : k ∈ ks -> Q (.there none) s) (q2 : k ∉ ks -> Q (.free (P t.mask (TH prog w k) n).j false) s) :
  ∀ fuel c, c <= n -> n < 10 * turns t.mask -> n - c < fuel -> (∀ m, m < c -> ∀ i, t.slot (P t.mask (TH prog w k) m).j = .live i -> ks[i]? ≠ some k) -> ∀ stand : Option Probe, stand.getD (t.probeStart (TH prog w k)) = P t.mask (TH prog w k) c ->
  wpAny (model prog w) A (setSearchFrom a (.ref x) (TH prog w k) true fuel stand) Q E s
 | 0, c, _, _, hf, _, _, _ => absurd hf (Ym _)
 | fuel + 1, c, hc, hN, hf, inv, stand, hst => by
  have hfit : t.fits es.size = true := T.fits (by simp)
  unfold setSearchFrom
  refine Qa (QI ho hd hfit ?_)
  dsimp only
  rw [hst, if_neg (by rw [T.odd]; exact Qw)]
  refine Qa (Qb ?_)
  generalize hg : t.probe _ (TH prog w k) (P t.mask (TH prog w k) c) = met
  obtain ⟨f, hfe, hg⟩ : ∃ f : Nat -> Int, (∀ i, f i = (es[i]?.map (·.1)).getD 0) /\ t.probe f (TH prog w k) (P t.mask (TH prog w k) c) = met := ⟨_, fun _ => rfl, hg⟩
  have key : ∀ m i, t.slot (P t.mask (TH prog w k) m).j = .live i -> f i ≠ TH prog w k -> ks[i]? ≠ some k := fun m i hi hne hki => by
   have hp := zJv T.dum T.up hi
   have hl : i < es.toList.length := by
    have := (Qd.mp hp).1
    rw [T.len] at this
    simpa using this
   obtain ⟨k', b, e1, e2, e3⟩ := X.at (Qg hl)
   rw [hki] at e1
   cases e1
   apply hne
   rw [hfe, <- QD, Qg hl, e2]
   rfl
  have hgo := zHR (hashAt := f) T h1 h2 (10 * turns t.mask) c hc (by lia)
  rcases hgo with ⟨g1, g2⟩ | ⟨m, i, g1, g2, g3, g4, g5, g6⟩
  ·have : met = some (.empty (P t.mask (TH prog w k) n).j none) := hg.symm.trans g1
   subst this
   dsimp only
   refine Qb (q2 fun hmem => ?_)
   obtain ⟨i, hi⟩ := QX hmem
   have hl : i < es.toList.length := by rw [X.length]; exact (Qd.mp hi).1
   obtain ⟨k', b, e1, e2, e3⟩ := X.at (Qg hl)
   rw [hi] at e1
   cases e1
   have hpl : i < t.place.toList.length := by rw [T.len]; simpa using hl
   obtain ⟨m, hm, hj⟩ := met T h1 (Qg hpl) (h := TH prog w k) (by rw [QP, Qg hl, e2]; rfl)
   obtain ⟨i', hs1, hs2⟩ | ⟨_, hs2⟩ := zED T.dum T.up (P t.mask (TH prog w k) m).j
   ·have hii : i' = i := by
     rw [hj] at hs2
     have a1 := Qg hpl
     by_cases l1 : i' < i
     ·have := T.up.at hs2 a1 l1; lia
     ·by_cases l2 : i < i'
      ·have := T.up.at a1 hs2 l2; lia
      ·lia
    subst hii
    by_cases cm : m < c
    ·exact inv m cm i' hs1 hi
    ·exact key m i' hs1 (g2 m (by lia) hm i' hs1) hi
   ·rw [hj] at hs2
    exact hs2 (YF _)
  ·have : met = some (.candidate (P t.mask (TH prog w k) m).j i (P t.mask (TH prog w k) (m + 1))) := hg.symm.trans g6
   subst this
   have hp := zJv T.dum T.up g3
   have hl : i < es.toList.length := by
    have := (Qd.mp hp).1
    rw [T.len] at this
    simpa using this
   obtain ⟨k', b, e1, e2, e3⟩ := X.at (Qg hl)
   have hei : es[i]? = some (TH prog w k', .ref b) := by rw [<- QD, Qg hl, e2]
   dsimp only
   have hseen : ∀ y ∈ (es.filter (fun x => x.1 == TH prog w k)).toList.map (fun x => x.2), ∃ k' b, y = .ref b /\ TK prog w s.heap k' b := fun y hy => by
    obtain ⟨e, he, rfl⟩ := QJ.mp hy
    have he' : e ∈ es.toList := by
     rw [Array.toList_filter] at he
     exact (QY.mp he).1
    obtain ⟨i2, hi2⟩ := QX he'
    obtain ⟨k2, b2, _, z2, z3⟩ := X.at hi2
    exact ⟨k2, b2, by rw [z2], z3⟩
   split
   all_goals try (refine Qa (zIH hk hseen ?_); rw [if_neg Qw])
   all_goals
    rw [hei]
    dsimp only
    refine Qa (Q8 (wpAny_eqBool_tuple hu e3 hk ?_))
    refine Qa (QI ho hd hfit ?_)
    dsimp only
    by_cases hkk : k' = k
    ·rw [if_pos (by simp [hkk])]
     exact Qb (q1 (hkk ▸ QL e1))
    ·rw [if_neg (by simp [hkk]), show t.sameMemory t.moves t.mask = some true by unfold sameMemory; simp]
     dsimp only
     rw [if_pos rfl, g3]
     dsimp only
     rw [hei]
     dsimp only
     refine Qa (wpAny_isSame_ref_self ?_)
     simp only [if_true]
     refine Qa (Qb ?_)
     dsimp only
     rw [if_neg (by simp [hkk])]
     refine zJq hu ho hd T X hk h1 h2 q1 q2 fuel (m + 1) (by lia) hN (by lia) (fun m' hm' i' hi' => ?_) _ rfl
     by_cases l1 : m' < c
     ·exact inv m' l1 i' hi'
     ·by_cases l2 : m' = m
      ·subst l2
       rw [g3] at hi'
       cases hi'
       rw [e1]
       exact fun e => hkk (QG e)
      ·exact key m' i' hi' (g5 m' (by lia) (by lia) i' hi')
end
end ST
namespace ST
open PySem PySem.SetTable
section
variable {prog : Program} {w : World} {A : Around} {E : Value -> Shared -> Prop} {s : Shared}
theorem TK.keep {h h' : Heap} {a b : Addr} {o : Obj} {es : Array (Int × Value)} {ep : Nat} {t : SetTable} {k : List Int} (ho : h.get? a = some o) (hd : o.data = .set es ep t) (hs : Heap.SameBut a h h') (x : TK prog w h k b) : TK prog w h' k b := by
 obtain ⟨o', items, n, ho', hc, hd', hi⟩ := x
 have hne : b ≠ a := by
  rintro rfl
  obtain rfl : o' = o := QG (ho'.symm.trans ho)
  rw [hd] at hd'; exact nomatch hd'
 exact ⟨o', items, n, (hs.2 b hne).trans ho', hc, hd', hi⟩
def ledW (w : World) : Bool := !w.params.followText "set-order"
def SetT (prog : Program) (w : World) (V : Value -> Prop) (h : Heap) (a : Addr) (ks : List (List Int)) : Prop :=
 ∃ o es ep t, h.get? a = some o /\ o.ExactSet /\ o.data = .set es ep t /\ TOk t (es.toList.map (·.1)) /\ (t.plain = true /\ t.led = ledW w) /\ Ents prog w h es.toList ks /\ ks.Nodup /\ ∀ e ∈ es.toList, V e.2
theorem zFz (es : List (Int × Value)) : ∀ l : List Nat, (∀ i ∈ l, i < es.length) -> (l.filterMap (es[·]?)).map (·.1) = l.map fun i => (es.map (·.1)).getD i 0
 | [], _ => rfl
 | i :: l, h => by
  have hi := h i Qf
  rw [List.filterMap_cons_some (b := es[i]) (Qg hi), Qo, Qo, zFz es l fun j hj => h j (Qe _ hj)]
  congr 1
  rw [YX, QP, Qg hi]
  rfl
theorem zLu {t : SetTable} {hs : List Int} (T : TOk t hs) (hf : (t.place.toList.length + 1) * 5 >= t.mask * 3) (h76 : t.place.toList.length + 1 <= 76) :
  ∃ M, sizeAbove (grown (t.place.toList.length + 1)) - 1 = M /\ Good M /\ (t.place.toList.length + 1) * 5 < M * 3 /\ ¬ sizeAbove (grown (t.place.toList.length + 1)) > sizeLine := by
 have hr := T.room
 rcases T.good with g | g | g | g | g | g
 ·rw [g] at hr hf
  have e : t.place.toList.length + 1 = 5 := by lia
  rw [e]
  exact ⟨31, by decide, .inr (.inl rfl), by decide, by rw [Q3]; decide⟩
 ·rw [g] at hr hf
  have e : t.place.toList.length + 1 = 19 := by lia
  rw [e]
  exact ⟨127, by decide, .inr (.inr (.inl rfl)), by decide, by rw [Q3]; decide⟩
 ·rw [g] at hr hf
  lia
 ·rw [g] at hr hf
  have e : t.place.toList.length + 1 = 9 := by lia
  rw [e]
  exact ⟨63, by decide, .inr (.inr (.inr (.inr (.inl rfl)))), by decide, by rw [Q3]; decide⟩
 ·rw [g] at hr hf
  have e : t.place.toList.length + 1 = 38 := by lia
  rw [e]
  exact ⟨255, by decide, .inr (.inr (.inr (.inr (.inr rfl)))), by decide, by rw [Q3]; decide⟩
 ·rw [g] at hr hf
  lia
theorem zI9 {V : Value -> Prop} {a : Addr} {o : Obj} {es : Array (Int × Value)} {ep : Nat} {t : SetTable} {ks : List (List Int)} {wanted M : Nat} {Q : Unit -> Shared -> Prop}
  (ho : s.heap.get? a = some o) (hex : o.ExactSet) (hd : o.data = .set es ep t) (hfit : t.fits es.size = true) (hp : t.plain = true /\ t.led = ledW w) (X : Ents prog w s.heap es.toList ks) (hnd : ks.Nodup) (hV : ∀ e ∈ es.toList, V e.2)
  (hM : sizeAbove wanted - 1 = M) (g : Good M) (hl : es.size * 5 < M * 3) (hz : ¬ sizeAbove wanted > sizeLine) (hsz : es.size <= sizeLine)
  (h : ∀ h' ks', Heap.SameBut a s.heap h' -> SetT prog w V h' a ks' -> List.Perm ks' ks -> Q () { s with heap := h' }) :
  wpAny (model prog w) A (setRelay a wanted) Q E s := by
 obtain ⟨t', order, r1, r2, r3, r4, r5⟩ := zNT (t := t) (hs := es.map (·.1)) hM g (by simpa using hl)
 have hlt : ∀ i ∈ order.toList, i < es.toList.length := fun i hi => by
  have := QO.mp (r2.mem_iff.mp hi)
  simpa using this
 have hes : (order.filterMap (es[·]?)).toList = order.toList.filterMap (es.toList[·]?) := by
  rw [Jj]
  congr 1
  funext i
  rw [QD]
 have hperm : List.Perm (order.filterMap (es[·]?)).toList es.toList := by
  rw [Jj]
  refine (r2.filterMap _).trans ?_
  rw [YW, filterMap_getElem?_range]
 have hsize : (order.filterMap (es[·]?)).size = es.size := by rw [<- Qr, hperm.length_eq, Qr]
 unfold setRelay
 refine Qa (QI ho hd hfit ?_)
 dsimp only
 rw [if_neg hz]
 rw [r1]
 refine Qa ?_
 show wpAny _ _ (if ((order.filterMap (es[·]?)).size != es.size) = true then _ else pure (order.filterMap (es[·]?), t')) _ _ s
 rw [if_neg (by simp [hsize])]
 refine Qb ?_
 dsimp only
 refine Y4 ho hd ?_ (by rw [hsize]; exact hsz)
 have hg : (s.heap.update a (Obj.putSet (order.filterMap (es[·]?)) t')).get? a = some { o with data := .set (order.filterMap (es[·]?)) (ep + 1) t' } := by
  have := Q1 (Obj.putSet (order.filterMap (es[·]?)) t') ho (by rw [Jd _ t' hd]; rfl)
  rw [Jd _ t' hd] at this; exact this
 have hsb := Q9 s.heap a (Obj.putSet (order.filterMap (es[·]?)) t')
 refine h _ (order.toList.filterMap (ks[·]?)) hsb ⟨_, _, _, t', hg, hex, rfl, ?_, ⟨by rw [r5]; exact hp.1, by rw [r4]; exact hp.2⟩, ?_, ?_, fun e he => hV e (hperm.mem_iff.mp he)⟩ ?_
 ·rw [hes, zFz _ _ hlt]
  simpa using r3
 ·rw [hes]
  exact (X.pick _ hlt).mono fun k b => TK.keep ho hd hsb
 ·have : List.Perm (order.toList.filterMap (ks[·]?)) ks := by
   refine (r2.filterMap _).trans ?_
   rw [YW, <- Qr, X.length, YO]
  exact this.nodup_iff.mpr hnd
 ·refine (r2.filterMap _).trans ?_
  rw [YW, <- Qr, X.length, YO]
theorem zGK {V : Value -> Prop} {a x : Addr} {ks : List (List Int)} {k : List Int} {Q : Bool -> Shared -> Prop} (hu : A.units < cLine) (S : SetT prog w V s.heap a ks) (hk : TK prog w s.heap k x) (hx : V (.ref x)) (h76 : ks.length + 1 <= 76)
  (q1 : k ∈ ks -> Q false s) (q2 : k ∉ ks -> ∀ h' ks', Heap.SameBut a s.heap h' -> SetT prog w V h' a ks' -> List.Perm ks' (k :: ks) -> Q true { s with heap := h' }) :
  wpAny (model prog w) A (setAddHashed a (.ref x) (TH prog w k)) Q E s := by
 obtain ⟨o, es, ep, t, ho, hex, hd, T, hp, X, hnd, hV⟩ := S
 have hfit : t.fits es.size = true := T.fits (by simp)
 have hlen : t.place.toList.length = ks.length := by rw [T.len, Qj, X.length]
 have hes : es.size = ks.length := by rw [<- X.length, Qr]
 have hroom := T.room
 obtain ⟨n, n1, n2, n3⟩ := zHD (l := t.place.toList) T.good (by lia) (TH prog w k)
 have hM : t.mask <= 255 := by rcases T.good with g | g | g | g | g | g <;> lia
 unfold setAddHashed setAddHashedIn
 refine Q8 (Qa (QI ho hd hfit ?_))
 dsimp only
 rw [if_neg (by simp [byScan, Value.scannable])]
 refine Qa ?_
 unfold setSearch
 refine zJq hu ho hd T X hk n2 n3 ?_ ?_ 100000 0 (QU _) n1 (by unfold turns at n1; lia) (fun m hm => absurd hm (Ym _)) none rfl
 ·intro hmem
  exact Qb (q1 hmem)
 ·intro hmem
  dsimp only
  refine Qa (QI ho hd hfit ?_)
  dsimp only
  rw [if_pos (show (t.put (P t.mask (TH prog w k) n).j).1.plain = true from hp.1)]
  refine Qa (zKe hk ?_)
  rw [if_pos rfl]
  have hesz : (insertAt es (t.put (P t.mask (TH prog w k) n).j).2 (TH prog w k, Value.ref x)).size = es.size + 1 := by
   rw [<- Qr, (YS _ _ _).length_eq]
   simp
  refine Qa (Y4 ho hd ?_ (by rw [hesz, Q3]; lia))
  have hg : (s.heap.update a (Obj.putSet (insertAt es (t.put (P t.mask (TH prog w k) n).j).2 (TH prog w k, Value.ref x)) (t.put (P t.mask (TH prog w k) n).j).1)).get? a = some { o with data := .set (insertAt es (t.put (P t.mask (TH prog w k) n).j).2 (TH prog w k, Value.ref x)) (ep + 1) (t.put (P t.mask (TH prog w k) n).j).1 } := by
   have := Q1 (Obj.putSet (insertAt es (t.put (P t.mask (TH prog w k) n).j).2 (TH prog w k, Value.ref x)) (t.put (P t.mask (TH prog w k) n).j).1) ho (by rw [Jd _ _ hd]; rfl)
   rw [Jd _ _ hd] at this; exact this
  have hsb := Q9 s.heap a (Obj.putSet (insertAt es (t.put (P t.mask (TH prog w k) n).j).2 (TH prog w k, Value.ref x)) (t.put (P t.mask (TH prog w k) n).j).1)
  have X2 : Ents prog w (s.heap.update a (Obj.putSet (insertAt es (t.put (P t.mask (TH prog w k) n).j).2 (TH prog w k, Value.ref x)) (t.put (P t.mask (TH prog w k) n).j).1)) (insertAt es (t.put (P t.mask (TH prog w k) n).j).2 (TH prog w k, Value.ref x)).toList (ks.take (t.put (P t.mask (TH prog w k) n).j).2 ++ k :: ks.drop (t.put (P t.mask (TH prog w k) n).j).2) := by
   rw [zBG]
   exact ((X.take _).append (.cons hk (X.drop _))).mono fun k b => TK.keep ho hd hsb
  have hkp : List.Perm (ks.take (t.put (P t.mask (TH prog w k) n).j).2 ++ k :: ks.drop (t.put (P t.mask (TH prog w k) n).j).2) (k :: ks) := by
   refine List.perm_middle.trans ?_
   rw [Yc]
  have hnd2 : (ks.take (t.put (P t.mask (TH prog w k) n).j).2 ++ k :: ks.drop (t.put (P t.mask (TH prog w k) n).j).2).Nodup := hkp.nodup_iff.mpr (Yl.mpr ⟨hmem, hnd⟩)
  have hV2 : ∀ e ∈ (insertAt es (t.put (P t.mask (TH prog w k) n).j).2 (TH prog w k, Value.ref x)).toList, V e.2 := fun e he => by
   have := (YS es (t.put (P t.mask (TH prog w k) n).j).2 (TH prog w k, Value.ref x)).mem_iff.mp he
   rw [Array.toList_push, Qz, Qq] at this
   rcases this with h | rfl
   ·exact hV e h
   ·exact hx
  have hfill : (t.put (P t.mask (TH prog w k) n).j).1.fill = t.place.toList.length + 1 := by
   show (insertAt t.place (below t.place (P t.mask (TH prog w k) n).j) (P t.mask (TH prog w k) n).j).size + (if has t.dummies _ = true then _ else t.dummies).size = _
   rw [T.dum, <- Qr, (YS _ _ _).length_eq]
   simp [has]
  have hfit2 : (t.put (P t.mask (TH prog w k) n).j).1.fits (insertAt es (t.put (P t.mask (TH prog w k) n).j).2 (TH prog w k, Value.ref x)).size = true := by
   unfold SetTable.fits
   rw [hfill, hesz]
   have : (t.put (P t.mask (TH prog w k) n).j).1.place.size = es.size + 1 := by
    show (insertAt t.place (below t.place (P t.mask (TH prog w k) n).j) (P t.mask (TH prog w k) n).j).size = _
    rw [<- Qr, (YS _ _ _).length_eq]
    simp
    rw [<- Qr, hlen, hes]
   rw [this]
   simp only [beq_self_eq_true, Bool.true_and, decide_eq_true_eq]
   show t.place.toList.length + 1 <= t.mask
   lia
  by_cases hfull : (t.put (P t.mask (TH prog w k) n).j).1.tooFull = true
  ·rw [hfull]
   simp only [Bool.not_false, Bool.and_self, if_true]
   have hf5 : (t.place.toList.length + 1) * 5 >= t.mask * 3 := by
    unfold SetTable.tooFull at hfull
    rw [hfill] at hfull
    exact of_decide_eq_true hfull
   obtain ⟨M, m1, m2, m3, m4⟩ := zLu T hf5 (by lia)
   refine Qa (zI9 (V := V) hg hex rfl hfit2 hp X2 hnd2 hV2 (M := M) ?_ m2 ?_ ?_ ?_ ?_)
   ·rw [hes, <- hlen]; exact m1
   ·rw [hesz, hes, <- hlen]; exact m3
   ·rw [hes, <- hlen]; exact m4
   ·rw [hesz, Q3]; lia
   ·intro h' ks' hsb' S' pk
    exact Qb (q2 hmem h' ks' (hsb.trans hsb') S' (pk.trans hkp))
  ·rw [Yy] at hfull
   rw [hfull]
   simp only [Bool.and_false, Qp, if_false]
   have hf5 : (t.place.toList.length + 1) * 5 < t.mask * 3 := by
    unfold SetTable.tooFull at hfull
    rw [hfill] at hfull
    have := of_decide_eq_false hfull
    have e : (t.put (P t.mask (TH prog w k) n).j).1.mask = t.mask := rfl
    rw [e] at this
    lia
   have T2 := zNJ T n2 n3 hf5 t.plain
   refine Qa (Qb (Qb (q2 hmem _ _ hsb ⟨_, _, _, _, hg, hex, rfl, ?_, hp, X2, hnd2, hV2⟩ hkp)))
   rw [zBG, Ya, Qo, List.map_take, List.map_drop]
   exact T2
end
end ST
namespace ST
open PySem PySem.SetTable PyProof.Rows
section
variable {prog : Program} {w : World} {A : Around} {R : Result -> Shared -> Prop} {I : Addr} {fp wr : List Addr} {G : Array GenState -> Array GenState -> Prop} {n : Nat} {Pv : Nat -> Value -> Prop} {St : Nat -> Shared -> Prop} {V : Value -> Prop}
theorem TK.at {h h' : Heap} {k : List Int} {b : Addr} (x : TK prog w h k b) (e : ∀ o, h.get? b = some o -> h'.get? b = some o) : TK prog w h' k b := by
 obtain ⟨o, items, n, ho, r⟩ := x
 exact ⟨o, items, n, e o ho, r⟩
theorem SetT.moved {h h' : Heap} {a : Addr} {ks : List (List Int)} (S : SetT prog w V h a ks) (e : ∀ b o, h.get? b = some o -> (b = a ∨ ∃ k, TK prog w h k b) -> h'.get? b = some o) : SetT prog w V h' a ks := by
 obtain ⟨o, es, ep, t, ho, hex, hd, T, hp, X, hnd, hV⟩ := S
 exact ⟨o, es, ep, t, e a o ho (.inl rfl), hex, hd, T, hp, X.mono fun k b x => x.at fun o' ho' => e b o' ho' (.inr ⟨k, x⟩), hnd, hV⟩
def Keys (ks : List (List Int)) (val : Nat -> List Int) (i : Nat) : Prop := ∀ k, k ∈ ks ↔ ∃ j, j < i /\ val j = k
theorem zL3 {ks : List (List Int)} {val : Nat -> List Int} {i : Nat} (h : Keys ks val i) (hn : ks.Nodup) : ks.length <= i := by
 have : ks ⊆ (List.range i).map val := fun k hk => by
  obtain ⟨j, hj, e⟩ := (h k).mp hk
  exact QJ.mpr ⟨j, QO.mpr hj, e⟩
 have := Yo hn this
 simpa using this
theorem SetT.nodup {h : Heap} {a : Addr} {ks : List (List Int)} (S : SetT prog w V h a ks) : ks.Nodup := by
 obtain ⟨o, es, ep, t, ho, hex, hd, T, hp, X, hnd, hV⟩ := S
 exact hnd
theorem zJM (W : WalksS prog w A.in1 I fp wr G n Pv St) (S : Addr) (hSf : S ∉ fp) (hu : A.in1.units < cLine) (val : Nat -> List Int) (s0 : Heap)
  (hold : ∀ b o, s0.get? b = some o -> b ≠ S /\ b ∉ wr) (hval : ∀ i v, i < n -> Pv i v -> V v /\ ∃ b, v = .ref b /\ TK prog w s0 (val i) b) (hb : n <= 75) :
  ∀ (k i : Nat) (s : Shared) (ks : List (List Int)), n - i = k -> i <= n -> St i s -> (∀ b o, s0.get? b = some o -> s.heap.get? b = some o) ->
   SetT prog w (fun v => V v /\ ∃ k b, v = .ref b /\ TK prog w s0 k b) s.heap S ks -> Keys ks val i ->
   (∀ s' ks', Moved (S :: wr) G s s' -> (∀ b o, s0.get? b = some o -> s'.heap.get? b = some o) -> SetT prog w (fun v => V v /\ ∃ k b, v = .ref b /\ TK prog w s0 k b) s'.heap S ks' -> Keys ks' val n -> R (.ok (.ret .none)) s') ->
   codeAny (model prog w) A (.builtin "set.update.loop" ⟨[.ref S, .ref I], []⟩) R s := by
 have hSw : S ∉ wr := fun h => hSf (W.sub _ h)
 have hsub : ∀ b ∈ wr, b ∈ S :: wr := fun b hb => Qe _ hb
 have hmv : ∀ (s s' : Shared) ks, Moved wr G s s' -> (∀ b o, s0.get? b = some o -> s.heap.get? b = some o) -> SetT prog w (fun v => V v /\ ∃ k b, v = .ref b /\ TK prog w s0 k b) s.heap S ks -> SetT prog w (fun v => V v /\ ∃ k b, v = .ref b /\ TK prog w s0 k b) s'.heap S ks := fun s s' ks hm h0 hS => by
  obtain ⟨o, es, ep, t, ho, hex, hd, T, hp, X, hnd, hV⟩ := hS
  refine ⟨o, es, ep, t, hm.heap S _ hSw ho, hex, hd, T, hp, ?_, hnd, hV⟩
  clear hd hex ho T hp
  have : ∀ e ∈ es.toList, ∃ k b, e.2 = .ref b /\ TK prog w s0 k b := fun e he => (hV e he).2
  revert this
  clear hV hnd
  generalize es.toList = l at X
  intro this
  induction X with
  | nil => exact .nil
  | @cons k b es ks h1 hr ih =>
   refine .cons ?_ (ih fun e he => this e (Qe _ he))
   obtain ⟨k', b', e1, e2⟩ := this _ Qf
   have e1' : b = b' := by injection e1
   subst e1'
   obtain ⟨o', items, n', ho', r⟩ := e2
   refine h1.at fun o2 ho2 => ?_
   have := h0 b o' ho'
   rw [ho2] at this
   cases this
   exact hm.heap b _ (hold b _ ho').2 (h0 b _ ho')
 intro k
 induction k with
 | zero =>
  intro i s ks hk hi hst h0 hS hK hR
  have hin : i = n := by lia
  subst hin
  refine Y0 F.entry_set_update_loop ?_
  rw [Y5 Je _]
  show wpAny _ A.in1 (pyNext (.ref I) >>= _) _ _ s
  refine Qa (W.done s _ _ hst fun s' hm => ?_)
  show wpAny _ A.in1 (ret Value.none) _ _ s'
  exact Qb (hR s' ks (hm.mono hsub) (fun b o e => hm.heap b o (hold b o e).2 (h0 b o e)) (hmv s s' ks hm h0 hS) hK)
 | succ k ih =>
  intro i s ks hk hi hst h0 hS hK hR
  have hlt : i < n := by lia
  refine Y0 F.entry_set_update_loop ?_
  rw [Y5 Je _]
  show wpAny _ A.in1 (pyNext (.ref I) >>= _) _ _ s
  refine Qa (W.item i s _ _ hlt hst fun v s' hP hst' hm => ?_)
  obtain ⟨hVv, b, rfl, hb0⟩ := hval i v hlt hP
  have h0' : ∀ b o, s0.get? b = some o -> s'.heap.get? b = some o := fun b o e => hm.heap b o (hold b o e).2 (h0 b o e)
  have hb1 : TK prog w s'.heap (val i) b := hb0.at fun o e => h0' b o e
  have hS' := hmv s s' ks hm h0 hS
  show wpAny _ A.in1 (holding [Value.ref b] (setAdd S (.ref b)) >>= _) _ _ s'
  refine Qa (Q8 ?_)
  unfold setAdd
  refine Q8 ?_
  refine Qa (wpAny_pyHash_tuple hu hb1 ?_)
  have hlen := zL3 hK hS.nodup
  have hmoved : ∀ (h' : Heap) (tk : Nat), s'.toks <= tk -> Heap.SameBut S s'.heap h' -> Moved (S :: wr) G s { s' with heap := h', toks := tk } := fun h' tk htk hsb =>
   (hm.mono hsub).then_heap htk fun b o hb e => by rw [hsb.2 b (fun h : b = S => hb (by rw [h]; exact Qf))]; exact e
  refine zGK (V := fun v => V v /\ ∃ k b, v = .ref b /\ TK prog w s0 k b) (s := { s' with toks := s'.toks + ((val i).length + 1) }) hu hS' hb1 ⟨hVv, val i, b, rfl, hb0⟩ (by lia) ?_ ?_
  ·intro hmem
   refine Qb ⟨plainId_quiet Je _, ih (i + 1) _ ks (by lia) hlt (W.frame _ s' s'.heap _ hst' (Yn _ _) fun b hb o e => e) h0' hS' ?_ fun s'' ks'' hm'' h0'' hS'' hK'' => ?_⟩
   ·intro k'
    rw [hK k']
    constructor
    ·rintro ⟨j, hj, e⟩; exact ⟨j, by lia, e⟩
    ·rintro ⟨j, hj, e⟩
     by_cases c : j = i
     ·subst c; subst e; exact (hK _).mp hmem
     ·exact ⟨j, by lia, e⟩
   ·exact hR s'' ks'' (Moved.trans W.gtrans (hmoved s'.heap _ (Yn _ _) (Heap.SameBut.refl S _)) hm'') h0'' hS'' hK''
  ·intro hmem h' ks' hsb hS2 hp
   have h02 : ∀ b o, s0.get? b = some o -> h'.get? b = some o := fun b o e => by
    rw [hsb.2 b (hold b o e).1]; exact h0' b o e
   refine Qb ⟨plainId_quiet Je _, ih (i + 1) _ ks' (by lia) hlt (W.frame _ s' _ _ hst' (Yn _ _) fun b hb o e => ?_) h02 hS2 ?_ fun s'' ks'' hm'' h0'' hS'' hK'' => ?_⟩
   ·rw [hsb.2 b (fun h : b = S => hSf (by rw [<- h]; exact hb))]; exact e
   ·intro k'
    rw [hp.mem_iff, Qk, hK k']
    constructor
    ·rintro (rfl | ⟨j, hj, e⟩)
     ·exact ⟨i, by lia, rfl⟩
     ·exact ⟨j, by lia, e⟩
    ·rintro ⟨j, hj, e⟩
     by_cases c : j = i
     ·subst c; exact .inl e.symm
     ·exact .inr ⟨j, by lia, e⟩
   ·exact hR s'' ks'' (Moved.trans W.gtrans (hmoved h' _ (Yn _ _) hsb) hm'') h0'' hS'' hK''
end
section
variable {prog : Program} {w : World} {A : Around} {E : Value -> Shared -> Prop} {s : Shared}
theorem zIA (a : Value) {Q₁ : Value -> Shared -> Prop}
  (h : Q₁ (.ref s.heap.objs.size) { s with heap := s.heap.push { cls := .type "set", dict := none, data := .set #[] 0 (.fresh 0 0 (ledW w)) } }) :
  codeAny (model prog w) A (.call (.builtin "set.__new__") ⟨[.type "set", a], []⟩) (wants Q₁ E) s := by
 refine codeAny_of_tree ?_
 show wpAny _ A.in1 (checkBuiltinCall "set.__new__" ⟨[.type "set", a], []⟩ >>= fun _ => again (.builtin "set.__new__" ⟨[.type "set", a], []⟩)) _ _ s
 refine Qa (wpAny_of_eq (F.newCall_set_1 a) (Qb ⟨plainId_quiet F.plain_set_new _, Y0 F.entry_set_new ?_⟩))
 rw [Y5 F.plain_set_new _]
 unfold Builtin.«set.__new__» Builtin.Frozenset.newClass
 have hsub := sub_set_self
 obtain ⟨hp, g, d, tk, os⟩ := s
 dsimp only
 wp_walk
 refine wpAny_askSetting (Qb ?_)
 dsimp only
 simp only [newObj]
 refine Qa (wpAny_alloc (Qb ?_))
 exact Qb h
theorem zOs : isSubtype (.type "tuple") (.type "set") = pure false := by rw [isSubtype_type]; kernel_rfl
theorem zOr : isSubtype (.type "tuple") (.type "frozenset") = pure false := by rw [isSubtype_type]; kernel_rfl
end
section
variable {prog : Program} {w : World} {A : Around} {E : Value -> Shared -> Prop} {s : Shared} {V : Value -> Prop}
theorem zKn {l : Addr} {items : Array Value} {kl : List (List Int)} {Q : Value -> Shared -> Prop}
  (hh : A.handled = none) (hu : A.units + 8 < cLine) (hl : s.heap.IsList l items) (hi : ∀ i v, items[i]? = some v -> V v /\ ∃ b, v = .ref b /\ TK prog w s.heap (kl.getD i []) b) (hb : items.size <= 75)
  (h : ∀ (h' : Heap) (tk : Nat) ks, SetT prog w V h' s.heap.objs.size ks -> Keys ks (fun i => kl.getD i []) items.size ->
   (∀ b o, s.heap.get? b = some o -> h'.get? b = some o) -> Q (.ref s.heap.objs.size) { s with heap := h', toks := tk }) :
  wpAny (model prog w) A (call (.type "set") [.ref l]) Q E s := by
 obtain ⟨c, tl, hmro⟩ := F.called_set.mro
 have hmade := F.called_set.made
 have hsub := F.called_set.sub
 refine wpAny_call (codeAny_of_tree ?_)
 show wpAny _ _ (callAny (.type "set") _) _ _ _
 refine Qb ⟨Code.quiet_builtin _ (by decide +kernel), Y0 F.entry_type_call ?_⟩
 rw [Around.under_plain (weight_type_call_type "set" [.ref l] []) rfl]
 have h1 := F.called_set.notType
 have h2 := F.called_set.canCreate
 have hct := F.typeCall_set_1 (.ref l)
 repeat (any_goals (first | assumption | wp_step))
 refine Y1 (zIA (.ref l) (E := E) (Q₁ := fun obj s₁ => obj = .ref s.heap.objs.size /\ s₁ = { s with heap := s.heap.push { cls := .type "set", dict := none, data := .set #[] 0 (.fresh 0 0 (ledW w)) } }) ⟨rfl, rfl⟩) fun r s₁ hr => ?_
 cases r with
 | error e => exact hr
 | ok fl =>
  cases fl with
  | ret obj =>
   obtain ⟨rfl, rfl⟩ := hr
   have hS : (s.heap.push { cls := .type "set", dict := none, data := .set #[] 0 (.fresh 0 0 (ledW w)) }).get? s.heap.objs.size = some { cls := .type "set", dict := none, data := .set #[] 0 (.fresh 0 0 (ledW w)) } := Qt _ rfl
   have hT : Shared.TypeIs { s with heap := s.heap.push { cls := .type "set", dict := none, data := .set #[] 0 (.fresh 0 0 (ledW w)) } } (.ref s.heap.objs.size) "set" := ⟨_, hS, rfl⟩
   have hli := F.called_set.init.lookup
   have hbi := F.called_set.init.bind (.ref s.heap.objs.size)
   repeat (any_goals (first | assumption | wp_step))
   refine Y1 (codeAny_call_builtin (R := wants (fun r s₂ => r = .none /\ ∃ h' tk ks, s₂ = { s with heap := h', toks := tk } /\
     SetT prog w V h' s.heap.objs.size ks /\ Keys ks (fun i => kl.getD i []) items.size /\
     (∀ b o, s.heap.get? b = some o -> h'.get? b = some o)) E) F.called_set.init.plain F.entry_set_init (check_set_init_1 hT ?_)) fun r₂ s₂ hr₂ => ?_
   ·obtain ⟨ol, hol, hcl, nl, hdl⟩ := hl
    obtain ⟨ocls, odict, odata, oslots⟩ := ol
    simp only at hcl hdl
    subst hcl; subst hdl
    have hol' : (s.heap.push { cls := .type "set", dict := none, data := .set #[] 0 (.fresh 0 0 (ledW w)) }).get? l = some { cls := .type "list", dict := odict, data := .seq items nl, slots := oslots } := Qc _ hol
    have hsls := F.sub_list_set
    have hslf := F.sub_list_frozenset
    have hne : (Value.type "list" == Value.type "dict") = false := by decide
    have hl1 : (s.heap.push { cls := .type "set", dict := none, data := .set #[] 0 (.fresh 0 0 (ledW w)) }).IsList l items := ⟨_, hol', rfl, nl, rfl⟩
    unfold Builtin.«set.__init__» noKeywords Builtin.Frozenset.updateFrom
    generalize hPI : pyIter = PI
    wp_walk
    subst hPI
    refine wpAny_pyIter_list hl1 ?_
    refine Qa (wpAny_runValue ?_)
    have hlS : l < s.heap.objs.size := Qm hol
    have hh3 : A.in1.in1.in1.handled = none := by simp [hh]
    have hneI : l ≠ (s.heap.push { cls := .type "set", dict := none, data := .set #[] 0 (.fresh 0 0 (ledW w)) }).objs.size := by
     rw [Jc]; exact Qy (Nat.lt_succ_of_lt hlS)
    have hSf : s.heap.objs.size ∉ [(s.heap.push { cls := .type "set", dict := none, data := .set #[] 0 (.fresh 0 0 (ledW w)) }).objs.size, l] := by
     rw [Jc]; simp only [Qk, Qq, List.not_mem_nil, or_false, not_or]
     exact ⟨Qy (Nat.lt_succ_self _), YQ hlS⟩
    have hunits : A.in1.in1.in1.units < cLine := by
     show A.units + 1 + 1 + 1 < cLine
     lia
    refine zJM (V := V) ((Walks.list hh3 _ l hneI items).toS) s.heap.objs.size
     hSf hunits (fun i => kl.getD i []) s.heap (fun b o e => ?_) (fun i v _ hv => hi i v hv) hb (items.size - 0) 0 _ [] (by lia) (QU _)
     ⟨⟨_, Qt _ rfl, rfl, rfl⟩, (hl1.push _)⟩ (fun b o e => ?_) ?hS0 ?hK0 ?hR
    ·have hlt : b < s.heap.objs.size := Qm e
     refine ⟨Qy hlt, fun hm => ?_⟩
     rw [Jc] at hm
     have : b = s.heap.objs.size + 1 := Qq.mp hm
     rw [this] at hlt
     exact absurd hlt (Nat.not_lt.mpr (Nat.le_succ _))
    ·exact Qc _ (Qc _ e)
    case hS0 =>
     have hget : ((s.heap.push { cls := .type "set", dict := none, data := .set #[] 0 (.fresh 0 0 (ledW w)) }).push { cls := .type "list_iterator", data := .fields #[.ref l, .int 0 0] }).get? s.heap.objs.size
       = some { cls := .type "set", dict := none, data := .set #[] 0 (.fresh 0 0 (ledW w)) } := Qc _ hS
     exact ⟨_, #[], 0, _, hget, ⟨rfl, rfl, rfl⟩, rfl, ⟨.inl rfl, rfl, rfl, List.Pairwise.nil, fun x hx => by simp [SetTable.fresh] at hx, (by show 0 * 5 < 7 * 3; decide), fun q hq => by simp at hq⟩, ⟨rfl, rfl⟩, .nil, Jq, fun e he => by simp at he⟩
    case hK0 =>
     intro k
     simp
    case hR =>
     intro s' ks hm h0 hS' hK
     obtain ⟨h', g', d', tk', os'⟩ := s'
     have eg : g' = s.gens := hm.gens
     have ed : d' = s.drawn := hm.drawn
     have eo : os' = s.os := hm.os
     subst eg; subst ed; subst eo
     show wpAny _ _ _ _ _ _
     refine Qb ?_
     show wpAny _ _ (ret Value.none) _ _ _
     obtain ⟨o', es', ep', t', z1, z2, z3, z4, z5, z6, z7, z8⟩ := hS'
     exact Qb ⟨rfl, h', tk', ks, rfl, ⟨o', es', ep', t', z1, z2, z3, z4, z5, z6, z7, fun e he => (z8 e he).1⟩, hK, fun b o e => h0 b o e⟩
   ·cases r₂ with
    | error e => exact hr₂
    | ok fl₂ =>
     cases fl₂ with
     | ret r =>
      obtain ⟨rfl, h', tk, ks, rfl, hS', hK', hk'⟩ := hr₂
      repeat (any_goals (first | assumption | wp_step))
      exact h _ _ _ hS' hK' hk'
     | _ => exact hr₂.elim
  | _ => exact hr.elim
theorem zKm {l : Addr} {items : Array Value} {kl : List (List Int)} {Q : Value -> Shared -> Prop}
  (hh : A.handled = none) (hu : A.units + 8 < cLine) (hl : s.heap.IsTuple l items) (hi : ∀ i v, items[i]? = some v -> V v /\ ∃ b, v = .ref b /\ TK prog w s.heap (kl.getD i []) b) (hb : items.size <= 75)
  (h : ∀ (h' : Heap) (tk : Nat) ks, SetT prog w V h' s.heap.objs.size ks -> Keys ks (fun i => kl.getD i []) items.size ->
   (∀ b o, s.heap.get? b = some o -> h'.get? b = some o) -> Q (.ref s.heap.objs.size) { s with heap := h', toks := tk }) :
  wpAny (model prog w) A (call (.type "set") [.ref l]) Q E s := by
 obtain ⟨c, tl, hmro⟩ := F.called_set.mro
 have hmade := F.called_set.made
 have hsub := F.called_set.sub
 refine wpAny_call (codeAny_of_tree ?_)
 show wpAny _ _ (callAny (.type "set") _) _ _ _
 refine Qb ⟨Code.quiet_builtin _ (by decide +kernel), Y0 F.entry_type_call ?_⟩
 rw [Around.under_plain (weight_type_call_type "set" [.ref l] []) rfl]
 have h1 := F.called_set.notType
 have h2 := F.called_set.canCreate
 have hct := F.typeCall_set_1 (.ref l)
 repeat (any_goals (first | assumption | wp_step))
 refine Y1 (zIA (.ref l) (E := E) (Q₁ := fun obj s₁ => obj = .ref s.heap.objs.size /\ s₁ = { s with heap := s.heap.push { cls := .type "set", dict := none, data := .set #[] 0 (.fresh 0 0 (ledW w)) } }) ⟨rfl, rfl⟩) fun r s₁ hr => ?_
 cases r with
 | error e => exact hr
 | ok fl =>
  cases fl with
  | ret obj =>
   obtain ⟨rfl, rfl⟩ := hr
   have hS : (s.heap.push { cls := .type "set", dict := none, data := .set #[] 0 (.fresh 0 0 (ledW w)) }).get? s.heap.objs.size = some { cls := .type "set", dict := none, data := .set #[] 0 (.fresh 0 0 (ledW w)) } := Qt _ rfl
   have hT : Shared.TypeIs { s with heap := s.heap.push { cls := .type "set", dict := none, data := .set #[] 0 (.fresh 0 0 (ledW w)) } } (.ref s.heap.objs.size) "set" := ⟨_, hS, rfl⟩
   have hli := F.called_set.init.lookup
   have hbi := F.called_set.init.bind (.ref s.heap.objs.size)
   repeat (any_goals (first | assumption | wp_step))
   refine Y1 (codeAny_call_builtin (R := wants (fun r s₂ => r = .none /\ ∃ h' tk ks, s₂ = { s with heap := h', toks := tk } /\
     SetT prog w V h' s.heap.objs.size ks /\ Keys ks (fun i => kl.getD i []) items.size /\
     (∀ b o, s.heap.get? b = some o -> h'.get? b = some o)) E) F.called_set.init.plain F.entry_set_init (check_set_init_1 hT ?_)) fun r₂ s₂ hr₂ => ?_
   ·obtain ⟨ol, hol, hcl, nl, hdl⟩ := hl
    obtain ⟨ocls, odict, odata, oslots⟩ := ol
    simp only at hcl hdl
    subst hcl; subst hdl
    have hol' : (s.heap.push { cls := .type "set", dict := none, data := .set #[] 0 (.fresh 0 0 (ledW w)) }).get? l = some { cls := .type "tuple", dict := odict, data := .seq items nl, slots := oslots } := Qc _ hol
    have hsls := zOs
    have hslf := zOr
    have hne : (Value.type "tuple" == Value.type "dict") = false := by decide
    have hl1 : (s.heap.push { cls := .type "set", dict := none, data := .set #[] 0 (.fresh 0 0 (ledW w)) }).IsTuple l items := ⟨_, hol', rfl, nl, rfl⟩
    unfold Builtin.«set.__init__» noKeywords Builtin.Frozenset.updateFrom
    generalize hPI : pyIter = PI
    wp_walk
    subst hPI
    refine wpAny_pyIter_tuple hl1 ?_
    refine Qa (wpAny_runValue ?_)
    have hlS : l < s.heap.objs.size := Qm hol
    have hh3 : A.in1.in1.in1.handled = none := by simp [hh]
    have hneI : l ≠ (s.heap.push { cls := .type "set", dict := none, data := .set #[] 0 (.fresh 0 0 (ledW w)) }).objs.size := by
     rw [Jc]; exact Qy (Nat.lt_succ_of_lt hlS)
    have hSf : s.heap.objs.size ∉ [(s.heap.push { cls := .type "set", dict := none, data := .set #[] 0 (.fresh 0 0 (ledW w)) }).objs.size, l] := by
     rw [Jc]; simp only [Qk, Qq, List.not_mem_nil, or_false, not_or]
     exact ⟨Qy (Nat.lt_succ_self _), YQ hlS⟩
    have hunits : A.in1.in1.in1.units < cLine := by
     show A.units + 1 + 1 + 1 < cLine
     lia
    refine zJM (V := V) ((Walks.tuple hh3 _ l hneI items).toS) s.heap.objs.size
     hSf hunits (fun i => kl.getD i []) s.heap (fun b o e => ?_) (fun i v _ hv => hi i v hv) hb (items.size - 0) 0 _ [] (by lia) (QU _)
     ⟨⟨_, Qt _ rfl, rfl, rfl⟩, (hl1.push _)⟩ (fun b o e => ?_) ?hS0 ?hK0 ?hR
    ·have hlt : b < s.heap.objs.size := Qm e
     refine ⟨Qy hlt, fun hm => ?_⟩
     rw [Jc] at hm
     have : b = s.heap.objs.size + 1 := Qq.mp hm
     rw [this] at hlt
     exact absurd hlt (Nat.not_lt.mpr (Nat.le_succ _))
    ·exact Qc _ (Qc _ e)
    case hS0 =>
     have hget : ((s.heap.push { cls := .type "set", dict := none, data := .set #[] 0 (.fresh 0 0 (ledW w)) }).push { cls := .type "tuple_iterator", data := .fields #[.ref l, .int 0 0] }).get? s.heap.objs.size
       = some { cls := .type "set", dict := none, data := .set #[] 0 (.fresh 0 0 (ledW w)) } := Qc _ hS
     exact ⟨_, #[], 0, _, hget, ⟨rfl, rfl, rfl⟩, rfl, ⟨.inl rfl, rfl, rfl, List.Pairwise.nil, fun x hx => by simp [SetTable.fresh] at hx, (by show 0 * 5 < 7 * 3; decide), fun q hq => by simp at hq⟩, ⟨rfl, rfl⟩, .nil, Jq, fun e he => by simp at he⟩
    case hK0 =>
     intro k
     simp
    case hR =>
     intro s' ks hm h0 hS' hK
     obtain ⟨h', g', d', tk', os'⟩ := s'
     have eg : g' = s.gens := hm.gens
     have ed : d' = s.drawn := hm.drawn
     have eo : os' = s.os := hm.os
     subst eg; subst ed; subst eo
     show wpAny _ _ _ _ _ _
     refine Qb ?_
     show wpAny _ _ (ret Value.none) _ _ _
     obtain ⟨o', es', ep', t', z1, z2, z3, z4, z5, z6, z7, z8⟩ := hS'
     exact Qb ⟨rfl, h', tk', ks, rfl, ⟨o', es', ep', t', z1, z2, z3, z4, z5, z6, z7, fun e he => (z8 e he).1⟩, hK, fun b o e => h0 b o e⟩
   ·cases r₂ with
    | error e => exact hr₂
    | ok fl₂ =>
     cases fl₂ with
     | ret r =>
      obtain ⟨rfl, h', tk, ks, rfl, hS', hK', hk'⟩ := hr₂
      repeat (any_goals (first | assumption | wp_step))
      exact h _ _ _ hS' hK' hk'
     | _ => exact hr₂.elim
  | _ => exact hr.elim
end
end ST
namespace SL
open PySem PySem.Spec PyProof.Rows L2 CL DL SD ST
section
variable {X : Cx} {pins : List (Addr × Obj)} {σ : L2.St} {H : Hp} {s : Shared}
theorem zBi (I : Inv X pins σ H s) {b : Addr} {k : List Int} (h : SqT X.K H b (k.map V.int)) : TK X.prog X.w s.heap k b := by
 obtain ⟨its, rv, it, hz⟩ := I.tuple h
 obtain ⟨o, h1, h2, n, h3⟩ := it
 refine ⟨o, its.toArray, n, h1, h2, h3, ?_⟩
 show ItemsAre (intKind X.prog X.w) k its
 clear h h3 h1 h2 hz
 generalize hxs : k.map V.int = xs at rv
 induction rv generalizing k with
 | nil =>
  cases k with
  | nil => exact .nil
  | cons _ _ => simp at hxs
 | @cons x u xs us r t ih =>
  cases k with
  | nil => simp at hxs
  | cons i k =>
   rw [Qo, List.cons.injEq] at hxs
   obtain ⟨e1, e2⟩ := hxs
   subst e1
   obtain ⟨tk, rfl⟩ := r
   exact .cons (intKind_is _ _ _ _) (ih e2)
abbrev KsK := List (List Int) -> Hp -> Prop
abbrev TSt := L2.St -> Hp -> KsK -> Prop
def StP (X : Cx) (pins : List (Addr × Obj)) (σ : L2.St) (Q : KsK) (u : Value) (s' : Shared) : Prop :=
 ∃ a o ks H', u = .ref a /\ Inv X ((a, o) :: pins) σ H' s' /\ SetT X.prog X.w (fun v => ∃ b, ∃ xs : List Int, v = .ref b /\ SqT X.K H' b (xs.map V.int)) s'.heap a ks /\ (∀ p ∈ pins, p.1 ≠ a) /\ Q ks H'
def PSt (X : Cx) (e : Expr) (t : TSt) : Prop :=
 ∀ (pins : List (Addr × Obj)) (s : Shared) (σ : L2.St) (H : Hp) (Q : KsK), Inv X pins σ H s -> t σ H Q -> wpAny (model X.prog X.w) X.A (eval e X.env) (StP X pins σ Q) X.xe s
def tSet (K : PySem.W.Frag) (t : TA) : TSt := fun σ H Q => t σ H fun vs H1 => ∃ (a : Addr) (xs : List V) (kl : List (List Int)), vs = [.ref a] /\ (SqL K H1 a xs ∨ SqT K H1 a xs) /\ xs.length <= 75 /\ xs.length = kl.length /\ (∀ (i : Nat) (x : V), xs[i]? = some x -> ∃ b, x = .ref b /\ SqT K H1 b ((kl.getD i []).map V.int)) /\ ∀ ks : List (List Int), ks.Nodup -> (∀ k, k ∈ ks ↔ k ∈ kl) -> Q ks H1
theorem zCk {x : Str} {e : Expr} {p pos : Pos} {t : TA} (hc : X.calm = true) (hu : X.A.units + 64 < cLine) (hg : Gl X x) (hm : X.mg x = none) (hv : bootBuiltins x = some (.type "set")) (ha : PA X [e] t) (hn : x ≠ "__name__" := by decide) (hdb : (x == ("__debug__" : Str)) = false := by decide)
  (he : starEach [e] X.env = (false, eval e X.env) :: starEach [] X.env := by rfl) (hpl : (backTo pos (starEach [] X.env)).any (·.1) = false := by rfl) :
  PSt X (.Call (.Name x p) [e] [] pos) (tSet X.K t) := by
 intro pins s σ H Q I h
 refine YT (zCc I hg hm hv ?_ hn hdb)
 refine YR (thn (ha pos pins s σ H _ I h) fun us s1 ⟨vs, H1, I1, r1, q1⟩ => ?_) he hpl
 obtain ⟨a, xs, kl, rfl, hq, h75, hlen, hks, q⟩ := q1
 obtain ⟨u, rfl, ru⟩ := zBU r1
 cases ru
 have go : ∀ its : List Value, Vals xs its -> (∀ (kl' : List (List Int)) (Q' : Value -> Shared -> Prop), (∀ i v, its.toArray[i]? = some v -> (∃ b, ∃ xs : List Int, v = .ref b /\ SqT X.K H1 b (xs.map V.int)) /\ ∃ b, v = .ref b /\ TK X.prog X.w s1.heap (kl'.getD i []) b) ->
   its.toArray.size <= 75 -> (∀ (h' : Heap) (tk : Nat) ks, SetT X.prog X.w (fun v => ∃ b, ∃ xs : List Int, v = .ref b /\ SqT X.K H1 b (xs.map V.int)) h' s1.heap.objs.size ks -> Keys ks (fun i => kl'.getD i []) its.toArray.size ->
   (∀ b o, s1.heap.get? b = some o -> h'.get? b = some o) -> Q' (.ref s1.heap.objs.size) { s1 with heap := h', toks := tk }) -> wpAny (model X.prog X.w) X.A (call (.type "set") [.ref a]) Q' X.xe s1) ->
   wpAny (model X.prog X.w) X.A (call (.type "set") [.ref a]) (StP X pins σ Q) X.xe s1 := by
  intro its rv cs
  have hsz : its.toArray.size = kl.length := by rw [QF, <- rv.length, hlen]
  refine cs kl _ (fun i v hv => ?_) (by rw [hsz]; lia) fun h' tk ks S' K' keep => ?_
  ·have hv' : its[i]? = some v := by simpa using hv
   have hi : i < xs.length := by
    have := (Qd.mp hv').1
    rw [rv.length]; exact this
   obtain ⟨u, e1, e2⟩ := Vals.get rv (Qg hi)
   rw [hv'] at e1
   cases e1
   obtain ⟨b, e3, e4⟩ := hks i _ (Qg hi)
   rw [e3] at e2
   cases e2
   exact ⟨⟨b, _, rfl, e4⟩, b, rfl, zBi I1 e4⟩
  ·obtain ⟨o, es, ep, t, z1, z2, z3, z4, z5, z6, z7, z8⟩ := S'
   have I2 : Inv X pins σ H1 { s1 with heap := h', toks := tk } := I1.kept keep
   have I3 : Inv X ((s1.heap.objs.size, o) :: pins) σ H1 { s1 with heap := h', toks := tk } := by
    refine I2.pins_of fun p hp => ?_
    rcases Qk.mp hp with rfl | hp
    ·refine ⟨z1, I1.hok.fresh (Qh _), YQ I1.lt, I1.nofs (Qh _), fun v hv => ?_⟩
     rw [z3] at hv
     exact nomatch hv
    ·exact I2.pin p (Qu _ hp)
   refine ⟨_, o, ks, H1, rfl, I3, ⟨o, es, ep, t, z1, z2, z3, z4, z5, z6, z7, z8⟩, fun p hp => Qy (Qm (I1.pin p (Qu _ hp)).1), q ks z7 fun k => (K' k).trans ?_⟩
   rw [hsz]
   constructor
   ·rintro ⟨j, hj, rfl⟩
    show kl.getD j [] ∈ kl
    rw [YX, Qg hj]
    exact YF hj
   ·intro hk
    obtain ⟨j, hj⟩ := QX hk
    refine ⟨j, (Qd.mp hj).1, ?_⟩
    show kl.getD j [] = k
    rw [YX, hj]
    rfl
 rcases hq with hq | hq
 ·obtain ⟨its, rv, pl, _⟩ := I1.list hq
  exact go its rv fun kl' Q' h1 h2 h3 => zKn (kl := kl') (I1.ok.hd hc) (by lia) pl.isList h1 h2 h3
 ·obtain ⟨its, rv, it, hz⟩ := I1.tuple hq
  exact go its rv fun kl' Q' h1 h2 h3 => zKm (kl := kl') (I1.ok.hd hc) (by lia) it h1 h2 h3
end
def zCT : List D -> Option (List (List Int))
 | [] => some []
 | .tuple ds :: r => (zBy ds).bind fun is => (zCT r).bind fun rs => some (is :: rs)
 | _ => none
theorem zJe {K : PySem.W.Frag} {F : Addr -> Prop} {H : Hp} : ∀ {ds : List D} {vs : List V} {kl : List (List Int)}, Reps K F H ds vs -> zCT ds = some kl -> ds.length = kl.length /\ ∀ (i : Nat) (x : V), vs[i]? = some x -> ∃ b, x = .ref b /\ SqT K H b ((kl.getD i []).map V.int) := by
 intro ds
 induction ds with
 | nil => intro vs kl r h; cases r; cases h; exact ⟨rfl, fun i x e => by simp at e⟩
 | cons d ds ih =>
  intro vs kl r h
  cases r with
  | cons r0 r =>
   cases d with
   | tuple xs =>
    cases r0 with
    | tup h1 r1 =>
     obtain ⟨is, e1, h⟩ := bnd h
     obtain ⟨rs, e2, h⟩ := bnd h
     cases h
     obtain ⟨q1, q2⟩ := ih r e2
     refine ⟨by simp [q1], fun i x e => ?_⟩
     cases i with
     | zero =>
      cases e
      refine ⟨_, rfl, ?_⟩
      rw [zD8 r1 e1] at h1
      exact h1
     | succ i => exact q2 i x (by simpa using e)
   | _ => cases h
def tDSt (K : PySem.W.Frag) (g : Rho -> Option (List (List Int))) : TSt := fun σ H Q => TDx K σ H g fun F kl => ∀ F' H' (ks : List (List Int)), Ext F F' H H' -> ks.Nodup -> (∀ k, k ∈ ks ↔ k ∈ kl) -> Q ks H'
def DSt (X : Cx) (e : Expr) (g : Rho -> Option (List (List Int))) : Prop := PSt X e (tDSt X.K g)
def setD : List D -> Option (List (List Int))
 | [.list xs] => if xs.length <= 75 then zCT xs else none
 | [.tuple xs] => if xs.length <= 75 then zCT xs else none
 | _ => none
def eSet (gr : Rho -> Option (List D)) : Rho -> Option (List (List Int)) := fun ρ => (gr ρ).bind setD
def dd : List (List Int) -> List (List Int)
 | [] => []
 | k :: r => if k ∈ r then dd r else k :: dd r
theorem zEh : ∀ {l : List (List Int)} {k : List Int}, k ∈ dd l ↔ k ∈ l
 | [], k => by simp [dd]
 | x :: r, k => by
  unfold dd
  split
  ·rename_i h
   rw [zEh, Qk]
   constructor
   ·exact .inr
   ·rintro (rfl | h')
    ·exact h
    ·exact h'
  ·rw [Qk, Qk, zEh]
theorem zFR : ∀ l : List (List Int), (dd l).Nodup
 | [] => Jq
 | x :: r => by
  unfold dd
  split
  ·exact zFR r
  ·rename_i h
   exact Yl.mpr ⟨fun q => h (zEh.mp q), zFR r⟩
section
variable {X : Cx} {e : Expr} {p pos : Pos} {gr : Rho -> Option (List D)} {g : Rho -> Option (List (List Int))}
theorem ps_mono {e : Expr} {t t' : TSt} (h : PSt X e t) (m : ∀ σ H Q, t' σ H Q -> t σ H Q) : PSt X e t' := fun pins s σ H Q I q => h pins s σ H Q I (m σ H Q q)
theorem zHh {x : Str} (hc : X.calm = true) (hu : X.A.units + 64 < cLine) (hg : Gl X x) (hm : X.mg x = none) (hv : bootBuiltins x = some (.type "set")) (ha : DA X [e] gr) (hn : x ≠ "__name__" := by decide) (hdb : (x == ("__debug__" : Str)) = false := by decide)
  (he : starEach [e] X.env = (false, eval e X.env) :: starEach [] X.env := by rfl) (hpl : (backTo pos (starEach [] X.env)).any (·.1) = false := by rfl) :
  DSt X (.Call (.Name x p) [e] [] pos) (eSet gr) :=
 ps_mono (zCk hc hu hg hm hv ha hn hdb he hpl) fun σ H Q zz => by
  obtain ⟨F, H₀, ρ, kl, S, q, k⟩ := zz
  obtain ⟨ds, e1, q⟩ := bnd q
  refine ⟨F, H₀, ρ, ds, S, e1, fun F1 H1 vs E1 R1 => ?_⟩
  unfold setD at q
  split at q
  ·rename_i xs
   by_cases c : xs.length <= 75
   ·rw [if_pos c] at q
    cases R1 with
    | cons R2 R3 =>
     cases R3
     cases R2 with
     | @lst a us _ h1 r1 =>
      obtain ⟨z1, z2⟩ := zJe r1 q
      exact ⟨a, us, kl, rfl, .inl h1.sq, by rw [<- r1.length]; exact c, by rw [<- r1.length, z1], z2, fun ks hn hk => k F1 H1 ks E1 hn hk⟩
   ·rw [if_neg c] at q; cases q
  ·rename_i xs
   by_cases c : xs.length <= 75
   ·rw [if_pos c] at q
    cases R1 with
    | cons R2 R3 =>
     cases R3
     cases R2 with
     | @tup a us _ h1 r1 =>
      obtain ⟨z1, z2⟩ := zJe r1 q
      exact ⟨a, us, kl, rfl, .inr h1, by rw [<- r1.length]; exact c, by rw [<- r1.length, z1], z2, fun ks hn hk => k F1 H1 ks E1 hn hk⟩
   ·rw [if_neg c] at q; cases q
  ·cases q
end
end SL
namespace PySem.F
theorem set_iter_entry : entryFor table "set.__iter__" = some Builtin.«frozenset.__iter__» :=
 entryFor_alias (id' := "frozenset.__iter__") (by kernel_rfl) rfl (by decide +kernel) (by kernel_rfl)
theorem set_sub_entry : entryFor table "set.__sub__" = some Builtin.«frozenset.__sub__» :=
 entryFor_alias (id' := "frozenset.__sub__") (by kernel_rfl) rfl (by decide +kernel) (by kernel_rfl)
theorem zJs : Manifest.owners.lookup (String.ofList ['r', 'o', 't', 'a', 'r', 'e', 't', 'i', '_', 't', 'e', 's'].reverse) = some Manifest.sig_set_iterator := by kernel_rfl
theorem si_next : Slot "set_iterator" "__next__" "set_iterator.__next__" :=
 .of (owner := "set_iterator") (n := "__next__") (by rw [typeLookup_type, builtinLookup_eq_fast]; kernel_rfl) (by decide +kernel) (by decide +kernel) (by decide +kernel)
  (.inl (by decide +kernel)) (by rw [isSubtype_type]; kernel_rfl)
theorem si_iter : Slot "set_iterator" "__iter__" "set_iterator.__iter__" :=
 .of (owner := "set_iterator") (n := "__iter__") (by rw [typeLookup_type, builtinLookup_eq_fast]; kernel_rfl) (by decide +kernel) (by decide +kernel) (by decide +kernel)
  (.inl (by decide +kernel)) (by rw [isSubtype_type]; kernel_rfl)
theorem si_iter_entry : entryFor table "set_iterator.__iter__" = some Builtin.«dict_keyiterator.__iter__» :=
 entryFor_alias (id' := "dict_keyiterator.__iter__") (by kernel_rfl) rfl (by decide +kernel) (by kernel_rfl)
theorem si_iter_args (a : Value) : argsOk "set_iterator.__iter__" ⟨[a], []⟩ := by
 unfold argsOk; rw [signature?_of (id := "set_iterator.__iter__") (n := ['_', '_', 'r', 'e', 't', 'i', '_', '_']) (o := ['r', 'o', 't', 'a', 'r', 'e', 't', 'i', '_', 't', 'e', 's']) (by kernel_rfl) zJs]; kernel_rfl
theorem si_next_entry : entryFor table "set_iterator.__next__" = some Builtin.«set_iterator.__next__» := entryFor_of_tree (by kernel_rfl)
theorem si_next_args (a : Value) : argsOk "set_iterator.__next__" ⟨[a], []⟩ := by
 unfold argsOk; rw [signature?_of (id := "set_iterator.__next__") (n := ['_', '_', 't', 'x', 'e', 'n', '_', '_']) (o := ['r', 'o', 't', 'a', 'r', 'e', 't', 'i', '_', 't', 'e', 's']) (by kernel_rfl) zJs]; kernel_rfl
end PySem.F
namespace ST
open PySem PySem.SetTable PyProof.Rows
theorem zI0 {α : Type} (next : Nat -> Nat) : ∀ (fuel k : Nat) (left : List α) (out : Array α), left.length = fuel -> List.Perm (pickOrder.go next fuel k left out).toList (out.toList ++ left)
 | 0, k, left, out, h => by
  have : left = [] := List.length_eq_zero_iff.mp h
  subst this
  rw [QW]
  exact .refl _
 | fuel + 1, k, left, out, h => by
  have hl : next k % left.length < left.length := Nat.mod_lt _ (by lia)
  unfold pickOrder.go
  rw [Qg hl]
  dsimp only
  refine (zI0 next fuel (k + 1) _ _ (by rw [List.length_eraseIdx_of_lt hl]; lia)).trans ?_
  rw [Array.toList_push, QM]
  refine List.Perm.append_left _ ?_
  rw [List.eraseIdx_eq_take_drop_succ]
  have e : left = left.take (next k % left.length) ++ left[next k % left.length] :: left.drop (next k % left.length + 1) := by
   rw [<- Yq hl, Yc]
  refine List.Perm.trans ?_ (.of_eq e.symm)
  show List.Perm (left[next k % left.length] :: (left.take (next k % left.length) ++ left.drop (next k % left.length + 1))) _
  exact List.perm_middle.symm
def ordW (w : World) (a ep : Nat) (es : Array (Int × Value)) : Array (Int × Value) := if w.params.followText "set-order" = true then pickOrder (w.params.setOrder a ep) es else es
theorem zCQ (w : World) (a ep : Nat) (es : Array (Int × Value)) : List.Perm (ordW w a ep es).toList es.toList := by
 unfold ordW
 split
 ·exact (zI0 _ es.size 0 es.toList #[] (by simp)).trans (by simp)
 ·exact .refl _
theorem zEo (w : World) (a ep : Nat) (es : Array (Int × Value)) : (ordW w a ep es).size = es.size := by
 have := (zCQ w a ep es).length_eq
 simpa using this
theorem zJ9 (xs : Array Nat) (s : Up xs.toList) : below xs 0 = 0 := by
 obtain ⟨h1, h2, h3⟩ := zCz xs s 0
 by_cases c : below xs 0 = 0
 ·exact c
 ·have hl : 0 < xs.toList.length := by rw [Qr]; lia
  have := h2 0 _ (Qg hl) (by lia)
  lia
theorem zJ8 (xs : Array Nat) (s : Up xs.toList) {i j : Nat} (h : xs.toList[i]? = some j) : below xs (j + 1) = i + 1 := by
 obtain ⟨h1, h2, h3⟩ := zCz xs s (j + 1)
 have hi := (Qd.mp h).1
 rw [Qr] at hi
 by_cases a : below xs (j + 1) <= i
 ·have := h3 i j h a
  lia
 ·by_cases b : below xs (j + 1) = i + 1
  ·exact b
  ·have hl : i + 1 < xs.toList.length := by rw [Qr]; lia
   have e := Qg hl
   have := h2 _ _ e (by lia)
   have := s.at h e (by lia)
   lia
structure zA5 (w : World) (h : Heap) (a : Addr) (o : Obj) (es : Array (Int × Value)) (ep : Nat) (t : SetTable) : Prop where
 get : h.get? a = some o
 ex : o.ExactSet
 data : o.data = .set es ep t
 fits : t.fits es.size = true
 up : Up t.place.toList
 plain : t.plain = true
 led : t.led = ledW w
theorem zA5.at {w : World} {h h' : Heap} {a : Addr} {o : Obj} {es : Array (Int × Value)} {ep : Nat} {t : SetTable} (S : zA5 w h a o es ep t) (e : h'.get? a = some o) : zA5 w h' a o es ep t := ⟨e, S.ex, S.data, S.fits, S.up, S.plain, S.led⟩
def zCy (h : Heap) (I a : Addr) (slot i n ep : Nat) : Prop := ∃ o, h.get? I = some o /\ o.cls = .type "set_iterator" /\ o.data = .fields #[.int slot 0, .int i 0, .ref a, .int n 0, .int ep 0]
section
variable {prog : Program} {w : World} {A : Around} {E : Value -> Shared -> Prop} {s : Shared} {I a : Addr} {o : Obj} {es : Array (Int × Value)} {ep slot i : Nat} {t : SetTable}
theorem zCy.typeIs {n : Nat} (h : zCy s.heap I a slot i n ep) : s.TypeIs (.ref I) "set_iterator" := by
 obtain ⟨o, h1, h2, _⟩ := h
 exact ⟨o, h1, h2⟩
theorem zDQ {Q : Bool -> Shared -> Prop} (h : Q (w.params.followText "set-order") s) : wpAny (model prog w) A setsByText Q E s := by
 unfold setsByText
 exact Qa (wpAny_askSetting (Qb h))
theorem zJQ {Q : Array (Int × Value) -> Shared -> Prop} (S : zA5 w s.heap a o es ep t) (h : Q (ordW w a ep es) s) : wpAny (model prog w) A (setWalk a) Q E s := by
 unfold setWalk
 refine Qa (QI S.get S.data S.fits ?_)
 dsimp only
 refine Qa (zDQ ?_)
 unfold ordW at h
 cases c : w.params.followText "set-order" with
 | true =>
  rw [c, if_pos rfl] at h
  rw [if_pos rfl]
  exact Qa (wpAny_askSetting (Qb h))
 | false =>
  rw [c, if_neg Qw] at h
  rw [if_neg Qw]
  have hd : (!t.plain && decide (es.size > 1)) = false := by rw [S.plain]; rfl
  have hl : (!t.led && decide (es.size > 1)) = false := by rw [S.led, ledW, c]; rfl
  show wpAny _ _ (if (!t.plain && decide (es.size > 1)) = true then _ else _) _ _ s
  rw [hd, if_neg Qw]
  refine Qa ?_
  show wpAny _ _ (if (!t.led && decide (es.size > 1)) = true then _ else _) _ _ s
  rw [hl, if_neg Qw]
  exact Qb (Qb h)
theorem zIC {Q : Option (Value × Nat) -> Shared -> Prop} (S : zA5 w s.heap a o es ep t) (hb : w.params.followText "set-order" = false -> below t.place slot = i)
  (h1 : ∀ x next, (ordW w a ep es)[i]? = some x -> (w.params.followText "set-order" = false -> below t.place next = i + 1) -> Q (some (x.2, next)) s) (h2 : es.size <= i -> Q none s) :
  wpAny (model prog w) A (setNext a slot i ep) Q E s := by
 unfold setNext
 refine Qa (QI S.get S.data S.fits ?_)
 dsimp only
 refine Qa (zDQ ?_)
 cases c : w.params.followText "set-order" with
 | true =>
  rw [if_pos rfl, if_neg (by simp)]
  refine Qa (zJQ S (Qb ?_))
  by_cases l : i < es.size
  ·have l' : i < (ordW w a ep es).size := by rw [zEo]; exact l
   rw [QC l']
   exact h1 _ _ (QC l') fun e => by rw [c] at e; cases e
  ·rw [Yp (by rw [zEo]; lia)]
   exact h2 (by lia)
 | false =>
  rw [if_neg Qw]
  have hd : (!t.plain && decide (es.size > 1)) = false := by rw [S.plain]; rfl
  have hl : (!t.led && !es.isEmpty) = false := by rw [S.led, ledW, c]; rfl
  show wpAny _ _ (if (!t.plain && decide (es.size > 1)) = true then _ else _) _ _ s
  rw [hd, if_neg Qw]
  refine Qa ?_
  show wpAny _ _ (if (!t.led && !es.isEmpty) = true then _ else _) _ _ s
  rw [hl, if_neg Qw]
  refine Qb (Qb ?_)
  have hps : t.place.size = es.size := by
   have := S.fits
   unfold SetTable.fits at this
   rw [QH, beq_iff_eq] at this
   exact this.1
  rw [hb c]
  have ho : ordW w a ep es = es := by unfold ordW; rw [c, if_neg Qw]
  rw [ho] at h1
  by_cases l : i < es.size
  ·have l' : i < t.place.size := by lia
   rw [QC l, QC l']
   refine h1 _ _ (QC l) fun _ => zJ8 _ S.up ?_
   rw [QD, QC l']
  ·rw [Yp (by lia)]
   exact h2 (by lia)
theorem zLQ {Q : Value -> Shared -> Prop} (S : zA5 w s.heap a o es ep t)
  (h : Q (.ref s.heap.objs.size) { s with heap := s.heap.push { cls := .type "set_iterator", data := .fields #[.int 0 0, .int 0 0, .ref a, .int (es.size : Nat) 0, .int (ep : Nat) 0] } }) : wpAny (model prog w) A (pyIter (.ref a)) Q E s := by
 have hT : s.TypeIs (.ref a) "set" := ⟨o, S.get, S.ex.1⟩
 refine wpAny_pyIter_slot hT F.slot_set_iter (Yh F.slot_set_iter hT F.set_iter_entry ?_ (F.args_set_iter_1 _))
 unfold Builtin.«frozenset.__iter__» Builtin.Frozenset.slot0 slotArgs
 simp only [List.isEmpty_nil, YG, Qp, ↓reduceIte, bind_assoc, List.length_nil, bne_self_eq_false]
 unfold Builtin.Frozenset.addrOf Builtin.Frozenset.sizeOf
 refine Qa (Qb ?_)
 refine Qa (Qb ?_)
 refine Qa (Qa (Jv S.get S.data S.fits (Qb ?_)))
 unfold setDrawn
 refine Qa (Qa (QI S.get S.data S.fits ?_))
 dsimp only
 refine Qa (zDQ ?_)
 refine Qb ?_
 have hd : (!(w.params.followText "set-order") && (!t.plain && decide (es.size > 1))) = false := by rw [S.plain]; simp
 show wpAny _ _ (if (!(w.params.followText "set-order") && (!t.plain && decide (es.size > 1))) = true then _ else _) _ _ s
 rw [hd, if_neg Qw]
 refine Qa (Qb ?_)
 unfold setEpoch
 refine Qa (Qa (QI S.get S.data S.fits (Qb ?_)))
 exact Qa (Yd (Qb ⟨_, rfl, "set_iterator", _, ⟨_, Qt _ rfl, rfl⟩, F.si_next.lookup, h⟩))
theorem zMz {Q : Option Value -> Shared -> Prop} (hit : zCy s.heap I a slot i es.size ep) (S : zA5 w s.heap a o es ep t) (hb : w.params.followText "set-order" = false -> below t.place slot = i) (hi : i < es.size)
  (hQ : ∀ x h' next, (ordW w a ep es)[i]? = some x -> (w.params.followText "set-order" = false -> below t.place next = i + 1) -> zCy h' I a next (i + 1) es.size ep -> Heap.SameBut I s.heap h' -> Q (some x.2) { s with heap := h' }) :
  wpAny (model prog w) A (pyNext (.ref I)) Q E s := by
 obtain ⟨oi, hoi, hc, hd⟩ := id hit
 unfold pyNext
 refine Qa (wpAny_attempt (Yx (name := Str.ofString "__next__") hit.typeIs F.si_next
  (Yh F.si_next hit.typeIs F.si_next_entry ?_ (F.si_next_args _))))
 show wpAny _ _ (fieldsOf (.ref I) >>= _) _ _ s
 refine Qa (wpAny_fieldsOf hoi hd ?_)
 dsimp only
 refine Qa (Jv S.get S.data S.fits ?_)
 rw [if_neg (by simp)]
 refine Qa (zIC (i := i) (slot := slot) S hb (fun x next h1 h2 => ?_) fun h => absurd hi (by lia))
 dsimp only
 refine Qa (YH hoi hd (by simp) ?_)
 have h1g := Q1 (Obj.mapFields (·.setIfInBounds 0 (rawInt next))) hoi (YY (Yk hd _))
 have h1d := Yk hd (fun x => x.setIfInBounds 0 (rawInt next))
 refine Qa (YH h1g h1d (by simp) (Qb ⟨_, rfl, Qb (hQ x _ next h1 h2 ?_ ((Q9 ..).trans (Q9 ..)))⟩))
 refine ⟨_, Q1 _ h1g (YY (Yk h1d _)), ((Obj.cls_mapFields ..).trans (Obj.cls_mapFields ..)).trans hc, ?_⟩
 rw [Yk h1d]
 simp [rawInt]
theorem zMy {Q : Option Value -> Shared -> Prop} (hh : A.handled = none) (hit : zCy s.heap I a slot es.size es.size ep) (S : zA5 w s.heap a o es ep t) (hb : w.params.followText "set-order" = false -> below t.place slot = es.size)
  (hQ : ∀ h', Heap.ExtBut I s.heap h' -> Q none { s with heap := h' }) :
  wpAny (model prog w) A (pyNext (.ref I)) Q E s := by
 obtain ⟨oi, hoi, hc, hd⟩ := id hit
 unfold pyNext
 refine Qa (wpAny_attempt (Yx (name := Str.ofString "__next__") hit.typeIs F.si_next
  (Yh F.si_next hit.typeIs F.si_next_entry ?_ (F.si_next_args _))))
 show wpAny _ _ (fieldsOf (.ref I) >>= _) _ _ s
 refine Qa (wpAny_fieldsOf hoi hd ?_)
 dsimp only
 refine Qa (Jv S.get S.data S.fits ?_)
 rw [if_neg (by simp)]
 refine Qa (zIC (i := es.size) (slot := slot) S hb (fun x next h1 h2 => ?_) fun _ => ?_)
 ·rw [Yp (by rw [zEo]; exact Qh _)] at h1
  cases h1
 dsimp only
 refine Qa (YH hoi hd (by simp) ?_)
 show wpAny _ _ (newExc (.type "StopIteration") [] >>= _) _ _ _
 refine Qa ?_
 simp only [newExc, newTuple]
 refine Qa (Yd ?_ (by size_fits))
 refine Qa (m := firstArgMember _ _) (wpAny_of_eq (a := Value.none) (by first | rfl | (simp only [firstArgMember]; rfl)) ?_)
 refine Yd ?_ (by size_fits)
 simp only [raiseNew]
 refine Qa (wpAny_handled ?_)
 first | rw [show A.in1.handled = none from hh] | rw [hh]
 refine Qa (Qb (wpAny_throw ?_))
 refine Qa (Ju (T := "StopIteration") (b := true) ⟨_, Qt _ rfl, rfl⟩ isSubtype_stop ?_)
 exact Qb (hQ _ (((Q9 ..).extBut.push _).push _))
theorem Walks.set {prog : Program} {w : World} {A : Around} (hh : A.handled = none) (I a : Addr) (hne : a ≠ I) (o : Obj) (es : Array (Int × Value)) (ep : Nat) (t : SetTable) :
  Walks prog w A I [I, a] [I] es.size (fun i v => ∃ x, (ordW w a ep es)[i]? = some x /\ v = x.2) (fun i h => ∃ slot, (w.params.followText "set-order" = false -> below t.place slot = i) /\ zCy h I a slot i es.size ep /\ zA5 w h a o es ep t) where
 sub := fun b hb => by simp at hb; simp [hb]
 frame := fun _ _ _ ⟨slot, h1, ⟨oi, h2, h3, h4⟩, S⟩ hk => ⟨slot, h1, ⟨oi, hk I (by simp) _ h2, h3, h4⟩, S.at (hk a (by simp) _ S.get)⟩
 item := fun i s Q E hi ⟨slot, h1, hit, S⟩ hQ =>
  zMz hit S h1 hi fun x h' next e1 e2 e3 e4 => hQ _ h' s.toks ⟨x, e1, rfl⟩ ⟨next, e2, e3, S.at ((e4.2 a hne).trans S.get)⟩ fun b o hb e => e4.extBut b o (fun h => hb (by simp [h])) e
 done := fun s Q E ⟨slot, h1, hit, S⟩ hQ => zMy hh hit S h1 fun h' he' => hQ h' s.toks fun b o hb e => he' b o (fun h => hb (by simp [h])) e
 self := fun i s Q E zz hQ => by
  obtain ⟨slot, h1, hit, S⟩ := zz
  refine wpAny_pyIter_slot hit.typeIs F.si_iter (Yh F.si_iter hit.typeIs F.si_iter_entry ?_ (F.si_iter_args _))
  show wpAny _ _ (ret (.ref I)) _ _ s
  exact Qb ⟨_, rfl, "set_iterator", _, hit.typeIs, F.si_next.lookup, hQ⟩
end
end ST
namespace ST
open PySem PySem.SetTable PyProof.Rows
section
variable {prog : Program} {w : World} {A : Around} {E : Value -> Shared -> Prop} {s : Shared}
theorem zLA {r : Addr} {Q : Bool -> Shared -> Prop} (hT : s.TypeIs (.ref r) "set") (h : Q false s) : wpAny (model prog w) A (Builtin.List.listLengthHint (.ref r)) Q E s := by
 unfold Builtin.List.listLengthHint
 refine Qa (Jl hT PySem.F.slot_set_len.lookup ?_)
 generalize hid : ("set.__len__" : String) = id0
 wp_delta
 rw [show splitId id0 = some ("set", "__len__") from by subst hid; decide +kernel]
 subst hid
 refine Qa (Ju (T := "set") (b := true) hT (by rw [isSubtype_type]; kernel_rfl) ?_)
 refine wpAny_ite_split (fun z => absurd z (by decide)) fun _ => wpAny_ite_split (fun _ => ?_) fun z => absurd (by decide +kernel) z
 exact Qa (Y3 hT (Qb h))
theorem zOm (a : Addr) (o : Obj) (es : Array (Int × Value)) (ep : Nat) (t : SetTable) : PySem.W.KdlSrc prog w "set" a a es.size (fun i v => ∃ x, (ordW w a ep es)[i]? = some x /\ v = x.2) (fun h => zA5 w h a o es ep t) where
 type := fun s S => ⟨o, S.get, S.ex.1⟩
 there := fun h S => ⟨Qm S.get, Qm S.get⟩
 keep := fun h h' S hk => S.at (hk a (.inl rfl) o S.get)
 notList := by decide
 notTuple := by decide
 hint := fun A E s Q S h => zLA ⟨o, S.get, S.ex.1⟩ h
 iter := fun A s hh S => ⟨_, _, fun E Q hQ => zLQ S hQ, Walks.set hh _ a (Qy (Qm S.get)) o es ep t, ⟨0, fun _ => zJ9 _ S.up, ⟨_, Qt _ rfl, rfl, rfl⟩, S.at (Qc _ S.get)⟩⟩
theorem zLP {w : World} {a : Addr} {ep : Nat} {es : Array (Int × Value)} {acc : Array Value} (h : ItemsOf (fun i v => ∃ x, (ordW w a ep es)[i]? = some x /\ v = x.2) acc es.size) : acc.toList = (ordW w a ep es).toList.map (·.2) := by
 refine List.ext_getElem? fun i => ?_
 rw [QP, QD, QD]
 by_cases l : i < es.size
 ·have l' : i < acc.size := by rw [h.1]; exact l
  obtain ⟨x, e1, e2⟩ := h.2 i _ (QC l')
  rw [e1, QC l', e2]
  rfl
 ·rw [Yp (by rw [h.1]; lia), Yp (by rw [zEo]; lia)]
  rfl
theorem Ents.perm {h : Heap} {es es' : List (Int × Value)} (p : List.Perm es es') : ∀ {ks : List (List Int)}, Ents prog w h es ks -> ∃ ks', Ents prog w h es' ks' /\ List.Perm ks' ks := by
 induction p with
 | nil => intro ks X; exact ⟨ks, X, .refl _⟩
 | cons x _ ih =>
  intro ks X
  cases X with
  | cons h1 r =>
   obtain ⟨ks', X', q⟩ := ih r
   exact ⟨_, .cons h1 X', q.cons _⟩
 | swap x y l =>
  intro ks X
  cases X with
  | cons h1 r => cases r with
   | cons h2 r => exact ⟨_, .cons h2 (.cons h1 r), .swap _ _ _⟩
 | trans _ _ ih1 ih2 =>
  intro ks X
  obtain ⟨k1, X1, q1⟩ := ih1 X
  obtain ⟨k2, X2, q2⟩ := ih2 X1
  exact ⟨k2, X2, q2.trans q1⟩
theorem ItemsAre.unique : ∀ {k k' : List Int} {vs : List Value}, ItemsAre (intKind prog w) k vs -> ItemsAre (intKind prog w) k' vs -> k = k'
 | _, _, _, .nil, h => by cases h; rfl
 | _, _, _, .cons h1 r1, h => by
  cases h with
  | cons h2 r2 =>
   obtain ⟨t1, e1⟩ := Value.isInt_shape h1
   obtain ⟨t2, e2⟩ := Value.isInt_shape h2
   rw [e1] at e2
   cases e2
   rw [ItemsAre.unique r1 r2]
theorem TK.unique {h : Heap} {k k' : List Int} {a : Addr} (x : TK prog w h k a) (y : TK prog w h k' a) : k = k' := by
 obtain ⟨o, items, n, ho, _, hd, hi⟩ := x
 obtain ⟨o', items', n', ho', _, hd', hi'⟩ := y
 rw [ho] at ho'
 cases ho'
 rw [hd] at hd'
 cases hd'
 exact ItemsAre.unique hi hi'
def SetV (prog : Program) (w : World) (V : Value -> Prop) (h : Heap) (a : Addr) (o : Obj) (ks : List (List Int)) : Prop :=
 ∃ es ep t, zA5 w h a o es ep t /\ Ents prog w h es.toList ks /\ ks.Nodup /\ ∀ e ∈ es.toList, V e.2
end
end ST
namespace SL
open PySem PySem.Spec PyProof.Rows L2 CL DL SD ST
def tupI (k : List Int) : D := .tuple (k.map PyData.int)
section
variable {X : Cx} {pins : List (Addr × Obj)} {σ : L2.St} {H : Hp} {s : Shared}
abbrev VT (K : PySem.W.Frag) (H : Hp) (v : Value) : Prop := ∃ b, ∃ xs : List Int, v = .ref b /\ SqT K H b (xs.map V.int)
def StV (X : Cx) (pins : List (Addr × Obj)) (σ : L2.St) (Q : KsK) (u : Value) (s' : Shared) : Prop :=
 ∃ a o ks H', u = .ref a /\ Inv X ((a, o) :: pins) σ H' s' /\ SetV X.prog X.w (VT X.K H') s'.heap a o ks /\ Q ks H'
def PSv (X : Cx) (e : Expr) (t : TSt) : Prop :=
 ∀ (pins : List (Addr × Obj)) (s : Shared) (σ : L2.St) (H : Hp) (Q : KsK), Inv X pins σ H s -> t σ H Q -> wpAny (model X.prog X.w) X.A (eval e X.env) (StV X pins σ Q) X.xe s
def DSv (X : Cx) (e : Expr) (g : Rho -> Option (List (List Int))) : Prop := PSv X e (tDSt X.K g)
theorem zHn {F : Addr -> Prop} (I : Inv X pins σ H s) : ∀ {es : List (Int × Value)} {ks : List (List Int)}, Ents X.prog X.w s.heap es ks -> (∀ e ∈ es, VT X.K H e.2) -> ∃ vs : List V, Reps X.K F H (ks.map tupI) vs /\ Vals vs (es.map (·.2))
 | _, _, .nil, _ => ⟨[], .nil, .nil⟩
 | _, _, .cons (k := k) (b := b) h1 r, hv => by
  obtain ⟨vs, r1, r2⟩ := zHn (F := F) I r fun e he => hv e (Qe _ he)
  obtain ⟨b', xs, e1, e2⟩ := hv _ Qf
  cases e1
  have : k = xs := h1.unique (zBi I e2)
  subst this
  exact ⟨.ref b :: vs, .cons (.tup e2 (zCK k)) r1, .cons rfl r2⟩
end
theorem zNY {d0 : List D} {ds ds' : List D} (p : List.Perm ds ds') : ∀ {l : List KD}, zAT d0 ds = some l -> ∃ l', zAT d0 ds' = some l' /\ List.Perm l' l := by
 induction p with
 | nil => intro l h; exact ⟨l, h, .refl _⟩
 | cons x _ ih =>
  intro l h
  obtain ⟨k, e1, h⟩ := bnd h
  obtain ⟨r, e2, h⟩ := bnd h
  cases h
  obtain ⟨l', q1, q2⟩ := ih e2
  exact ⟨(k, x) :: l', by unfold zAT; rw [e1, q1]; rfl, q2.cons _⟩
 | swap x y l0 =>
  intro l h
  obtain ⟨k, e1, h⟩ := bnd h
  obtain ⟨r, e2, h⟩ := bnd h
  cases h
  obtain ⟨k2, e3, h⟩ := bnd e2
  obtain ⟨r2, e4, h⟩ := bnd h
  cases h
  exact ⟨(k2, x) :: (k, y) :: r2, by unfold zAT; rw [e3]; unfold zAT; rw [e1, e4]; rfl, .swap _ _ _⟩
 | trans _ _ ih1 ih2 =>
  intro l h
  obtain ⟨l1, q1, q2⟩ := ih1 h
  obtain ⟨l2, q3, q4⟩ := ih2 q1
  exact ⟨l2, q3, q4.trans q2⟩
theorem zOj {d0 : List D} {ds ds' : List D} {l l' : List KD} (h : zAT d0 ds = some l) (h' : zAT d0 ds' = some l') (p : List.Perm l' l) : zAQ l' = zAQ l := by
 refine zGh (((zCY l').trans p).trans (zCY l).symm) (zDI l') (zDI l) fun a ha b hb e => ?_
 have r := (zF7 h').2
 have h1 := r a ((zCY l').mem_iff.mp ha)
 have h2 := r b ((zCY l').mem_iff.mp hb)
 rw [e] at h1
 exact Jk e (zCn h1 h2)
def zE5 (g : Rho -> Option (List (List Int))) : Rho -> Option D := fun ρ => (g ρ).bind fun kl => zB5 [.list ((dd kl).map tupI)]
section
variable {X : Cx} {e : Expr} {p pos : Pos} {g : Rho -> Option (List (List Int))}
theorem zKQ {x : Str} (hc : X.calm = true) (hu : X.A.units + 66 < cLine) (hg : Gl X x) (hm : X.mg x = none) (hv : bootBuiltins x = some (.builtin "sorted")) (ha : DSv X e g) (hn : x ≠ "__name__" := by decide) (hdb : (x == ("__debug__" : Str)) = false := by decide)
  (he : starEach [e] X.env = (false, eval e X.env) :: starEach [] X.env := by rfl) (hpl : (backTo pos (starEach [] X.env)).any (·.1) = false := by rfl) :
  DE X (.Call (.Name x p) [e] [] pos) (zE5 g) := by
 intro pins s σ H Q I ⟨F, H₀, ρ, d, S, q, k⟩
 obtain ⟨kl, e1, q⟩ := bnd q
 refine YT (zCc I hg hm hv ?_ hn hdb)
 refine PyProof.Rows.callWith_builtin1 (Q := ?_) ?_ he hpl
 rw [he]
 show wpAny _ _ (spliced ((false, eval e X.env) :: backTo pos (starEach [] X.env))) _ _ s
 refine Calls.spliced_cons (thn (ha pins s σ H (fun ks H1 => ks.Nodup /\ (∀ k, k ∈ ks ↔ k ∈ kl) /\ ∃ F1, Ext F F1 H H1) I ⟨F, H₀, ρ, kl, S, e1, fun F1 H1 ks E1 n1 m1 => ⟨n1, m1, F1, E1⟩⟩) fun u s1 zz => ?_)
 obtain ⟨a, o, ks, H1, eu, I1, ⟨es, ep, t, S1, X1, n1, v1⟩, _, m1, F1, E1⟩ := zz
 refine Calls.spliced_nil ?_
 subst eu
 refine Calls.call_function_entry kind_sorted plain_sorted entry_sorted (args_sorted1 _) ?_
 unfold Builtin.«sorted»
 have pk : List.Perm ks (dd kl) := (List.perm_ext_iff_of_nodup n1 (zFR kl)).mpr fun k => (m1 k).trans zEh.symm
 have hlen : es.size = (dd kl).length := by rw [<- Qr, X1.length, pk.length_eq]
 have l64 : (dd kl).length < 64 := by
  cases c : dd kl with
  | nil => decide
  | cons k0 kr =>
   rw [c] at q
   have q' : (if (kr.map tupI).length < 63 then _ else none) = some d := q
   by_cases z : (kr.map tupI).length < 63
   ·rw [Qj] at z; simp; lia
   ·rw [if_neg z] at q'; cases q'
 refine Qa (m := checkCount "sorted" 1 1 _) (Qb (Qa (PySem.W.kdu_collect (zOm a o es ep t) (by simp [I1.ok.hd hc]) S1 (zAR (by lia)) fun h' tk acc hk hacc => ?_)))
 have I2 : Inv X pins σ H1 { s1 with heap := h', toks := tk } := (I1.pins_of fun p hp => I1.pin p (Qu _ (Qe _ hp))).kept hk
 obtain ⟨ks', X2, p2⟩ := (X1.mono fun k b x => x.at fun o e => hk b o e).perm (zCQ X.w a ep es).symm
 obtain ⟨vs, r1, r2⟩ := zHn (F := F1) I2 X2 fun e he => v1 e ((zCQ X.w a ep es).mem_iff.mp he)
 rw [<- zLP hacc] at r2
 have form : ∃ d0 l, zAT d0 ((dd kl).map tupI) = some l /\ d = .list ((zAQ l).map (·.2)) := by
  cases c : dd kl with
  | nil => rw [c] at q; cases q; exact ⟨[], [], rfl, rfl⟩
  | cons k0 kr =>
   rw [c] at q
   have q' : (if (kr.map tupI).length < 63 then (zAT (k0.map PyData.int) ((k0 :: kr).map tupI)).bind fun l => some (PyData.list ((zAQ l).map (·.2))) else none) = some d := q
   by_cases z : (kr.map tupI).length < 63
   ·rw [if_pos z] at q'
    obtain ⟨l, e2, q'⟩ := bnd q'
    cases q'
    exact ⟨_, l, e2, rfl⟩
   ·rw [if_neg z] at q'; cases q'
 obtain ⟨d0, l, f1, rfl⟩ := form
 obtain ⟨l', f2, f3⟩ := zNY ((p2.trans pk).map tupI).symm f1
 refine zJx hu I2 r2 r1 f2 (by rw [Qj, (p2.trans pk).length_eq]; exact l64) fun p vs' hp r' _ => ?_
 rw [zOj f1 f2 f3] at r'
 exact k _ _ _ (E1.trans (Ext.frozen hp)) (Rep.newLst hp r')
end
end SL
namespace SL
open PySem PySem.Spec PyProof.Rows L2 CL DL SD
section
variable {X : Cx} {e st : Expr} {p2 pos : Pos}
end
end SL
namespace TL
open PySem PySem.Spec PyProof.Rows L2 HT
section
variable {prog : Program} {w : World} {A : Around} {E : Value -> Shared -> Prop} {s : Shared}
theorem zKp {t b : Addr} {ws : List Value} {Q : Value -> Shared -> Prop} (ht : IsTup s.heap t #[]) (hb : IsTup s.heap b ws.toArray) (h : Q (.ref b) s) : wpAny (model prog w) A (binaryOp .Add (.ref t) (.ref b)) Q E s := by
 obtain ⟨⟨cls, dd, data, sl⟩, ho, hc, n, hd⟩ := id ht
 obtain ⟨⟨cls2, dd2, data2, sl2⟩, ho2, hc2, n2, hd2⟩ := id hb
 simp only at hc hd hc2 hd2
 subst hc hd hc2 hd2
 exact concat_meets ⟨_, ho, rfl⟩ ⟨_, ho2, rfl⟩ noFill_tuple_add seq_tuple_add PySem.F.slot_tuple_add PySem.F.entry_tuple_add (PySem.F.args_tuple_add_2 _ _) (tuple_addW0 t b #[] ws.toArray n n2 dd dd2 sl sl2 rfl) ⟨ho, ho2, h⟩
theorem zKq {t b : Addr} {vs ws : List Value} {Q : Value -> Shared -> Prop} (ht : s.heap.IsList t vs.toArray) (hb : s.heap.IsList b ws.toArray) (hz : vs.length + ws.length <= sizeLine)
  (h : Q (.ref s.heap.objs.size) { s with heap := s.heap.push { cls := .type "list", data := .seq (vs ++ ws).toArray } }) : wpAny (model prog w) A (binaryOp .Add (.ref t) (.ref b)) Q E s := by
 obtain ⟨⟨cls, dd, data, sl⟩, ho, hc, n, hd⟩ := id ht
 obtain ⟨⟨cls2, dd2, data2, sl2⟩, ho2, hc2, n2, hd2⟩ := id hb
 simp only at hc hd hc2 hd2
 subst hc hd hc2 hd2
 have e : vs.toArray ++ ws.toArray = (vs ++ ws).toArray := by simp
 refine concat_meets ⟨_, ho, rfl⟩ ⟨_, ho2, rfl⟩ noFill_list_add seq_list_add PySem.F.slot_list_add PySem.F.entry_list_add (PySem.F.args_list_add_2 _ _) (list_addW t b vs.toArray ws.toArray n n2 dd dd2 sl sl2 (by simpa using hz)) ⟨ho, ho2, ?_⟩
 rw [e]
 exact h
theorem zOV {t sl : Addr} {items : Array Value} {vl vu : Value} {lo hi : Option Int} {Q : Value -> Shared -> Prop} (ht : IsTup s.heap t items) (hs : s.heap.IsSliceOf sl vl vu .none) (pl : IsPart vl lo) (pu : IsPart vu hi)
  (hw : sIx items.size 0 lo = 0 /\ sIx items.size items.size hi = items.size) (h : Q (.ref t) s) : wpAny (model prog w) A (getItem (.ref t) (.ref sl)) Q E s := by
 obtain ⟨os, hos, hcs, hds⟩ := id hs
 have hTs : s.TypeIs (.ref sl) "slice" := ⟨os, hos, hcs⟩
 unfold getItem
 try with_reducible refine Q8 ?_
 first | refine Qa (Qb ?_) | skip
 refine Qa (wpAny_sequenceKey ht.typeIs (by decide) ?_)
 refine Qa (Yx (name := Str.ofString "__getitem__") ht.typeIs YD
  (Yh YD ht.typeIs entry_tuple_getitem ?_ (args_tuple_getitem _ _)))
 show wpAny _ _ (Builtin.Tuple.tupleItemsOf (.ref t) >>= _) _ _ s
 refine Qa (tupleItemsOf_ ht (Qa (Y3 hTs ?_)))
 rw [if_pos (by decide)]
 refine Qa (zJt hs pl pu ?_)
 rw [hw.1, hw.2]
 show wpAny _ _ (if (((0 : Nat) : Int) == 0 && (1 : Int) == 1 && (items.size - 0) == items.size) = true then _ else _) _ _ s
 rw [if_pos (by simp)]
 unfold Builtin.Tuple.tupleIsExact
 refine Qa (Qa (Y3 ht.typeIs (Qb ?_)))
 rw [if_pos (by decide)]
 exact Qa (wpAny_rule (Qb ⟨_, rfl, Qb h⟩))
end
end TL
namespace SL
open PySem PySem.Spec PyProof.Rows L2 CL DL SD TL
section
variable {X : Cx} {e st : Expr} {p2 pos : Pos}
theorem zMU : OpR X (binaryOp .Add) (fun x y H Q => ∃ a b ys, x = .ref a /\ y = .ref b /\ SqT X.K H a [] /\ SqT X.K H b ys /\ Q (.ref b) H) := by
 intro pins s σ H x y v u Q I rx ry h
 obtain ⟨a, b, ys, rfl, rfl, ha, hb, q⟩ := h
 cases rx
 cases ry
 obtain ⟨its, r1, p1, _⟩ := I.tuple ha
 obtain ⟨its2, r2, p2, _⟩ := I.tuple hb
 cases r1
 exact zKp p1 p2 ⟨.ref b, H, I, rfl, q⟩
theorem zMV : OpR X (binaryOp .Add) (fun x y H Q => ∃ a b xs ys, x = .ref a /\ y = .ref b /\ SqL X.K H a xs /\ SqL X.K H b ys /\ xs.length + ys.length <= 1000 /\ ∀ p, H p = none -> Q (.ref p) (upd H p (.lst (xs ++ ys)))) := by
 intro pins s σ H x y v u Q I rx ry h
 obtain ⟨a, b, xs, ys, rfl, rfl, ha, hb, hz, q⟩ := h
 cases rx
 cases ry
 obtain ⟨its, r1, p1, _⟩ := I.list ha
 obtain ⟨its2, r2, p2, _⟩ := I.list hb
 refine zKq p1.isList p2.isList (by rw [<- r1.length, <- r2.length]; exact zAR hz) ?_
 refine ⟨.ref s.heap.objs.size, _, I.laid (t' := s.toks) (o := .lst (xs ++ ys)) (fun b ob q => Qc _ q) (Qh _) ?_, rfl, q _ (I.hok.fresh (Qh _))⟩
 exact ⟨by rw [Ql]; exact zAR hz, _, 0, r1.append r2, Qt _ rfl⟩
theorem zOe : SlR X (fun x lo hi H Q => ∃ a xs, x = .ref a /\ SqT X.K H a xs /\ (HT.sIx xs.length 0 lo = 0 /\ HT.sIx xs.length xs.length hi = xs.length) /\ Q (.ref a) H) := by
 intro pins s σ H x v vl vu lo hi sl Q I rx hs pl pu h
 obtain ⟨a, xs, rfl, hx, hw, q⟩ := h
 cases rx
 obtain ⟨its, r, ht, hz⟩ := I.tuple hx
 have hlen : its.toArray.size = xs.length := by rw [QF]; exact r.length.symm
 exact ⟨"tuple", _, YD.lookup, ht.typeIs, zOV ht hs pl pu (by rw [hlen]; exact hw) ⟨.ref a, H, I, rfl, q⟩⟩
def dSl2 : D -> Option Int -> Option Int -> Option D
 | .list xs, lo, hi => some (.list (DL.cutD xs lo hi))
 | .tuple xs, lo, hi => some (.tuple (DL.cutD xs lo hi))
 | _, _, _ => none
def eSl2 (ga : Rho -> Option D) (gl gh : Rho -> Option (Option Int)) : Rho -> Option D := fun ρ => (ga ρ).bind fun d => (gl ρ).bind fun l => (gh ρ).bind fun h => dSl2 d l h
theorem zKF {xs : List D} {lo hi : Option Int} (h : HT.sIx xs.length 0 lo = 0 /\ HT.sIx xs.length xs.length hi = xs.length) : DL.cutD xs lo hi = xs := by
 unfold DL.cutD
 rw [h.1, h.2, List.drop_zero, Nat.sub_zero, List.take_length]
theorem zG4 {a : Expr} {lo hi : Option Expr} {ga : Rho -> Option D} {gl gh : Rho -> Option (Option Int)} (ha : DE X a ga) (hl : DO X lo gl) (hh : DO X hi gh) : DE X (.Subscript a (.Slice lo hi none p2) pos) (eSl2 ga gl gh) :=
 zAK (zNd (zOa.or (zOb.or zOe)) ha hl hh) fun σ H Q zz => by
  obtain ⟨F, H₀, ρ, d, S, q, k⟩ := zz
  obtain ⟨x, e1, q⟩ := bnd q
  obtain ⟨l, e2, q⟩ := bnd q
  obtain ⟨h, e3, q⟩ := bnd q
  refine ⟨F, H₀, ρ, x, S, e1, fun F1 H1 v E1 R1 => ⟨F1, H₀, ρ, l, S.ext E1, e2, fun F2 H2 E2 => ⟨F2, H₀, ρ, h, (S.ext E1).ext E2, e3, fun F3 H3 E3 => ?_⟩⟩⟩
  have R3 := (R1.stay E2.stay).stay E3.stay
  have E123 := E1.trans (E2.trans E3)
  cases R3 with
  | @lst a' vs ds h1 r1 =>
   cases q
   exact .inl ⟨a', vs, rfl, h1.sq, fun p hp => k _ _ _ (E123.trans (Ext.frozen hp)) (Rep.newLst hp (r1.cut l h))⟩
  | @tup a' vs ds h1 r1 =>
   cases q
   by_cases c : HT.sIx ds.length 0 l = 0 /\ HT.sIx ds.length ds.length h = ds.length
   ·rw [zKF c] at k
    exact .inr (.inr ⟨a', vs, rfl, h1, by rw [<- r1.length]; exact c, k _ _ _ E123 (.tup h1 r1)⟩)
   ·exact .inr (.inl ⟨a', vs, rfl, h1, by rw [<- r1.length]; exact c, fun p hp => k _ _ _ (E123.trans (Ext.fresh hp)) (Rep.newTup hp (r1.cut l h))⟩)
  | non => cases q
  | dct _ _ _ _ _ => cases q
  | exn _ _ _ => cases q
  | bl _ => cases q
  | int _ => cases q
  | str _ => cases q
def zAs : D -> D -> Option D
 | .int i, .int j => some (.int (i + j))
 | .tuple xs, .tuple ys => if xs.length + ys.length <= 1000 then some (.tuple (xs ++ ys)) else none
 | .list xs, .list ys => if xs.length + ys.length <= 1000 then some (.list (xs ++ ys)) else none
 | _, _ => none
theorem zIE {α β : Type} {xs : List α} {ys : List β} (h : xs.length = ys.length) (e : ys = []) : xs = [] := by subst e; exact Jh h
theorem zAD : OpR X (binaryOp .Add) (rD2 X.K zAs) := zCP (zMJ.or (zML.or (zMU.or zMV))) fun x y H Q zz => by
 obtain ⟨F, d, e, q, z, R1, R2, hq, k⟩ := zz
 unfold zAs at hq
 split at hq
 ·cases hq
  cases R1
  cases R2
  exact .inl ⟨_, _, rfl, rfl, k F H _ (Ext.refl F H) (.int _)⟩
 ·rename_i xs ys
  by_cases c : xs.length + ys.length <= 1000
  ·rw [if_pos c] at hq
   cases hq
   cases R1 with
   | @tup a vs _ h1 r1 =>
    cases R2 with
    | @tup b us _ h2 r2 =>
     by_cases n : vs = []
     ·subst n
      have : xs = [] := zIE r1.length rfl
      subst this
      exact .inr (.inr (.inl ⟨a, b, us, rfl, rfl, h1, h2, k F H _ (Ext.refl F H) (.tup h2 r2)⟩))
     ·refine .inr (.inl ⟨a, b, vs, us, rfl, rfl, h1, h2, n, zAR (by rw [<- r1.length, <- r2.length]; exact c), fun e => ?_, fun e p hp => ?_⟩)
      ·have : ys = [] := zIE r2.length e
       subst this
       rw [QW] at k
       exact k F H _ (Ext.refl F H) (.tup h1 r1)
      ·exact k F _ _ (Ext.fresh hp) (Rep.newTup hp (r1.append r2))
  ·rw [if_neg c] at hq; cases hq
 ·rename_i xs ys
  by_cases c : xs.length + ys.length <= 1000
  ·rw [if_pos c] at hq
   cases hq
   cases R1 with
   | @lst a vs _ h1 r1 =>
    cases R2 with
    | @lst b us _ h2 r2 =>
     exact .inr (.inr (.inr ⟨a, b, vs, us, rfl, rfl, h1.sq, h2.sq, by rw [<- r1.length, <- r2.length]; exact c, fun p hp => k _ _ _ (Ext.frozen hp) (Rep.newLst hp (r1.append r2))⟩))
  ·rw [if_neg c] at hq; cases hq
 ·cases hq
end
end SL
namespace EL
open PySem PySem.Spec PyProof.Rows L2 DL ZL
open AutoSeq1 (wpAny_loadPart')
section
variable {prog : Program} {w : World} {A : Around} {E : Value -> Shared -> Prop} {s : Shared}
end
end EL
namespace SL
open PySem PySem.Spec PyProof.Rows L2 CL DL SD EL
end SL
namespace SL
open PySem PySem.Spec PyProof.Rows L2 CL DL SD
section
variable {X : Cx}
end
open AutoSeq1 (wpAny_loadPart')
theorem zLh (l : Addr) (items : Array Value) (n : Nat) (b : Addr) (items2 : Array Value) (n2 : Nat) (dd : Option Addr) (sl : Array (Option Value)) (hc0 : (!items.isEmpty && Builtin.List.listTooLong (items.size + items2.size)) = false) (hc1 : items.size <= sizeLine) (hs2 : items.size + items2.size <= sizeLine + 1) :
  Meets (Builtin.«list.extend» ⟨[.ref l, .ref b], []⟩) (fun _ R s => s.heap.get? l = some { cls := .type "list", dict := none, data := .seq items n, slots := #[] } /\ s.heap.get? b = some { cls := .type "list", dict := dd, data := .seq items2 n2, slots := sl } /\ R (.ok (.ret Value.none)) { s with heap := s.heap.update l (Obj.mapSeq fun x => x ++ items2), toks := s.toks }) :=
 .of_wp fun prog w A R s h => by
  obtain ⟨hp, g, d, tk, os⟩ := s
  obtain ⟨hl, hb, h⟩ := h
  have f1 := AutoSeq1.idx_int
  have f2 := AutoSeq1.sub_tuple_tuple
  have f3 := AutoSeq1.sub_list_list
  have f4 := AutoSeq1.sub_tuple_list
  have f5 := AutoSeq1.sub_list_tuple
  have hz' : (items ++ items2).size <= sizeLine + 1 := by rw [Array.size_append]; exact hs2
  wp_walk using (wpAny_updateSeq hl rfl (hz := hc1) (_hz' := hz')), wpAny_loadPart' hl, wpAny_loadPart' hb
  exact ⟨_, rfl, h⟩
section
variable {X : Cx}
theorem zMl : MtM X "list.extend" (fun x vs H Q => ∃ l b xs zs, x = .ref l /\ vs = [.ref b] /\ H l = some (.lst xs) /\ SqL X.K H b zs /\ xs.length + zs.length <= 1000 /\ Q .non (upd H l (.lst (xs ++ zs)))) := by
 intro pins s σ H x vs v us Q I rx rv h
 obtain ⟨l, b, xs, zs, rfl, rfl, hH, hB, hz, q⟩ := h
 cases rx
 obtain ⟨u, rfl, ru⟩ := rv.one
 cases ru
 obtain ⟨z, its, n, r, hl, e⟩ := I.lstM hH
 obtain ⟨its2, r2, ⟨⟨c2, dd, dt, sl⟩, n2, e2, hc2, hd2, hs2⟩, _⟩ := I.list hB
 simp only at hc2 hd2 hs2
 subst hc2 hd2 hs2
 have l1 := r.length
 have l2 := r2.length
 have hsz : its.toArray.size + its2.toArray.size <= sizeLine := by rw [QF, QF]; exact zAR (by lia)
 refine call_meets F.slot_list_extend ⟨_, e, rfl⟩ F.entry_list_extend (F.args_list_extend_2 _ _)
  (zLh l its.toArray n b its2.toArray n2 _ _ (by rw [zMD hsz, Bool.and_false]) (by lia) (by lia)) ⟨e, e2, ?_⟩
 refine ⟨.non, _, I.lset (its' := its ++ its2) hH e (by simp) (r.append r2) ?_, rfl, q⟩
 rw [Ql]
 exact zAR (by lia)
def sExt (i : Nat) (g : Rho -> Option D) : Rho -> Option Out := fun ρ => match ρ[i]? with
 | some (.own ds) => (g ρ).bind fun d => match d with
  | .list es => if ds.length + es.length <= 1000 then some (.nx (ρ.set i (.own (ds ++ es)))) else none
  | _ => none
 | _ => none
variable {e : Expr} {p pos : Pos} {ga : Rho -> Option D}
theorem zHd {i : Nat} {x : Str} {apos pos' : Pos} (ha : DE X e ga) (hN : X.N[i]? = some x := by rfl) (hv : Vis X.env.scope x := by first | exact Or.inl rfl | exact Or.inr (Or.inl rfl) | exact Or.inr (Or.inr rfl)) (hd : (x == ("__debug__" : Str)) = false := by decide)
  (hcd : (x == ("__classdict__" : Str)) = false := by decide) (hse : starEach [e] X.env = (false, eval e X.env) :: starEach [] X.env := by rfl)
  (hbase : attributeBase (.Name x p) "extend" X.env (eval (.Name x p) X.env) = eval (.Name x p) X.env := by rfl)
  (hfew : ((backTo pos' (starEach [e] X.env)).all (fun x => !x.1) && (backToKw pos' (keywordEach [] X.env)).all (fun x => x.1.isSome)
   && decide ([e].length + ([] : List Keyword).length + (if ([] : List Keyword).isEmpty then 0 else 1) < 30)) = true := by rfl)
  (hline : (apos.endLine == pos'.line) = true := by rfl) (hplain : (backTo pos' (starEach [] X.env)).any (·.1) = false := by rfl) (hsw : swapsWith (.Call (.Attribute (.Name x p) "extend" apos) [e] [] pos') none pos.line X.env = pure false := by rfl) :
  DS X (.Expr (.Call (.Attribute (.Name x p) "extend" apos) [e] [] pos') pos) (sExt i ga) :=
 DL.ps_mono (zEr (zFW PySem.F.plainAttrs_list PySem.F.slot_list_extend PySem.F.type_list_extend zMl (zCS hN hv hd hcd) (zCj ha zCR hse) hbase hfew hline hse hplain) hsw) fun W σ H zz => by
 obtain ⟨F₀, H₀, F, ρ, o, E, S, q, k⟩ := zz
 unfold sExt at q
 split at q
 ·rename_i ds e0
  obtain ⟨d, e1, q⟩ := bnd q
  split at q
  ·rename_i es
   by_cases hl : ds.length + es.length <= 1000
   ·rw [if_pos hl] at q
    cases q
    obtain ⟨l, vs, q1, q2, q3, q4, q5⟩ := S.own e0
    refine ⟨_, q1, .inl ⟨rfl, _, SqL.of q2⟩, F, H₀, ρ, _, S, e1, fun F' H' v E' R' => ?_⟩
    have S' := S.ext E'
    obtain ⟨l', vs', g1, g2, g3, g4, g5⟩ := S'.own e0
    rw [q1] at g1; cases g1
    cases R' with
    | @lst b us _ h1 r1 =>
     refine ⟨l, b, vs', us, rfl, rfl, g2, h1.sq, by rw [<- g5.length, <- r1.length]; exact hl, ?_⟩
     obtain ⟨S2, T⟩ := S'.turn e0 q1 g2 g3 (g5.append r1)
     exact k F' _ σ ((E.trans E').turn q4) (E'.stay.trans T) S2
   ·rw [if_neg hl] at q; cases q
  ·cases q
 ·cases q
end
def zFY : Expr -> Bool
 | .Starred .. => false
 | _ => true
theorem zOn (e : Expr) (es : List Expr) (env : Env) (h : zFY e = true) : starEach (e :: es) env = (false, eval e env) :: starEach es env := by
 cases e <;> first | rfl | cases h
theorem zKL {X : Cx} {e : Expr} {es : List Expr} {ga : Rho -> Option D} {gr : Rho -> Option (List D)} (ha : DE X e ga) (hr : DA X es gr) (h : zFY e = true := by rfl) : DA X (e :: es) (zAb ga gr) := zKK ha hr (zOn e es X.env h)
end SL
namespace ST
open PySem PySem.SetTable PyProof.Rows
structure TOkD (t : SetTable) (hs : List Int) : Prop where
 good : Good t.mask
 len : t.place.toList.length = hs.length
 up : Up t.place.toList
 dup : Up t.dummies.toList
 apart : ∀ x ∈ t.dummies.toList, x ∉ t.place.toList
 room : (t.place.toList.length + t.dummies.toList.length) * 5 < t.mask * 3
 reach : ∀ q ∈ t.place.toList.zip hs, ∃ n, (P t.mask q.2 n).j = q.1 /\ ∀ m, m < n -> (P t.mask q.2 m).j ∈ t.place.toList ++ t.dummies.toList
theorem TOk.toD {t : SetTable} {hs : List Int} (T : TOk t hs) : TOkD t hs := by
 refine ⟨T.good, T.len, T.up, ?_, ?_, ?_, fun q hq => ?_⟩
 ·rw [T.dum]; exact List.Pairwise.nil
 ·rw [T.dum]; intro x hx; simp at hx
 ·rw [T.dum]; exact T.room
 ·obtain ⟨n, e, a⟩ := T.reach q hq
  exact ⟨n, e, fun m hm => QK _ (a m hm)⟩
theorem zFx {xs : Array Nat} (s : Up xs.toList) (j : Nat) : has xs j = true ↔ j ∈ xs.toList := by
 obtain ⟨h1, h2, h3⟩ := zCz xs s j
 unfold has
 constructor
 ·intro h
  have := Yj h
  rw [<- QD] at this
  exact QL this
 ·intro hj
  obtain ⟨i, hi⟩ := QX hj
  have hl := (Qd.mp hi).1
  have e : i = below xs j := by
   by_cases a : i < below xs j
   ·have := h2 i j hi a; lia
   ·by_cases b : i = below xs j
    ·exact b
    ·have hb : below xs j < xs.toList.length := by lia
     have hv := Qg hb
     have := s.at hv hi (by lia)
     have := h3 _ _ hv (Qh _)
     lia
  rw [<- e, <- QD, hi]
  simp
theorem zEE {t : SetTable} {hs : List Int} (T : TOkD t hs) (j : Nat) : (∃ i, t.slot j = .live i /\ t.place.toList[i]? = some j) ∨ (t.slot j = .dummy /\ j ∉ t.place.toList /\ j ∈ t.dummies.toList) ∨ (t.slot j = .empty /\ j ∉ t.place.toList ++ t.dummies.toList) := by
 unfold slot
 dsimp only
 by_cases c : (t.place[below t.place j]? == some j) = true
 ·rw [if_pos c]
  exact .inl ⟨_, rfl, by rw [QD]; exact Yj c⟩
 ·rw [if_neg c]
  have hn : j ∉ t.place.toList := fun hj => c ((zFx T.up j).mpr hj)
  by_cases d : has t.dummies j = true
  ·rw [if_pos d]
   exact .inr (.inl ⟨rfl, hn, (zFx T.dup j).mp d⟩)
  ·rw [if_neg d]
   exact .inr (.inr ⟨rfl, fun h => (Qz.mp h).elim hn fun h => d ((zFx T.dup j).mpr h)⟩)
theorem zJw {t : SetTable} {hs : List Int} (T : TOkD t hs) {j i : Nat} (h : t.slot j = .live i) : t.place.toList[i]? = some j := by
 rcases zEE T j with ⟨i', h1, h2⟩ | ⟨h1, _⟩ | ⟨h1, _⟩
 ·rw [h] at h1; cases h1; exact h2
 ·rw [h] at h1; cases h1
 ·rw [h] at h1; cases h1
theorem TOkD.fits {t : SetTable} {hs : List Int} (T : TOkD t hs) {n : Nat} (e : hs.length = n) : t.fits n = true := by
 have h1 := T.len
 have h2 := T.room
 rw [Qr] at h1 h2
 rw [Qr] at h2
 unfold SetTable.fits SetTable.fill
 rw [h1, e]
 rw [h1] at h2
 simp only [QH, beq_iff_eq, decide_eq_true_eq]
 refine ⟨?_, ?_⟩
 ·trivial
 ·show n + t.dummies.size <= t.mask
  lia
theorem TOkD.odd {t : SetTable} {hs : List Int} (T : TOkD t hs) : t.gaveWay = false := by
 unfold SetTable.gaveWay
 rcases T.good with h | h | h | h | h | h <;> rw [h] <;> rfl
def Pd (M : Nat) (h : Int) (n : Nat) (d : Option Nat) : Probe := { P M h n with dummy := d }
theorem adv_d (M : Nat) (p : Probe) (d : Option Nat) : adv M { p with dummy := d } = { adv M p with dummy := d } := by
 unfold adv
 dsimp only
 split <;> rfl
theorem zGJ (M : Nat) (h : Int) (n : Nat) (d : Option Nat) : adv M (Pd M h n d) = Pd M h (n + 1) d := adv_d M (P M h n) d
section
variable {t : SetTable} {hs : List Int} {hashAt : Nat -> Int} {h : Int} {n : Nat}
theorem zLs (fuel c : Nat) (d : Option Nat) : probe.go t hashAt h (fuel + 1) (Pd t.mask h c d) = match t.slot (P t.mask h c).j with
  | .empty => some (.empty (P t.mask h c).j d)
  | .dummy => probe.go t hashAt h fuel (Pd t.mask h (c + 1) (some (P t.mask h c).j))
  | .live i => if (hashAt i == h) = true then some (.candidate (P t.mask h c).j i (Pd t.mask h (c + 1) d)) else probe.go t hashAt h fuel (Pd t.mask h (c + 1) d) := by
 conv => lhs; unfold probe.go
 rw [<- zGJ t.mask h c d, <- zGJ t.mask h c (some (P t.mask h c).j)]
 rfl
theorem zFt (T : TOkD t hs) (h1 : (P t.mask h n).j ∉ t.place.toList ++ t.dummies.toList) (h2 : ∀ m, m < n -> (P t.mask h m).j ∈ t.place.toList ++ t.dummies.toList) : ∀ fuel c d, c <= n -> n - c < fuel ->
  (∃ d', probe.go t hashAt h fuel (Pd t.mask h c d) = some (.empty (P t.mask h n).j d') /\ ∀ m, c <= m -> m < n -> ∀ i, t.slot (P t.mask h m).j = .live i -> hashAt i ≠ h)
  ∨ ∃ m i d', c <= m /\ m < n /\ t.slot (P t.mask h m).j = .live i /\ hashAt i = h /\ (∀ m', c <= m' -> m' < m -> ∀ i, t.slot (P t.mask h m').j = .live i -> hashAt i ≠ h) /\ probe.go t hashAt h fuel (Pd t.mask h c d) = some (.candidate (P t.mask h m).j i (Pd t.mask h (m + 1) d'))
 | 0, c, d, _, hf => absurd hf (Ym _)
 | fuel + 1, c, d, hc, hf => by
  rw [zLs]
  by_cases e : c = n
  ·subst e
   rcases zEE T (P t.mask h c).j with ⟨i, q1, q2⟩ | ⟨q1, q2, q3⟩ | ⟨q1, _⟩
   ·exact absurd (QK _ (QL q2)) h1
   ·exact absurd (Qu _ q3) h1
   ·rw [q1]
    exact .inl ⟨d, rfl, fun m a b => by lia⟩
  ·rcases zEE T (P t.mask h c).j with ⟨i, q1, q2⟩ | ⟨q1, q2, q3⟩ | ⟨_, q2⟩
   ·rw [q1]
    dsimp only
    by_cases k : (hashAt i == h) = true
    ·rw [if_pos k]
     exact .inr ⟨c, i, d, Qh _, by lia, q1, Yj k, fun m' a b => by lia, rfl⟩
    ·rw [if_neg k]
     have hk : hashAt i ≠ h := fun e => k (by rw [e]; simp)
     rcases zFt T h1 h2 fuel (c + 1) d (by lia) (by lia) with ⟨d', a, b⟩ | ⟨m, i', d', a1, a2, a3, a4, a5, a6⟩
     ·refine .inl ⟨d', a, fun m hm1 hm2 i2 hi2 => ?_⟩
      by_cases e2 : m = c
      ·subst e2; rw [q1] at hi2; cases hi2; exact hk
      ·exact b m (by lia) hm2 i2 hi2
     ·refine .inr ⟨m, i', d', by lia, a2, a3, a4, fun m' hm1 hm2 i2 hi2 => ?_, a6⟩
      by_cases e2 : m' = c
      ·subst e2; rw [q1] at hi2; cases hi2; exact hk
      ·exact a5 m' (by lia) hm2 i2 hi2
   ·rw [q1]
    dsimp only
    rcases zFt T h1 h2 fuel (c + 1) (some (P t.mask h c).j) (by lia) (by lia) with ⟨d', a, b⟩ | ⟨m, i', d', a1, a2, a3, a4, a5, a6⟩
    ·refine .inl ⟨d', a, fun m hm1 hm2 i2 hi2 => ?_⟩
     by_cases e2 : m = c
     ·subst e2; rw [q1] at hi2; cases hi2
     ·exact b m (by lia) hm2 i2 hi2
    ·refine .inr ⟨m, i', d', by lia, a2, a3, a4, fun m' hm1 hm2 i2 hi2 => ?_, a6⟩
     by_cases e2 : m' = c
     ·subst e2; rw [q1] at hi2; cases hi2
     ·exact a5 m' (by lia) hm2 i2 hi2
   ·exact absurd (h2 c (by lia)) q2
theorem metD (T : TOkD t hs) (h1 : (P t.mask h n).j ∉ t.place.toList ++ t.dummies.toList) {i j : Nat} (hj : t.place.toList[i]? = some j) (hh : hs[i]? = some h) : ∃ m, m < n /\ (P t.mask h m).j = j := by
 have hq : (j, h) ∈ t.place.toList.zip hs := QL (i := i) (by rw [Ys]; exact ⟨hj, hh⟩)
 obtain ⟨m, e, a⟩ := T.reach _ hq
 refine ⟨m, Yr fun c => h1 ?_, e⟩
 by_cases d : n = m
 ·subst d; rw [e]; exact QK _ (QL hj)
 ·exact a n (by lia)
end
section
variable {prog : Program} {w : World} {A : Around} {E : Value -> Shared -> Prop} {s : Shared}
theorem zHt {a x : Addr} {o : Obj} {es : Array (Int × Value)} {ep : Nat} {t : SetTable} {ks : List (List Int)} {k : List Int} {n : Nat} {Q : SetFound -> Shared -> Prop}
  (hu : A.units < cLine) (ho : s.heap.get? a = some o) (hd : o.data = .set es ep t) (T : TOkD t (es.toList.map (·.1))) (X : Ents prog w s.heap es.toList ks) (hk : TK prog w s.heap k x)
  (h1 : (P t.mask (TH prog w k) n).j ∉ t.place.toList ++ t.dummies.toList) (h2 : ∀ m, m < n -> (P t.mask (TH prog w k) m).j ∈ t.place.toList ++ t.dummies.toList)
  (q1 : ∀ i, ks[i]? = some k -> Q (.there (some i)) s) (q2 : k ∉ ks -> ∀ j b, Q (.free j b) s) :
  ∀ fuel c d, c <= n -> n < 10 * turns t.mask -> n - c < fuel -> (∀ m, m < c -> ∀ i, t.slot (P t.mask (TH prog w k) m).j = .live i -> ks[i]? ≠ some k) -> ∀ stand : Option Probe, stand.getD (t.probeStart (TH prog w k)) = Pd t.mask (TH prog w k) c d ->
  wpAny (model prog w) A (setSearchFrom a (.ref x) (TH prog w k) false fuel stand) Q E s
 | 0, c, d, _, _, hf, _, _, _ => absurd hf (Ym _)
 | fuel + 1, c, d, hc, hN, hf, inv, stand, hst => by
  have hfit : t.fits es.size = true := T.fits (by simp)
  unfold setSearchFrom
  refine Qa (QI ho hd hfit ?_)
  dsimp only
  rw [hst, if_neg (by rw [T.odd]; exact Qw)]
  refine Qa (Qb ?_)
  generalize hg : t.probe _ (TH prog w k) (Pd t.mask (TH prog w k) c d) = met
  obtain ⟨f, hfe, hg⟩ : ∃ f : Nat -> Int, (∀ i, f i = (es[i]?.map (·.1)).getD 0) /\ t.probe f (TH prog w k) (Pd t.mask (TH prog w k) c d) = met := ⟨_, fun _ => rfl, hg⟩
  have key : ∀ m i, t.slot (P t.mask (TH prog w k) m).j = .live i -> f i ≠ TH prog w k -> ks[i]? ≠ some k := fun m i hi hne hki => by
   have hp := zJw T hi
   have hl : i < es.toList.length := by
    have := (Qd.mp hp).1
    rw [T.len] at this
    simpa using this
   obtain ⟨k', b, e1, e2, e3⟩ := X.at (Qg hl)
   rw [hki] at e1
   cases e1
   apply hne
   rw [hfe, <- QD, Qg hl, e2]
   rfl
  have hgo := zFt (hashAt := f) T h1 h2 (10 * turns t.mask) c d hc (by lia)
  rcases hgo with ⟨d', g1, g2⟩ | ⟨m, i, d', g1, g2, g3, g4, g5, g6⟩
  ·have : met = some (.empty (P t.mask (TH prog w k) n).j d') := hg.symm.trans g1
   subst this
   have nin : k ∉ ks := fun hmem => by
    obtain ⟨i, hi⟩ := QX hmem
    have hl : i < es.toList.length := by rw [X.length]; exact (Qd.mp hi).1
    obtain ⟨k', b, e1, e2, e3⟩ := X.at (Qg hl)
    rw [hi] at e1
    cases e1
    have hpl : i < t.place.toList.length := by rw [T.len]; simpa using hl
    obtain ⟨m, hm, hj⟩ := metD T h1 (Qg hpl) (h := TH prog w k) (by rw [QP, Qg hl, e2]; rfl)
    rcases zEE T (P t.mask (TH prog w k) m).j with ⟨i', hs1, hs2⟩ | ⟨_, hs2, _⟩ | ⟨_, hs2⟩
    ·have hii : i' = i := by
      rw [hj] at hs2
      have a1 := Qg hpl
      by_cases l1 : i' < i
      ·have := T.up.at hs2 a1 l1; lia
      ·by_cases l2 : i < i'
       ·have := T.up.at a1 hs2 l2; lia
       ·lia
     subst hii
     by_cases cm : m < c
     ·exact inv m cm i' hs1 hi
     ·exact key m i' hs1 (g2 m (by lia) hm i' hs1) hi
    ·rw [hj] at hs2
     exact hs2 (YF _)
    ·rw [hj] at hs2
     exact hs2 (QK _ (YF _))
   dsimp only
   cases d' with
   | none => exact Qb (q2 nin _ _)
   | some dd =>
    dsimp only
    rw [if_neg (by simp)]
    exact Qb (q2 nin _ _)
  ·have : met = some (.candidate (P t.mask (TH prog w k) m).j i (Pd t.mask (TH prog w k) (m + 1) d')) := hg.symm.trans g6
   subst this
   have hp := zJw T g3
   have hl : i < es.toList.length := by
    have := (Qd.mp hp).1
    rw [T.len] at this
    simpa using this
   obtain ⟨k', b, e1, e2, e3⟩ := X.at (Qg hl)
   have hei : es[i]? = some (TH prog w k', .ref b) := by rw [<- QD, Qg hl, e2]
   dsimp only
   have hseen : ∀ y ∈ (es.filter (fun x => x.1 == TH prog w k)).toList.map (fun x => x.2), ∃ k' b, y = .ref b /\ TK prog w s.heap k' b := fun y hy => by
    obtain ⟨e, he, rfl⟩ := QJ.mp hy
    have he' : e ∈ es.toList := by
     rw [Array.toList_filter] at he
     exact (QY.mp he).1
    obtain ⟨i2, hi2⟩ := QX he'
    obtain ⟨k2, b2, _, z2, z3⟩ := X.at hi2
    exact ⟨k2, b2, by rw [z2], z3⟩
   split
   all_goals try (refine Qa (zIH hk hseen ?_); rw [if_neg Qw])
   all_goals
    rw [hei]
    dsimp only
    refine Qa (Q8 (wpAny_eqBool_tuple hu e3 hk ?_))
    refine Qa (QI ho hd hfit ?_)
    dsimp only
    rw [if_neg (by simp), show t.sameMemory t.moves t.mask = some true by unfold sameMemory; simp]
    dsimp only
    rw [if_pos rfl, g3]
    dsimp only
    rw [hei]
    dsimp only
    refine Qa (wpAny_isSame_ref_self ?_)
    simp only [if_true]
    refine Qa (Qb ?_)
    dsimp only
    by_cases hkk : k' = k
    ·rw [if_pos (by simp [hkk])]
     exact Qb (q1 i (hkk ▸ e1))
    ·rw [if_neg (by simp [hkk])]
     refine zHt hu ho hd T X hk h1 h2 q1 q2 fuel (m + 1) d' (by lia) hN (by lia) (fun m' hm' i' hi' => ?_) _ rfl
     by_cases l1 : m' < c
     ·exact inv m' l1 i' hi'
     ·by_cases l2 : m' = m
      ·subst l2
       rw [g3] at hi'
       cases hi'
       rw [e1]
       exact fun e => hkk (QG e)
      ·exact key m' i' hi' (g5 m' (by lia) (by lia) i' hi')
theorem zHu {a x : Addr} {o : Obj} {es : Array (Int × Value)} {ep : Nat} {t : SetTable} {ks : List (List Int)} {k : List Int} {Q : Option Nat -> Shared -> Prop}
  (hu : A.units < cLine) (ho : s.heap.get? a = some o) (hd : o.data = .set es ep t) (T : TOkD t (es.toList.map (·.1))) (X : Ents prog w s.heap es.toList ks) (hk : TK prog w s.heap k x)
  (q1 : ∀ i, ks[i]? = some k -> Q (some i) s) (q2 : k ∉ ks -> Q none s) : wpAny (model prog w) A (setFind a (.ref x) (TH prog w k)) Q E s := by
 have hfit : t.fits es.size = true := T.fits (by simp)
 have hroom := T.room
 obtain ⟨n, n1, n2, n3⟩ := zHD (l := t.place.toList ++ t.dummies.toList) T.good (by rw [Ql]; lia) (TH prog w k)
 have hM : t.mask <= 255 := by rcases T.good with g | g | g | g | g | g <;> lia
 unfold setFind setFindIn
 refine Qa (QI ho hd hfit ?_)
 dsimp only
 rw [if_neg (by simp [byScan, Value.scannable])]
 refine Qa ?_
 unfold setSearch
 refine zHt hu ho hd T X hk n2 n3 ?_ ?_ 100000 0 none (QU _) n1 (by unfold turns at n1; lia) (fun m hm => absurd hm (Ym _)) none ?_
 ·intro i hi
  exact Qb (q1 i hi)
 ·intro hn j b
  exact Qb (q2 hn)
 ·show P t.mask (TH prog w k) 0 = _
  rfl
end
end ST
namespace ST
open PySem PySem.SetTable PyProof.Rows
theorem zDm {α : Type} (xs : Array α) (p : Nat) : (eraseAt xs p).toList = xs.toList.take p ++ xs.toList.drop (p + 1) := by
 unfold eraseAt
 rw [Array.toList_append, Array.toList_extract, Array.toList_extract]
 simp only [List.extract_eq_take_drop, Nat.sub_zero, List.drop_zero]
 congr 1
 exact List.take_of_length_le (by rw [Yw, Qr]; lia)
theorem zIs {l : List Nat} (s : Up l) {i j : Nat} (hi : l[i]? = some j) (x : Nat) : x ∈ l.take i ++ l.drop (i + 1) ↔ x ∈ l /\ x ≠ j := by
 have hl := (Qd.mp hi).1
 have e : l = l.take i ++ j :: l.drop (i + 1) := by
  have : l[i] = j := by rw [Qg hl] at hi; exact QG hi
  rw [<- this, <- Yq hl, Yc]
 have nd : (l.take i ++ j :: l.drop (i + 1)).Nodup := by rw [<- e]; exact s.nodup
 constructor
 ·intro hx
  refine ⟨?_, fun q => ?_⟩
  ·rw [e]
   rcases Qz.mp hx with h | h
   ·exact QK _ h
   ·exact Qu _ (Qe _ h)
  ·subst q
   have := (List.perm_middle.nodup_iff.mp nd)
   exact (Yl.mp this).1 hx
 ·rintro ⟨hx, hne⟩
  rw [e] at hx
  rcases Qz.mp hx with h | h
  ·exact QK _ h
  ·rcases Qk.mp h with h | h
   ·exact absurd h hne
   ·exact Qu _ h
theorem zOS {xs : Array Nat} (s : Up xs.toList) {j : Nat} (hj : j ∉ xs.toList) : Up (insertAt xs (below xs j) j).toList := by
 obtain ⟨b1, b2, b3⟩ := zCz xs s j
 rw [zBG]
 unfold Up
 rw [List.pairwise_append]
 have hlt : ∀ x ∈ xs.toList.take (below xs j), x < j := fun x hx => by
  obtain ⟨i, hi⟩ := QX hx
  rw [List.getElem?_take] at hi
  split at hi
  ·rename_i q; exact b2 i x hi q
  ·cases hi
 have hgt : ∀ x ∈ xs.toList.drop (below xs j), j < x := fun x hx => by
  obtain ⟨i, hi⟩ := QX hx
  rw [List.getElem?_drop] at hi
  have := b3 _ x hi (by lia)
  have hne : x ≠ j := fun e => hj (e ▸ QL hi)
  lia
 refine ⟨s.sublist (List.take_sublist _ _), Yb.mpr ⟨hgt, s.sublist (List.drop_sublist _ _)⟩, fun a ha b hb => ?_⟩
 rcases Qk.mp hb with rfl | hb
 ·exact hlt a ha
 ·exact Nat.lt_trans (hlt a ha) (hgt b hb)
theorem zIt {xs : Array Nat} {p j x : Nat} : x ∈ (insertAt xs p j).toList ↔ x = j ∨ x ∈ xs.toList := by
 rw [zBG, Qz, Qk]
 conv => rhs; rw [<- Yc p xs.toList, Qz]
 constructor
 ·rintro (a | a | a)
  ·exact .inr (.inl a)
  ·exact .inl a
  ·exact .inr (.inr a)
 ·rintro (a | a | a)
  ·exact .inr (.inl a)
  ·exact .inl a
  ·exact .inr (.inr a)
theorem zOY {α β : Type} {l : List α} {m : List β} {i : Nat} (hlm : l.length = m.length) {q : α × β} (h : q ∈ (l.take i ++ l.drop (i + 1)).zip (m.take i ++ m.drop (i + 1))) : q ∈ l.zip m := by
 rw [List.zip_append (by rw [Q0, Q0, hlm]), Qz] at h
 rcases h with h | h
 ·obtain ⟨n, hn⟩ := QX h
  rw [Ys, List.getElem?_take, List.getElem?_take] at hn
  split at hn
  ·exact QL (i := n) (by rw [Ys]; exact hn)
  ·cases hn.1
 ·obtain ⟨n, hn⟩ := QX h
  rw [Ys, List.getElem?_drop, List.getElem?_drop] at hn
  exact QL (i := i + 1 + n) (by rw [Ys]; exact hn)
theorem zK4 {t : SetTable} {hs : List Int} {i : Nat} (T : TOkD t hs) (hi : i < hs.length) : TOkD (t.drop i) (hs.take i ++ hs.drop (i + 1)) /\ (t.drop i).plain = t.plain /\ (t.drop i).led = t.led := by
 have hl : i < t.place.toList.length := by rw [T.len]; exact hi
 obtain ⟨j, hj⟩ : ∃ j, t.place.toList[i]? = some j := ⟨_, Qg hl⟩
 have hj' : t.place[i]? = some j := by rw [<- QD]; exact hj
 have jp : j ∈ t.place.toList := QL hj
 have jd : j ∉ t.dummies.toList := fun h => T.apart j h jp
 have e : t.drop i = { t with place := eraseAt t.place i, dummies := insertAt t.dummies (below t.dummies j) j } := by
  unfold SetTable.drop
  rw [hj']
 rw [e]
 have hp : (eraseAt t.place i).toList = t.place.toList.take i ++ t.place.toList.drop (i + 1) := zDm _ _
 have lp : (eraseAt t.place i).toList.length + 1 = t.place.toList.length := by
  rw [hp, Ql, Q0, Yw]
  lia
 have ld : (insertAt t.dummies (below t.dummies j) j).toList.length = t.dummies.toList.length + 1 := by
  rw [(YS _ _ _).length_eq]
  simp
 have occ : ∀ x, x ∈ (eraseAt t.place i).toList ++ (insertAt t.dummies (below t.dummies j) j).toList ↔ x ∈ t.place.toList ++ t.dummies.toList := fun x => by
  rw [Qz, Qz, hp, zIs T.up hj, zIt]
  constructor
  ·rintro (⟨a, _⟩ | a | a)
   ·exact .inl a
   ·exact .inl (a ▸ jp)
   ·exact .inr a
  ·rintro (a | a)
   ·by_cases c : x = j
    ·exact .inr (.inl c)
    ·exact .inl ⟨a, c⟩
   ·exact .inr (.inr a)
 refine ⟨⟨T.good, ?_, ?_, zOS T.dup jd, fun x hx => ?_, ?_, fun q hq => ?_⟩, rfl, rfl⟩
 ·show (eraseAt t.place i).toList.length = _
  rw [hp, Ql, Ql, Q0, Yw, Q0, Yw, T.len]
 ·show Up (eraseAt t.place i).toList
  rw [hp]
  refine T.up.sublist ?_
  have : (t.place.toList.take i ++ t.place.toList.drop (i + 1)).Sublist (t.place.toList.take i ++ t.place.toList.drop i) := List.Sublist.append (List.Sublist.refl _) (by
   rw [Yq hl]; exact List.sublist_cons_self _ _)
  rwa [Yc] at this
 ·show x ∉ (eraseAt t.place i).toList
  rw [hp, zIs T.up hj]
  rintro ⟨a, b⟩
  rcases zIt.mp hx with c | c
  ·exact b c
  ·exact T.apart x c a
 ·show ((eraseAt t.place i).toList.length + (insertAt t.dummies (below t.dummies j) j).toList.length) * 5 < t.mask * 3
  have := T.room
  rw [ld]
  lia
 ·have hq' : q ∈ (eraseAt t.place i).toList.zip (hs.take i ++ hs.drop (i + 1)) := hq
  rw [hp] at hq'
  obtain ⟨n, e1, a⟩ := T.reach q (zOY T.len hq')
  exact ⟨n, e1, fun m hm => (occ _).mpr (a m hm)⟩
def SetD (prog : Program) (w : World) (V : Value -> Prop) (h : Heap) (a : Addr) (ks : List (List Int)) : Prop :=
 ∃ o es ep t, h.get? a = some o /\ o.ExactSet /\ o.data = .set es ep t /\ TOkD t (es.toList.map (·.1)) /\ (t.plain = true /\ t.led = ledW w) /\ Ents prog w h es.toList ks /\ ks.Nodup /\ ∀ e ∈ es.toList, V e.2
theorem SetT.toD {prog : Program} {w : World} {V : Value -> Prop} {h : Heap} {a : Addr} {ks : List (List Int)} (S : SetT prog w V h a ks) : SetD prog w V h a ks := by
 obtain ⟨o, es, ep, t, z1, z2, z3, z4, z5, z6, z7, z8⟩ := S
 exact ⟨o, es, ep, t, z1, z2, z3, z4.toD, z5, z6, z7, z8⟩
section
variable {prog : Program} {w : World} {A : Around} {E : Value -> Shared -> Prop} {s : Shared} {V : Value -> Prop}
theorem zGZ {α : Type} {l : List α} {i : Nat} {x : α} (h : l[i]? = some x) : List.Perm l (x :: (l.take i ++ l.drop (i + 1))) := by
 have hl := (Qd.mp h).1
 have : l[i] = x := by rw [Qg hl] at h; exact QG h
 have e : l = l.take i ++ x :: l.drop (i + 1) := by rw [<- this, <- Yq hl, Yc]
 exact (List.Perm.of_eq e).trans List.perm_middle
theorem zK1 {a x : Addr} {ks : List (List Int)} {k : List Int} {Q : Bool -> Shared -> Prop} (hu : A.units < cLine) (S : SetD prog w V s.heap a ks) (hk : TK prog w s.heap k x)
  (q1 : k ∉ ks -> Q false s) (q2 : ∀ h' ks', Heap.SameBut a s.heap h' -> SetD prog w V h' a ks' -> List.Perm ks (k :: ks') -> Q true { s with heap := h' }) (hsz : ks.length <= 1000) :
  wpAny (model prog w) A (setDiscardHashed a (.ref x) (TH prog w k)) Q E s := by
 obtain ⟨o, es, ep, t, ho, hex, hd, T, hp, X, hnd, hV⟩ := S
 have hfit : t.fits es.size = true := T.fits (by simp)
 unfold setDiscardHashed
 refine Qa (zHu hu ho hd T X hk (fun i hi => ?_) fun hn => Qb (q1 hn))
 dsimp only
 have hik : i < ks.length := (Qd.mp hi).1
 have hie : i < es.toList.length := by rw [X.length]; exact hik
 refine Qa (QI ho hd hfit ?_)
 dsimp only
 have hes : es.size = ks.length := by rw [<- X.length, Qr]
 have hle : (eraseAt es i).size <= es.size := by
  rw [<- Qr, zDm, Ql, Q0, Yw, Qr]
  lia
 refine Qa (Y4 ho hd ?_ (by rw [Q3]; lia))
 have hg : (s.heap.update a (Obj.putSet (eraseAt es i) (t.drop i))).get? a = some { o with data := .set (eraseAt es i) (ep + 1) (t.drop i) } := by
  have := Q1 (Obj.putSet (eraseAt es i) (t.drop i)) ho (by rw [Jd _ _ hd]; rfl)
  rw [Jd _ _ hd] at this; exact this
 have hsb := Q9 s.heap a (Obj.putSet (eraseAt es i) (t.drop i))
 obtain ⟨T2, p1, p2⟩ := zK4 (i := i) T (by rw [Qj]; exact hie)
 refine Qa (wpAny_point (Qb (q2 _ (ks.take i ++ ks.drop (i + 1)) hsb ⟨_, _, _, _, hg, hex, rfl, ?_, ⟨by rw [p1]; exact hp.1, by rw [p2]; exact hp.2⟩, ?_, ?_, fun e he => ?_⟩ (zGZ hi))))
 ·rw [zDm, Ya, List.map_take, List.map_drop]
  exact T2
 ·rw [zDm]
  exact ((X.take i).append (X.drop (i + 1))).mono fun k b => TK.keep ho hd hsb
 ·exact (Yl.mp ((zGZ hi).nodup_iff.mp hnd)).2
 ·rw [zDm] at he
  rcases Qz.mp he with he | he
  ·exact hV e (List.mem_of_mem_take he)
  ·exact hV e (List.mem_of_mem_drop he)
end
end ST
namespace ST
open PySem PySem.SetTable PyProof.Rows
section
variable {prog : Program} {w : World} {A : Around} {E : Value -> Shared -> Prop} {s : Shared} {V : Value -> Prop}
abbrev zDp (w : World) : Obj := { cls := .type "set", dict := none, data := .set #[] 0 (.fresh 0 0 (ledW w)) }
theorem zIB {Q : Value -> Shared -> Prop} (h : Q (.ref s.heap.objs.size) { s with heap := s.heap.push (zDp w) }) : wpAny (model prog w) A (newSet (.type "set")) Q E s := by
 unfold newSet setsByText
 refine Qa (Qa (wpAny_askSetting (Qb ?_)))
 dsimp only
 simp only [newObj]
 exact Qa (wpAny_alloc (Qb h))
structure Bare (w : World) (t : SetTable) (M : Nat) : Prop where
 good : Good M
 mask : t.mask = M
 place : t.place = #[]
 dum : t.dummies = #[]
 plain : t.plain = true
 led : t.led = ledW w
theorem zNS (t : SetTable) (wanted : Nat) : t.relaid #[] wanted = some ({ mask := sizeAbove wanted - 1, place := #[], dummies := #[], finger := t.finger, led := t.led, moves := t.movedTo (sizeAbove wanted - 1), plain := t.plain }, #[]) := by
 unfold relaid laid layClean
 have e : ∀ M : Nat, ((List.range (M + 1)).filterMap fun j => ((Array.replicate (M + 1) (none : Option Nat)).getD j none).map (j, ·)) = [] := fun M => by
  rw [List.filterMap_eq_nil_iff]
  intro j _
  have : (Array.replicate (M + 1) (none : Option Nat)).getD j none = none := by
   unfold Array.getD
   split
   ·simp
   ·rfl
  rw [this]
  rfl
 show some _ = _
 simp only [e]
 rfl
theorem zLt {n : Nat} (h5 : n * 5 >= 21) (hn : n <= 75) : ∃ M, sizeAbove (n * 2) - 1 = M /\ Good M /\ n * 5 < M * 3 /\ ¬ sizeAbove (n * 2) > sizeLine := by
 have h : ∀ n : Fin 76, n.val * 5 >= 21 -> (sizeAbove (n.val * 2) - 1 = 15 ∨ sizeAbove (n.val * 2) - 1 = 31 ∨ sizeAbove (n.val * 2) - 1 = 63 ∨ sizeAbove (n.val * 2) - 1 = 127 ∨ sizeAbove (n.val * 2) - 1 = 255) /\ n.val * 5 < (sizeAbove (n.val * 2) - 1) * 3 /\ sizeAbove (n.val * 2) <= 256 := by decide +kernel
 obtain ⟨h1, h2, h3⟩ := h ⟨n, by lia⟩ h5
 refine ⟨_, rfl, ?_, h2, by rw [Q3]; exact Nat.not_lt.mpr (Qx h3 (by decide))⟩
 unfold Good
 rcases h1 with e | e | e | e | e <;> simp only at e <;> lia
theorem zOB {n : Nat} (hn : n <= 63) : ∃ M, sizeAbove (grown n) - 1 = M /\ Good M /\ n * 5 < M * 3 /\ ¬ sizeAbove (grown n) > sizeLine := by
 have h : ∀ n : Fin 64, (sizeAbove (grown n.val) - 1 = 7 ∨ sizeAbove (grown n.val) - 1 = 15 ∨ sizeAbove (grown n.val) - 1 = 31 ∨ sizeAbove (grown n.val) - 1 = 63 ∨ sizeAbove (grown n.val) - 1 = 127 ∨ sizeAbove (grown n.val) - 1 = 255) /\ n.val * 5 < (sizeAbove (grown n.val) - 1) * 3 /\ sizeAbove (grown n.val) <= 256 := by decide +kernel
 obtain ⟨h1, h2, h3⟩ := h ⟨n, by lia⟩
 refine ⟨_, rfl, ?_, h2, by rw [Q3]; exact Nat.not_lt.mpr (Qx h3 (by decide))⟩
 unfold Good
 rcases h1 with e | e | e | e | e | e <;> simp only at e <;> lia
theorem zNX {r n : Nat} {o : Obj} {t : SetTable} {ep : Nat} {Q : Unit -> Shared -> Prop} (ho : s.heap.get? r = some o) (hex : o.ExactSet) (hd : o.data = .set #[] ep t) (B : Bare w t 7) (hn : n <= 75)
  (h : ∀ h' o' ep' t' M, Heap.SameBut r s.heap h' -> h'.get? r = some o' -> o'.ExactSet -> o'.data = .set #[] ep' t' -> Bare w t' M -> n * 5 < M * 3 -> Q () { s with heap := h' }) : wpAny (model prog w) A (setRoomFor r n) Q E s := by
 have hfit : t.fits (#[] : Array (Int × Value)).size = true := by unfold SetTable.fits SetTable.fill; rw [B.place, B.dum]; simp
 unfold setRoomFor
 refine Qa (QI ho hd hfit ?_)
 unfold SetTable.roomFor SetTable.fill
 rw [B.place, B.dum, B.mask]
 by_cases c : (0 + n) * 5 >= 7 * 3
 ·rw [if_pos (by simpa using c)]
  obtain ⟨M, m1, m2, m3, m4⟩ := zLt (n := n) (by lia) hn
  unfold setRelay
  refine Qa (QI ho hd hfit ?_)
  dsimp only
  have ew : ((#[] : Array Nat).size + n) * 2 = n * 2 := by simp
  rw [ew, if_neg m4]
  have er := zNS t (n * 2)
  rw [m1] at er
  have em : ((#[] : Array (Int × Value)).map (·.1)) = #[] := by simp
  rw [em, er]
  refine Qa (wpAny_of_eq (a := ((#[] : Array (Int × Value)), ({ mask := M, place := #[], dummies := #[], finger := t.finger, led := t.led, moves := t.movedTo M, plain := t.plain } : SetTable))) (by rfl) ?_)
  dsimp only
  refine Y4 ho hd ?_ (by simp)
  have hg := Q1 (Obj.putSet #[] { mask := M, place := #[], dummies := #[], finger := t.finger, led := t.led, moves := t.movedTo M, plain := t.plain }) ho (by rw [Jd _ _ hd]; rfl)
  rw [Jd _ _ hd] at hg
  exact h _ _ _ _ M (Q9 ..) hg hex rfl ⟨m2, rfl, rfl, rfl, B.plain, B.led⟩ m3
 ·rw [if_neg (by simpa using c)]
  exact Qb (h s.heap o ep t 7 (Heap.SameBut.refl ..) ho hex hd B (by lia))
end
end ST
namespace ST
open PySem PySem.SetTable PyProof.Rows
section
variable {prog : Program} {w : World} {A : Around} {E : Value -> Shared -> Prop} {s : Shared} {V : Value -> Prop}
theorem zMj {r a : Addr} {o : Obj} {t : SetTable} {ep : Nat} {ks : List (List Int)} {Q : Unit -> Shared -> Prop} (hra : r ≠ a) (ho : s.heap.get? r = some o) (hex : o.ExactSet) (hd : o.data = .set #[] ep t) (B : Bare w t 7)
  (S : SetT prog w V s.heap a ks) (hn : ks.length <= 75) (h : ∀ h' ks', Heap.SameBut r s.heap h' -> SetT prog w V h' r ks' -> List.Perm ks' ks -> Q () { s with heap := h' }) : wpAny (model prog w) A (setMerge r a (pure ())) Q E s := by
 obtain ⟨oa, es, epa, ta, ha, hxa, hda, T, hp, X, hnd, hV⟩ := S
 have hes : es.size = ks.length := by rw [<- X.length, Qr]
 unfold setMerge
 rw [if_neg (by simpa using hra)]
 refine Qa (QI ha hda (T.fits (by simp)) ?_)
 dsimp only
 by_cases em : es.isEmpty = true
 ·rw [if_pos em]
  have e0 : es = #[] := by simpa using em
  have k0 : ks = [] := by
   rw [e0] at hes
   exact Jh hes.symm
  subst k0
  refine Qb (h s.heap [] (Heap.SameBut.refl ..) ⟨o, #[], ep, t, ho, hex, hd, ?_, ⟨B.plain, B.led⟩, .nil, Jq, fun e he => by simp at he⟩ (.refl _))
  exact ⟨by rw [B.mask]; exact B.good, B.dum, by rw [B.place]; rfl, by rw [B.place]; exact List.Pairwise.nil, fun x hx => by rw [B.place] at hx; simp at hx, by rw [B.place, B.mask]; decide, fun q hq => by rw [B.place] at hq; simp at hq⟩
 ·rw [if_neg em]
  refine Qa (zNX ho hex hd B (by rw [hes]; exact hn) fun h1 o1 ep1 t1 M sb1 ho1 hex1 hd1 B1 hM => ?_)
  have ha1 : h1.get? a = some oa := (sb1.2 a (Ne.symm hra)).trans ha
  have X1 : Ents prog w h1 es.toList ks := X.mono fun k b => TK.keep ho hd sb1
  refine Qa (QI (s := { s with heap := h1 }) ho1 hd1 (by unfold SetTable.fits SetTable.fill; rw [B1.place, B1.dum]; simp) ?_)
  dsimp only
  have hf : (t1.fill != 0) = false := by unfold SetTable.fill; rw [B1.place, B1.dum]; rfl
  have szl : es.size <= sizeLine := by rw [Q3]; lia
  unfold SetTable.road
  rw [hf, if_neg Qw]
  by_cases c : (t1.mask == ta.mask && ta.dummies.isEmpty) = true
  ·rw [if_pos c]
   dsimp only
   refine Y4 (s := { s with heap := h1 }) ho1 hd1 ?_ szl
   have hg := Q1 (Obj.putSet es { ta with finger := t1.finger, led := t1.led && ta.led, moves := t1.moves, plain := t1.plain && ta.plain }) ho1 (by rw [Jd _ _ hd1]; rfl)
   rw [Jd _ _ hd1] at hg
   have sb2 := Q9 h1 r (Obj.putSet es { ta with finger := t1.finger, led := t1.led && ta.led, moves := t1.moves, plain := t1.plain && ta.plain })
   refine h _ ks (sb1.trans sb2) ⟨_, _, _, _, hg, hex1, rfl, ⟨T.good, T.dum, T.len, T.up, T.le, T.room, T.reach⟩, ⟨?_, ?_⟩, X1.mono fun k b => TK.keep ho1 hd1 sb2, hnd, hV⟩ (.refl _)
   ·show (t1.plain && ta.plain) = true
    rw [B1.plain, hp.1]; rfl
   ·show (t1.led && ta.led) = ledW w
    rw [B1.led, hp.2, Bool.and_self]
  ·rw [if_neg c]
   dsimp only
   obtain ⟨t', order, r1, r2, r3, r4, r5⟩ := zIe (hs := es.map (·.1)) (M := M) t1.finger t1.moves (t1.led && ta.led) (t1.plain && ta.plain) B1.good (by rw [YW]; exact hM)
   have hlt : ∀ i ∈ order.toList, i < es.toList.length := fun i hi => by
    have := QO.mp (r2.mem_iff.mp hi)
    simpa using this
   have hesl : (order.filterMap (es[·]?)).toList = order.toList.filterMap (es.toList[·]?) := by
    rw [Jj]
    congr 1
    funext i
    rw [QD]
   have hperm : List.Perm (order.filterMap (es[·]?)).toList es.toList := by
    rw [Jj]
    refine (r2.filterMap _).trans ?_
    rw [YW, filterMap_getElem?_range]
   have hsize : (order.filterMap (es[·]?)).size = es.size := by rw [<- Qr, hperm.length_eq, Qr]
   rw [B1.mask, r1]
   refine Qa ?_
   show wpAny _ _ (if ((order.filterMap (es[·]?)).size != es.size) = true then _ else pure (order.filterMap (es[·]?), t')) _ _ _
   rw [if_neg (by simp [hsize])]
   refine Qb ?_
   dsimp only
   refine Y4 (s := { s with heap := h1 }) ho1 hd1 ?_ (by rw [hsize]; exact szl)
   have hg := Q1 (Obj.putSet (order.filterMap (es[·]?)) t') ho1 (by rw [Jd _ _ hd1]; rfl)
   rw [Jd _ _ hd1] at hg
   have sb2 := Q9 h1 r (Obj.putSet (order.filterMap (es[·]?)) t')
   have kp : List.Perm (order.toList.filterMap (ks[·]?)) ks := by
    refine (r2.filterMap _).trans ?_
    rw [YW, <- Qr, X.length, YO]
   refine h _ (order.toList.filterMap (ks[·]?)) (sb1.trans sb2) ⟨_, _, _, _, hg, hex1, rfl, ?_, ⟨by rw [r5, B1.plain, hp.1]; rfl, by rw [r4, B1.led, hp.2, Bool.and_self]⟩, ?_, kp.nodup_iff.mpr hnd, fun e he => hV e (hperm.mem_iff.mp he)⟩ kp
   ·rw [hesl, zFz _ _ hlt]
    simpa using r3
   ·rw [hesl]
    exact (X1.pick _ hlt).mono fun k b => TK.keep ho1 hd1 sb2
theorem zEa {a : Addr} {Q : Bool -> Shared -> Prop} (hT : s.TypeIs (.ref a) "set") (h : Q true s) : wpAny (model prog w) A (Builtin.Frozenset.isAnySet (.ref a)) Q E s := by
 unfold Builtin.Frozenset.isAnySet orM
 refine Qa (Ju hT sub_set_self ?_)
 exact Qb h
theorem base_of {a : Addr} {Q : Value -> Shared -> Prop} (hT : s.TypeIs (.ref a) "set") (h : Q (.type "set") s) : wpAny (model prog w) A (Builtin.Frozenset.baseOf a) Q E s := by
 unfold Builtin.Frozenset.baseOf
 refine Qa (Ju hT sub_set_self ?_)
 rw [if_pos rfl]
 exact Qb h
theorem zEC {a : Addr} {o : Obj} {es : Array (Int × Value)} {ep : Nat} {t : SetTable} {Q : Nat -> Shared -> Prop} (ho : s.heap.get? a = some o) (hd : o.data = .set es ep t) (hf : t.fits es.size = true) (h : Q es.size s) : wpAny (model prog w) A (Builtin.Frozenset.sizeOf a) Q E s := by
 unfold Builtin.Frozenset.sizeOf
 exact Qa (Jv ho hd hf (Qb h))
theorem zKC {a : Addr} {ks : List (List Int)} {Q : Value -> Shared -> Prop} (S : SetT prog w V s.heap a ks) (hn : ks.length <= 75)
  (h : ∀ h' ks', (∀ b o, s.heap.get? b = some o -> h'.get? b = some o) -> SetT prog w V h' s.heap.objs.size ks' -> List.Perm ks' ks -> Q (.ref s.heap.objs.size) { s with heap := h' }) : wpAny (model prog w) A (Builtin.Frozenset.copyOf a) Q E s := by
 obtain ⟨oa, es, epa, ta, ha, hxa, hda, T, hp, X, hnd, hV⟩ := id S
 have hT : s.TypeIs (.ref a) "set" := ⟨oa, ha, hxa.1⟩
 have la := Qm ha
 unfold Builtin.Frozenset.copyOf
 refine Qa (base_of hT (Qa (zIB ?_)))
 refine Qa (Qb ?_)
 have S' : SetT prog w V (s.heap.push (zDp w)) a ks := S.moved fun b o e _ => Qc _ e
 refine Qa (zMj (s := { s with heap := s.heap.push (zDp w) }) (r := s.heap.objs.size) (YQ la) (Qt _ rfl) ⟨rfl, rfl, rfl⟩ rfl ⟨.inl rfl, rfl, rfl, rfl, rfl, rfl⟩ S' hn fun h' ks' sb S'' pk => ?_)
 exact Qb (h h' ks' (fun b o e => (sb.2 b (Qy (Qm e))).trans (Qc _ e)) S'' pk)
end
end ST
namespace ST
open PySem PySem.SetTable PyProof.Rows
section
variable {prog : Program} {w : World} {A : Around} {E : Value -> Shared -> Prop} {s : Shared} {V : Value -> Prop}
theorem zJR {a : Addr} {o : Obj} {es : Array (Int × Value)} {ep : Nat} {t : SetTable} {others : List Addr} {filled : Option Addr} {Q : Array (Int × Value) -> Shared -> Prop} (S : zA5 w s.heap a o es ep t) (h : Q (ordW w a ep es) s) :
  wpAny (model prog w) A (setWalkUnseen a others filled) Q E s := by
 unfold setWalkUnseen
 refine Qa (QI S.get S.data S.fits ?_)
 dsimp only
 refine Qa (zDQ ?_)
 have c : (w.params.followText "set-order" || (t.led && t.plain) || decide (es.size <= 1)) = true := by
  rw [S.led, S.plain, ledW]
  cases w.params.followText "set-order" <;> rfl
 rw [c, if_pos rfl]
 exact zJQ S h
theorem zEJ {id : String} {a : Addr} {o : Obj} {es : Array (Int × Value)} {ep : Nat} {t : SetTable} {Q : Unit -> Shared -> Prop} (ho : s.heap.get? a = some o) (hd : o.data = .set es ep t) (hf : t.fits es.size = true) (h : Q () s) : wpAny (model prog w) A (Builtin.Frozenset.unchanged id a ep) Q E s := by
 unfold Builtin.Frozenset.unchanged setEpoch
 refine Qa (Qa (QI ho hd hf (Qb ?_)))
 rw [if_neg (by simp)]
 exact Qb h
theorem SetT.setAt {h : Heap} {a : Addr} {ks : List (List Int)} (S : SetT prog w V h a ks) : ∃ o es ep t, zA5 w h a o es ep t /\ TOk t (es.toList.map (·.1)) /\ Ents prog w h es.toList ks /\ ∀ e ∈ es.toList, V e.2 := by
 obtain ⟨o, es, ep, t, z1, z2, z3, z4, z5, z6, z7, z8⟩ := S
 exact ⟨o, es, ep, t, ⟨z1, z2, z3, z4.fits (by simp), z4.up, z5.1, z5.2⟩, z4, z6, z8⟩
structure DI1 (prog : Program) (w : World) (V : Value -> Prop) (s : Shared) (ka kb : List (List Int)) (rest : List (Int × Value)) (s' : Shared) (h' : Heap) (kc kd krest : List (List Int)) : Prop where
 eq : s' = { s with heap := h' }
 kp : ∀ b o, s.heap.get? b = some o -> h'.get? b = some o
 SC : SetD prog w V h' s.heap.objs.size kc
 Xr : Ents prog w s.heap rest krest
 pk : List.Perm (kd ++ krest) kb
 lc : kc.length <= 63
 me : ∀ k, k ∈ kc ↔ k ∈ ka /\ k ∉ kd
structure DI2 (prog : Program) (w : World) (V : Value -> Prop) (s : Shared) (ka kb : List (List Int)) (rest : List (Int × Value)) (s' : Shared) (h' : Heap) (kr kd krest : List (List Int)) : Prop where
 eq : s' = { s with heap := h' }
 kp : ∀ b o, s.heap.get? b = some o -> h'.get? b = some o
 SR : SetT prog w V h' s.heap.objs.size kr
 Xr : Ents prog w s.heap rest krest
 pk : List.Perm (kd ++ krest) ka
 me : ∀ k, k ∈ kr ↔ k ∈ kd /\ k ∉ kb
 vr : ∀ e ∈ rest, V e.2
theorem zK0 {id : String} {a b : Addr} {ka kb : List (List Int)} {Q : Value -> Shared -> Prop} (hab : a ≠ b) (hu : A.units < cLine) (SA : SetT prog w V s.heap a ka) (SB : SetT prog w V s.heap b kb) (hna : ka.length <= 63)
  (h : ∀ h' r ks, s.heap.objs.size <= r -> (∀ b o, s.heap.get? b = some o -> h'.get? b = some o) -> SetD prog w V h' r ks -> (∀ k, k ∈ ks ↔ k ∈ ka /\ k ∉ kb) -> Q (.ref r) { s with heap := h' }) :
  wpAny (model prog w) A (Builtin.Frozenset.difference id a (.ref b)) Q E s := by
 obtain ⟨oa, ea, pa, ta, Sa, Ta, Xa, Va⟩ := SA.setAt
 obtain ⟨ob, eb, pb, tb, Sb, Tb, Xb, Vb⟩ := SB.setAt
 have hTa : s.TypeIs (.ref a) "set" := ⟨oa, Sa.get, Sa.ex.1⟩
 have hTb : s.TypeIs (.ref b) "set" := ⟨ob, Sb.get, Sb.ex.1⟩
 have nda := SA.nodup
 unfold Builtin.Frozenset.difference
 refine Qa (zEa hTb ?_)
 simp only [YG, Qp, if_false, Bool.false_and]
 unfold Builtin.Frozenset.addrOf
 refine Qa (Qb ?_)
 simp only [if_true]
 refine Qa (zEC Sb.get Sb.data Sb.fits ?_)
 refine Qa (zEC Sa.get Sa.data Sa.fits ?_)
 by_cases c : ea.size / 4 > eb.size
 ·rw [if_pos c]
  refine Qa (wpAny_rule ?_)
  refine Qa (zKC SA (by lia) fun h1 kr kp1 SR pr => ?_)
  have lb := Qm Sb.get
  have Sb1 := Sb.at (kp1 _ _ Sb.get)
  have hTb1 : ({ s with heap := h1 } : Shared).TypeIs (.ref b) "set" := ⟨ob, Sb1.get, Sb.ex.1⟩
  refine Qa (Qb ?_)
  refine Qa (Q8 ?_)
  unfold Builtin.Frozenset.differenceUpdate
  rw [if_neg (by simpa using Qy lb)]
  refine Qa (zEa hTb1 ?_)
  rw [if_pos rfl]
  unfold Builtin.Frozenset.addrOf
  refine Qa (Qb ?_)
  refine Qa (zEC (s := { s with heap := h1 }) Sb1.get Sb1.data Sb1.fits ?_)
  obtain ⟨oR, eR, pR, tR, SatR, TR, XR, VR⟩ := SR.setAt
  refine Qa (zEC (s := { s with heap := h1 }) SatR.get SatR.data SatR.fits ?_)
  have sz1 : eR.size = ea.size := by rw [<- Qr, XR.length, pr.length_eq, <- Xa.length, Qr]
  rw [if_neg (by lia)]
  dsimp only
  refine Qa (wpAny_setEpoch_of (s := { s with heap := h1 }) Sb1.get Sb1.data Sb1.fits ?_)
  refine Qa (Q8 (Qa (zJR (s := { s with heap := h1 }) Sb1 ?_)))
  obtain ⟨ko, Xo, po⟩ := Xb.perm (zCQ w b pb eb).symm
  rw [<- Array.forIn_toList]
  refine Qa (Jt _ (fun rest _ s' => ∃ h' kc kd krest, DI1 prog w V s ka kb rest s' h' kc kd krest) _ ?_ ?_ _ _ ?_)
  ·rintro x rest _ s' ⟨h', kc, kd, krest, rfl, kp, SC, Xr, pk, lc, mk⟩
   cases Xr with
   | @cons k bx _ krest hk Xr =>
    have hk' : TK prog w h' k bx := hk.at fun o e => kp bx o e
    have pk' : List.Perm ((kd ++ [k]) ++ krest) kb := by rw [QM]; exact pk
    dsimp only
    refine Qa (Q8 (zK1 (s := { s with heap := h' }) hu SC hk' (fun hn => ?_) (fun h2 kc2 sb S2 p2 => ?_) (by lia)))
    ·have Sb2 := Sb.at (kp _ _ Sb.get)
     refine Qa (zEJ (s := { s with heap := h' }) Sb2.get Sb2.data Sb2.fits (Qb ?_))
     refine ⟨h', kc, kd ++ [k], krest, rfl, kp, SC, Xr, pk', lc, fun k' => ?_⟩
     rw [mk k', Qz, Qq]
     constructor
     ·rintro ⟨x1, x2⟩
      exact ⟨x1, fun z => z.elim x2 fun z => hn (z ▸ (mk k').mpr ⟨x1, x2⟩)⟩
     ·rintro ⟨x1, x2⟩
      exact ⟨x1, fun z => x2 (.inl z)⟩
    ·have kp2 : ∀ b o, s.heap.get? b = some o -> h2.get? b = some o := fun b o e => (sb.2 b (Qy (Qm e))).trans (kp b o e)
     have Sb2 := Sb.at (kp2 _ _ Sb.get)
     refine Qa (zEJ (s := { s with heap := h2 }) Sb2.get Sb2.data Sb2.fits (Qb ?_))
     have nd : (k :: kc2).Nodup := by
      obtain ⟨_, _, _, _, _, _, _, _, _, _, z7, _⟩ := SC
      exact p2.nodup_iff.mp z7
     have ll := p2.length_eq
     rw [QV] at ll
     refine ⟨h2, kc2, kd ++ [k], krest, rfl, kp2, S2, Xr, pk', by lia, fun k' => ?_⟩
     rw [Qz, Qq]
     have m1 : k' ∈ kc ↔ k' = k ∨ k' ∈ kc2 := by rw [p2.mem_iff, Qk]
     constructor
     ·intro hx
      have := (mk k').mp (m1.mpr (.inr hx))
      exact ⟨this.1, fun z => z.elim this.2 fun z => (Yl.mp nd).1 (z ▸ hx)⟩
     ·rintro ⟨x1, x2⟩
      rcases m1.mp ((mk k').mpr ⟨x1, fun z => x2 (.inl z)⟩) with z | z
      ·exact absurd (.inr z) x2
      ·exact z
  ·rintro _ s' ⟨h', kc, kd, krest, rfl, kp, SC, Xr, pk, lc, mk⟩
   cases Xr
   rw [QW] at pk
   refine Qb ?_
   have fin : ∀ h2 kc2, (∀ b o, s.heap.get? b = some o -> h2.get? b = some o) -> SetD prog w V h2 s.heap.objs.size kc2 -> List.Perm kc2 kc -> wpAny (model prog w) A (pure (Value.ref s.heap.objs.size)) Q E { s with heap := h2 } := fun h2 kc2 kp2 S2 p2 =>
    Qb (h h2 _ kc2 (Qh _) kp2 S2 fun k => by rw [p2.mem_iff, mk k, pk.mem_iff])
   obtain ⟨o, es, ep, t, ho, hex, hd, T, hp, X, hnd, hV⟩ := _root_.id SC
   have hfit : t.fits es.size = true := T.fits (by simp)
   have hes : es.size = kc.length := by rw [<- X.length, Qr]
   unfold setTidy
   refine Qa (QI (s := { s with heap := h' }) ho hd hfit ?_)
   dsimp only
   by_cases td : t.tooManyDummies = true
   ·rw [if_pos td]
    obtain ⟨M, m1, m2, m3, m4⟩ := zOB (n := es.size) (by lia)
    refine zI9 (s := { s with heap := h' }) (V := V) ho hex hd hfit hp X hnd hV m1 m2 m3 m4 (by rw [Q3]; lia) fun h2 kc2 sb S2 p2 => ?_
    exact fin h2 kc2 (fun b o e => (sb.2 b (Qy (Qm e))).trans (kp b o e)) S2.toD p2
   ·rw [if_neg td]
    exact Qb (fin h' kc kp SC (.refl _))
  ·exact ⟨h1, kr, [], ko, rfl, kp1, SR.toD, Xo, po, by rw [pr.length_eq]; exact hna, fun k => by rw [pr.mem_iff]; simp⟩
 ·rw [if_neg c]
  refine Qa (base_of hTa (Qa (zIB ?_)))
  refine Qa (Qb ?_)
  have kp0 : ∀ b o, s.heap.get? b = some o -> (s.heap.push (zDp w)).get? b = some o := fun b o e => Qc _ e
  have Sa0 := Sa.at (kp0 _ _ Sa.get)
  refine Qa (wpAny_setEpoch_of Sa0.get Sa0.data Sa0.fits ?_)
  refine Qa (Q8 (Qa (zJR (s := { s with heap := s.heap.push (zDp w) }) Sa0 ?_)))
  obtain ⟨ko, Xo, po⟩ := Xa.perm (zCQ w a pa ea).symm
  rw [<- Array.forIn_toList]
  refine Qa (Jt _ (fun rest _ s' => ∃ h' kr kd krest, DI2 prog w V s ka kb rest s' h' kr kd krest) _ ?_ ?_ _ _ ?_)
  ·rintro x rest _ s' ⟨h', kr, kd, krest, rfl, kp, SR, Xr, pk, mk, vr⟩
   cases Xr with
   | @cons k bx _ krest hk Xr =>
    have hk' : TK prog w h' k bx := hk.at fun o e => kp bx o e
    have Sb' := Sb.at (kp _ _ Sb.get)
    have Sa' := Sa.at (kp _ _ Sa.get)
    have nin : k ∉ kd := by
     have := pk.nodup_iff.mpr nda
     have := List.perm_middle.nodup_iff.mp this
     exact fun hh => (Yl.mp this).1 (QK _ hh)
    have pk' : List.Perm ((kd ++ [k]) ++ krest) ka := by rw [QM]; exact pk
    refine Qa (Q8 (Qa (zHu (s := { s with heap := h' }) hu Sb'.get Sb'.data Tb.toD (Xb.mono fun k b x => x.at fun o e => kp b o e) hk' (fun i hi => ?_) fun hn => ?_)))
    ·refine Qa (Qb ?_)
     simp only [Option.isSome_some, YG, Qp, if_false]
     refine Qb ?_
     refine Qa (zEJ (s := { s with heap := h' }) Sa'.get Sa'.data Sa'.fits (Qb ?_))
     refine ⟨h', kr, kd ++ [k], krest, rfl, kp, SR, Xr, pk', fun k' => ?_, fun e he => vr e (Qe _ he)⟩
     rw [mk k', Qz, Qq]
     constructor
     ·rintro ⟨x1, x2⟩; exact ⟨.inl x1, x2⟩
     ·rintro ⟨x1 | x1, x2⟩
      ·exact ⟨x1, x2⟩
      ·exact absurd (x1 ▸ QL hi) x2
    ·refine Qa (Qb ?_)
     simp only [Option.isSome_none, Bool.not_false, if_true]
     have lk : kr.length <= 63 := by
      have h1 : kr.length <= kd.length := Yo SR.nodup fun k hk => ((mk k).mp hk).1
      have h2 := pk.length_eq
      rw [Ql] at h2
      lia
     refine Qa (zGK (s := { s with heap := h' }) hu SR hk' (vr _ Qf) (by lia) (fun hm => absurd ((mk k).mp hm).1 nin) fun _ h2 kr2 sb S2 p2 => ?_)
     have kp2 : ∀ b o, s.heap.get? b = some o -> h2.get? b = some o := fun b o e => (sb.2 b (Qy (Qm e))).trans (kp b o e)
     have Sa2 := Sa.at (kp2 _ _ Sa.get)
     refine Qb (Qa (zEJ (s := { s with heap := h2 }) Sa2.get Sa2.data Sa2.fits (Qb ?_)))
     refine ⟨h2, kr2, kd ++ [k], krest, rfl, kp2, S2, Xr, pk', fun k' => ?_, fun e he => vr e (Qe _ he)⟩
     rw [p2.mem_iff, Qk, mk k', Qz, Qq]
     constructor
     ·rintro (x1 | ⟨x1, x2⟩)
      ·exact ⟨.inr x1, x1 ▸ hn⟩
      ·exact ⟨.inl x1, x2⟩
     ·rintro ⟨x1 | x1, x2⟩
      ·exact .inr ⟨x1, x2⟩
      ·exact .inl x1
  ·rintro _ s' ⟨h', kr, kd, krest, rfl, kp, SR, Xr, pk, mk, vr⟩
   cases Xr
   rw [QW] at pk
   refine Qb (Qb (h h' _ kr (Qh _) kp SR.toD fun k => ?_))
   rw [mk k, pk.mem_iff]
  ·refine ⟨_, [], [], ko, rfl, kp0, ⟨_, #[], 0, _, Qt _ rfl, ⟨rfl, rfl, rfl⟩, rfl, ⟨.inl rfl, rfl, rfl, List.Pairwise.nil, fun x hx => by simp [SetTable.fresh] at hx, (by show 0 * 5 < 7 * 3; decide), fun q hq => by simp at hq⟩, ⟨rfl, rfl⟩, .nil, Jq, fun e he => by simp at he⟩, Xo, po, fun k => by simp, fun e he => Va e ((zCQ w a pa ea).mem_iff.mp he)⟩
end
end ST
namespace ST
open PySem PySem.SetTable PyProof.Rows
section
variable {prog : Program} {w : World} {A : Around} {E : Value -> Shared -> Prop} {s : Shared} {V : Value -> Prop}
theorem zOq {a b : Addr} {ka kb : List (List Int)} {Q : Value -> Shared -> Prop} (hab : a ≠ b) (hu : A.units + 8 < cLine) (SA : SetT prog w V s.heap a ka) (SB : SetT prog w V s.heap b kb) (hna : ka.length <= 63)
  (h : ∀ h' r ks, s.heap.objs.size <= r -> (∀ b o, s.heap.get? b = some o -> h'.get? b = some o) -> SetD prog w V h' r ks -> (∀ k, k ∈ ks ↔ k ∈ ka /\ k ∉ kb) -> Q (.ref r) { s with heap := h' }) :
  wpAny (model prog w) A (binaryOp .Sub (.ref a) (.ref b)) Q E s := by
 obtain ⟨oa, ea, pa, ta, Sa, Ta, Xa, Va⟩ := SA.setAt
 obtain ⟨ob, eb, pb, tb, Sb, Tb, Xb, Vb⟩ := SB.setAt
 have hTa : s.TypeIs (.ref a) "set" := ⟨oa, Sa.get, Sa.ex.1⟩
 have hTb : s.TypeIs (.ref b) "set" := ⟨ob, Sb.get, Sb.ex.1⟩
 refine wpAny_binaryOp_same hTa hTb PySem.F.fills_set_sub PySem.F.slot_set_sub (Yh PySem.F.slot_set_sub hTa PySem.F.set_sub_entry ?_ (PySem.F.args_set_sub_2 _ _))
 unfold Builtin.«frozenset.__sub__»
 wp_delta
 refine Qa (wpAny_of_eq (a := (Value.ref a, Value.ref b)) (by rfl) ?_)
 simp only [Qp, if_false]
 refine Qa ?_
 unfold andM
 refine Qa (zEa hTa ?_)
 show wpAny _ _ (Builtin.Frozenset.isAnySet (.ref b)) _ _ _
 refine zEa hTb ?_
 simp only [YG, Qp, if_false]
 unfold Builtin.Frozenset.addrOf
 refine Qa (Qb (Qa (zK0 hab (by show A.units + 1 < cLine; lia) SA SB hna fun h' r ks hr kp S mk => ?_)))
 exact Qb ⟨_, rfl, (fun z => nomatch z), h h' r ks hr kp S mk⟩
end
end ST
namespace SL
open PySem PySem.Spec PyProof.Rows L2 CL DL SD ST
def zE4 (g1 g2 : Rho -> Option (List (List Int))) : Rho -> Option (List (List Int)) := fun ρ => (g1 ρ).bind fun x => (g2 ρ).bind fun y => if x.length <= 63 then some (x.filter fun k => !y.contains k) else none
section
variable {X : Cx} {a b : Expr} {pos : Pos} {g1 g2 : Rho -> Option (List (List Int))}
theorem Ents.carry {pins pins' : List (Addr × Obj)} {σ σ' : L2.St} {H1 H2 : Hp} {s1 s2 : Shared} (I1 : Inv X pins σ H1 s1) (I2 : Inv X pins' σ' H2 s2) (sm : Same H1 H2) : ∀ {es : List (Int × Value)} {ks : List (List Int)}, Ents X.prog X.w s1.heap es ks -> (∀ e ∈ es, VT X.K H1 e.2) -> Ents X.prog X.w s2.heap es ks
 | _, _, .nil, _ => .nil
 | _, _, .cons (k := k) (b := bx) h1 r, hv => by
  obtain ⟨b', xs, e1, e2⟩ := hv _ Qf
  cases e1
  have : k = xs := h1.unique (zBi I1 e2)
  subst this
  exact .cons (zBi I2 (Same.sqT sm e2)) (Ents.carry I1 I2 sm r fun e he => hv e (Qe _ he))
theorem zLc (hc : X.calm = true) (hu : X.A.units + 66 < cLine) (ha : DSt X a g1) (hb : DSt X b g2) : DSv X (.BinOp a .Sub b pos) (zE4 g1 g2) := by
 intro pins s σ H Q I ⟨F, H₀, ρ, kl, S, q, k⟩
 obtain ⟨x, e1, q⟩ := bnd q
 obtain ⟨y, e2, q⟩ := bnd q
 by_cases c : x.length <= 63
 ·rw [if_pos c] at q
  cases q
  refine wpAny_BinOp (thn (ha pins s σ H (fun ks H1 => ks.Nodup /\ (∀ k, k ∈ ks ↔ k ∈ x) /\ ∃ F1, Ext F F1 H H1) I ⟨F, H₀, ρ, x, S, e1, fun F1 H1 ks E1 n1 m1 => ⟨n1, m1, F1, E1⟩⟩) fun u s1 zz => ?_)
  obtain ⟨a1, o1, ka, H1, eu, I1, S1, _, _, m1, F1, E1⟩ := zz
  refine thn (hb ((a1, o1) :: pins) s1 σ H1 (fun ks H2 => ks.Nodup /\ (∀ k, k ∈ ks ↔ k ∈ y) /\ ∃ F2, Ext F1 F2 H1 H2) I1 ⟨F1, H₀, ρ, y, S.ext E1, e2, fun F2 H2 ks E2 n2 m2 => ⟨n2, m2, F2, E2⟩⟩) fun v s2 zz => ?_
  obtain ⟨a2, o2, kb, H2, ev, I2, S2, ap, _, m2, F2, E2⟩ := zz
  subst eu
  subst ev
  have g1 : s2.heap.get? a1 = some o1 := (I2.pin (a1, o1) (Qu _ (Qe _ Qf))).1
  have hne : a1 ≠ a2 := ap (a1, o1) Qf
  have SA : SetT X.prog X.w (VT X.K H2) s2.heap a1 ka := by
   obtain ⟨o, es, ep, t, z1, z2, z3, z4, z5, z6, z7, z8⟩ := S1
   have : s1.heap.get? a1 = some o1 := (I1.pin (a1, o1) (Qu _ Qf)).1
   rw [z1] at this
   cases this
   exact ⟨_, es, ep, t, g1, z2, z3, z4, z5, Ents.carry I1 I2 E2.same z6 z8, z7, fun e he => by
    obtain ⟨b', xs, e1, e2⟩ := z8 e he
    exact ⟨b', xs, e1, Same.sqT E2.same e2⟩⟩
  refine zOq hne (by lia) SA S2 ?_ fun h' r ks hr kp SD mk => ?_
  ·have : ka.length <= x.length := Yo SA.nodup fun k h => (m1 k).mp h
   lia
  ·obtain ⟨o, es, ep, t, z1, z2, z3, z4, z5, z6, z7, z8⟩ := SD
   have I3 : Inv X pins σ H2 s2 := I2.pins_of fun p hp => I2.pin p (Qu _ (Qe _ (Qe _ hp)))
   have I4 : Inv X pins σ H2 { s2 with heap := h' } := I3.kept (t' := s2.toks) kp
   have I5 : Inv X ((r, o) :: pins) σ H2 { s2 with heap := h' } := by
    refine I4.pins_of fun p hp => ?_
    rcases Qk.mp hp with rfl | hp
    ·refine ⟨z1, I2.hok.fresh hr, YQ (QB I2.lt hr), I2.nofs hr, fun v hv => ?_⟩
     rw [z3] at hv
     exact nomatch hv
    ·exact I4.pin p (Qu _ hp)
   refine ⟨r, o, ks, H2, rfl, I5, ⟨es, ep, t, ⟨z1, z2, z3, z4.fits (by simp), z4.up, z5.1, z5.2⟩, z6, z7, z8⟩, k F2 H2 ks (E1.trans E2) z7 fun k => ?_⟩
   rw [mk k, m1 k, m2 k, QY]
   simp
 ·rw [if_neg c] at q; cases q
end
theorem zHe {X : Cx} {st : Stmt} : DS X st (fun _ => none) := fun pins s σ H W I q => by
 obtain ⟨F₀, H₀, F, ρ, o, E, S, q, k⟩ := q
 cases q
end SL
namespace DC
open PySem PyProof.Rows
theorem zMk : typeLookup (.type "list") "keys" = pure none := by rw [typeLookup_type, builtinLookup_eq_fast]; kernel_rfl
section
variable {prog : Program} {w : World} {A : Around} {E : Value -> Shared -> Prop} {s : Shared}
theorem zL4 {a : Addr} {o : Obj} {xs : Array Value} {k : Nat} {Q : Option Value -> Shared -> Prop} (hx : s.heap.get? a = some o) (hc : o.cls = .type "list") (hdat : o.data = .seq xs k) (hd : o.dict = none) (hA : A.handled = none)
  (h : ∀ h' tk, (∀ b ob, s.heap.get? b = some ob -> h'.get? b = some ob) -> Q none { s with heap := h', toks := tk }) : wpAny (model prog w) A (getAttr? (.ref a) "keys") Q E s := by
 obtain ⟨c, dct, dat, sl⟩ := o
 simp only at hc hdat hd
 subst hc hdat hd
 obtain ⟨hp, g, d, tk, os⟩ := s
 have hT : ∀ tk', (⟨hp, g, d, tk', os⟩ : Shared).TypeIs (.ref a) "list" := fun _ => ⟨_, hx, rfl⟩
 have f1 := sub_AttributeError
 have f3 := F.slot_list_getattribute.lookup
 have f4 := F.slot_list_getattribute.bind (.ref a)
 have f5 := am_list_getattr_none
 unfold getAttr? getAttrBy? getAttrBy
 repeat (any_goals (first | assumption | exact hT _ | ((with_reducible show wpAny _ _ (call (Value.builtin "list.__getattribute__") _ _) _ _ _); refine call_meets F.slot_list_getattribute (hT _) am_entry_list_getattribute (F.args_list_getattribute_2 _ _) (meets_getattribute_miss_list a xs k sl "keys" _ zMk (by decide +kernel)) ⟨hx, hA, fun h' tk' e hx' => ?_⟩) | wp_step))
 obtain ⟨t', u', he⟩ := hx'.there
 show wpAny _ _ (getattributeRaised _ _ _ _ _ _ _) _ _ _
 unfold getattributeRaised
 repeat (any_goals (first | assumption | wp_step))
 exact h _ _ hx'.keeps
end
theorem zHm : entryFor table "dict.update.loop" = some Builtin.«dict.update.loop» := entryFor_of_tree (by kernel_rfl)
theorem zEq : plainId "dict.update.loop" = true := by decide +kernel
section
variable {κ : Type} [DecidableEq κ]
def zBc (key : Nat -> κ) (kad : Nat -> Addr) (val : Nat -> Value) : Nat -> List (κ × Addr × Value)
 | 0 => []
 | i + 1 => storedH (zBc key kad val i) (key i) (kad i) (val i)
variable {key : Nat -> κ} {kad : Nat -> Addr} {val : Nat -> Value}
theorem zEQ : ∀ i, (zBc key kad val i).length <= i
 | 0 => Qh _
 | i + 1 => by
  have := zEQ i
  unfold zBc storedH
  split
  ·rw [Qj]; lia
  ·rw [Ql, QT]; lia
theorem zER : ∀ i, ∀ x ∈ zBc key kad val i, ∃ j, j < i /\ x.1 = key j /\ x.2.1 = kad j
 | 0, x, h => nomatch h
 | i + 1, x, h => by
  unfold zBc storedH at h
  split at h
  ·obtain ⟨y, hy, rfl⟩ := QJ.mp h
   obtain ⟨j, hj, e1, e2⟩ := zER i y hy
   refine ⟨j, by lia, ?_⟩
   unfold putAt
   split
   ·exact ⟨e1, e2⟩
   ·exact ⟨e1, e2⟩
  ·rcases Qz.mp h with h | h
   ·obtain ⟨j, hj, e⟩ := zER i x h
    exact ⟨j, by lia, e⟩
   ·rw [Qq] at h
    subst h
    exact ⟨i, by lia, rfl, rfl⟩
end
section
variable {prog : Program} {w : World} {κ : Type} [DecidableEq κ] {knd : HeapKind prog w κ} {A : Around} {R : Result -> Shared -> Prop} {I : Addr} {fp wr : List Addr} {G : Array GenState -> Array GenState -> Prop} {n : Nat} {Pv : Nat -> Value -> Prop} {St : Nat -> Shared -> Prop}
theorem zKZ (W : WalksS prog w A.in1 I fp wr G n Pv St) (S : Addr) (hSf : S ∉ fp) (hu : knd.room A.in1) (key : Nat -> κ) (kad : Nat -> Addr) (val : Nat -> Value) (s0 : Heap) (res : Value)
  (hmono : ∀ (h h' : Heap) k b, knd.is h k b -> (∀ b o, h.get? b = some o -> h'.get? b = some o) -> knd.is h' k b)
  (hold : ∀ b o, s0.get? b = some o -> b ≠ S /\ b ∉ wr) (hval : ∀ i v, i < n -> Pv i v -> ∃ b, v = .ref b /\ s0.IsTuple b #[.ref (kad i), val i]) (hkey : ∀ i, i < n -> knd.is s0 (key i) (kad i)) (hb : n <= 1000) :
  ∀ (k i : Nat) (s : Shared) (c : Int) (t : Tok), n - i = k -> i <= n -> St i s -> (∀ b o, s0.get? b = some o -> s.heap.get? b = some o) ->
   s.heap.DictOfH knd S (zBc key kad val i) ->
   (∀ s', Moved (S :: wr) G s s' -> (∀ b o, s0.get? b = some o -> s'.heap.get? b = some o) -> s'.heap.DictOfH knd S (zBc key kad val n) -> R (.ok (.ret res)) s') ->
   codeAny (model prog w) A (.builtin "dict.update.loop" ⟨[.ref S, .ref I, .int c t, res], []⟩) R s := by
 have hSw : S ∉ wr := fun h => hSf (W.sub _ h)
 have hsub : ∀ b ∈ wr, b ∈ S :: wr := fun b hb => Qe _ hb
 have hmv : ∀ (s s' : Shared) i, i <= n -> Moved wr G s s' -> (∀ b o, s0.get? b = some o -> s'.heap.get? b = some o) -> s.heap.DictOfH knd S (zBc key kad val i) -> s'.heap.DictOfH knd S (zBc key kad val i) := fun s s' i hi hm h0 hS => by
  obtain ⟨o, es, ep, ho, hex, hd, he, his, hnd⟩ := hS
  refine ⟨o, es, ep, hm.heap S _ hSw ho, hex, hd, he, fun x hx => ?_, hnd⟩
  obtain ⟨j, hj, e1, e2⟩ := zER i x hx
  rw [e1, e2]
  exact hmono _ _ _ _ (hkey j (by lia)) h0
 intro k
 induction k with
 | zero =>
  intro i s c t hk hi hst h0 hS hR
  have hin : i = n := by lia
  subst hin
  refine Y0 zHm ?_
  rw [Y5 zEq _]
  show wpAny _ A.in1 (pyNext (.ref I) >>= _) _ _ s
  refine Qa (W.done s _ _ hst fun s' hm => ?_)
  show wpAny _ A.in1 (Builtin.Dict.addKeywords S [] >>= fun _ => ret res) _ _ s'
  have h0' : ∀ b o, s0.get? b = some o -> s'.heap.get? b = some o := fun b o e => hm.heap b o (hold b o e).2 (h0 b o e)
  exact Qa (Qb (Qb (hR s' (hm.mono hsub) h0' (hmv s s' i (Qh _) hm h0' hS))))
 | succ k ih =>
  intro i s c t hk hi hst h0 hS hR
  have hlt : i < n := by lia
  refine Y0 zHm ?_
  rw [Y5 zEq _]
  show wpAny _ A.in1 (pyNext (.ref I) >>= _) _ _ s
  refine Qa (W.item i s _ _ hlt hst fun v s' hP hst' hm => ?_)
  obtain ⟨b, rfl, ot, hot, hct, nt, hdt⟩ := hval i v hlt hP
  have h0' : ∀ b o, s0.get? b = some o -> s'.heap.get? b = some o := fun b o e => hm.heap b o (hold b o e).2 (h0 b o e)
  have hS' := hmv s s' i (by lia) hm h0' hS
  have hk1 : knd.is s'.heap (key i) (kad i) := hmono _ _ _ _ (hkey i hlt) h0'
  refine Qa (Q8 (Qa (wpAny_tryCatch ?_)))
  unfold Builtin.Dict.pairItems
  refine Qa (Y3 (T := "tuple") ⟨ot, h0' _ _ hot, hct⟩ ?_)
  rw [if_pos (by decide)]
  refine Qa (wpAny_seqItems (h0' _ _ hot) hdt (Qb ?_))
  show wpAny _ A.in1 (holding [Value.ref (kad i), val i] (dictSet S (.ref (kad i)) (val i))) _ _ s'
  refine Q8 (wpAny_dictSet_heap hu hk1 hS' (fun h' hd' hsb => ?_) (Qx (zEQ i) (by rw [sizeLine]; lia)))
  have hmoved : Moved (S :: wr) G s { s' with heap := h', toks := s'.toks + knd.draws (key i) } :=
   (hm.mono hsub).then_heap (Yn _ _) fun b o hb e => by rw [hsb.2 b (fun h : b = S => hb (by rw [h]; exact Qf))]; exact e
  refine Qb ⟨plainId_quiet zEq _, ih (i + 1) _ (c + 1) 0 (by lia) hlt (W.frame _ s' _ _ hst' (Yn _ _) fun b hb o e => ?_) (fun b o e => ?_) hd' fun s'' hm'' h0'' hS'' => ?_⟩
  ·rw [hsb.2 b (fun h : b = S => hSf (by rw [<- h]; exact hb))]; exact e
  ·show h'.get? b = some o
   rw [hsb.2 b (hold b o e).1]; exact h0' b o e
  ·exact hR s'' (Moved.trans W.gtrans hmoved hm'') h0'' hS''
end
end DC
namespace DC
open PySem PyProof.Rows
section
variable {prog : Program} {w : World} {κ : Type} [DecidableEq κ] {knd : HeapKind prog w κ} {A : Around} {E : Value -> Shared -> Prop} {s : Shared}
theorem zKg {l : Addr} {items : Array Value} {nl : Nat} {sl : Array (Option Value)} {Q : Value -> Shared -> Prop} (key : Nat -> κ) (kad : Nat -> Addr) (val : Nat -> Value)
  (hmono : ∀ (h h' : Heap) k b, knd.is h k b -> (∀ b o, h.get? b = some o -> h'.get? b = some o) -> knd.is h' k b)
  (hh : A.handled = none) (hu : ∀ B : Around, B.units <= A.units + 8 -> knd.room B) (hl : s.heap.get? l = some { cls := .type "list", dict := none, data := .seq items nl, slots := sl })
  (hi : ∀ i v, items[i]? = some v -> ∃ b, v = .ref b /\ s.heap.IsTuple b #[.ref (kad i), val i]) (hk : ∀ i, i < items.size -> knd.is s.heap (key i) (kad i)) (hb : items.size <= 1000)
  (h : ∀ (h' : Heap) (tk : Nat), h'.DictOfH knd s.heap.objs.size (zBc key kad val items.size) -> (∀ b o, s.heap.get? b = some o -> h'.get? b = some o) -> Q (.ref s.heap.objs.size) { s with heap := h', toks := tk }) :
  wpAny (model prog w) A (call (.type "dict") [.ref l]) Q E s := by
 refine callType_codes (Q₁ := fun obj s₁ => obj = .ref s.heap.objs.size /\ s₁ = { s with heap := s.heap.push { cls := .type "dict", data := .dict #[] } }) F.kt_called_dict (F.kt_typeCall_dict_1 _) F.entry_dict_init (kt_code_dict_new _ ⟨rfl, rfl⟩) ?_
 rintro obj s₁ ⟨rfl, rfl⟩
 have hnew : (s.heap.push { cls := .type "dict", data := .dict #[] }).DictOfH knd s.heap.objs.size [] := Heap.DictOfH.new s.heap
 have hl' : (s.heap.push { cls := .type "dict", data := .dict #[] }).get? l = some { cls := .type "list", dict := none, data := .seq items nl, slots := sl } := Qc _ hl
 refine ⟨hnew.typeIs, F.args_dict_init_2 _ _, ?_⟩
 unfold Builtin.«dict.__init__»
 refine Qa ?_
 unfold Builtin.Dict.selfAndRest
 refine Qa (wpAny_notOrdered_dict hnew.typeIs ?_)
 show wpAny _ _ (pure (s.heap.objs.size, [Value.ref l])) _ _ _
 refine Qb ?_
 show wpAny _ _ (Builtin.Dict.updateFrom "dict.__init__" s.heap.objs.size (.ref l) [] .none) _ _ _
 unfold Builtin.Dict.updateFrom
 refine Qa (Y3 (T := "list") ⟨_, hl', rfl⟩ ?_)
 rw [if_pos (by decide)]
 refine Qa (zL4 hl' rfl rfl rfl (by first | exact hh | simp [hh]) fun h₂ tk₂ keep₂ => ?_)
 rw [if_pos (by decide)]
 have hl2 : h₂.IsList l items := ⟨_, keep₂ _ _ hl', rfl, nl, rfl⟩
 refine Qa (wpAny_rule (Qa (wpAny_pyIter_list (s := { s with heap := h₂, toks := tk₂ }) hl2 ?_)))
 refine Qb ⟨plainId_quiet zEq _, ?_⟩
 have hS2 : h₂.get? s.heap.objs.size = some { cls := .type "dict", data := .dict #[] } := keep₂ _ _ (Qt _ rfl)
 have hSlt : s.heap.objs.size < h₂.objs.size := Qm hS2
 have hlS : l < s.heap.objs.size := Qm hl
 have hneI : l ≠ h₂.objs.size := Qy (Nat.lt_trans hlS hSlt)
 have hh2 : A.in1.in1.handled = none := by simp [hh]
 have hkeep : ∀ b o, s.heap.get? b = some o -> (h₂.push { cls := Value.type "list_iterator", data := Data.fields #[Value.ref l, Value.int 0 0] }).get? b = some o := fun b o e =>
  Qc _ (keep₂ b o (Qc _ e))
 refine zKZ (knd := knd) ((Walks.list hh2 h₂.objs.size l hneI items).toS) s.heap.objs.size ?hSf (hu _ (by show A.units + 1 + 1 <= _; lia)) key kad val s.heap .none hmono ?hold (fun i v _ hv => hi i v hv) (fun i hi' => hk i hi') hb (items.size - 0) 0 _ 0 0 (by lia) (QU _)
  ⟨⟨_, Qt _ rfl, rfl, rfl⟩, hl2.push _⟩ hkeep ?hS0 ?hR
 case hSf =>
  simp only [Qk, Qq, List.not_mem_nil, or_false, not_or]
  exact ⟨Qy hSlt, YQ hlS⟩
 case hold =>
  intro b o e
  have hlt : b < s.heap.objs.size := Qm e
  refine ⟨Qy hlt, fun hm => ?_⟩
  have hb' : b = h₂.objs.size := Qq.mp hm
  rw [hb'] at hlt
  exact absurd (Nat.lt_trans hlt hSlt) (Y7 _)
 case hS0 => exact ⟨_, #[], 0, Qc _ hS2, ⟨rfl, rfl, rfl⟩, rfl, rfl, fun _ hx => by simp [zBc] at hx, Jq⟩
 case hR =>
  intro s' hm h0 hS'
  obtain ⟨h', g', d', tk', os'⟩ := s'
  have eg : g' = s.gens := hm.gens
  have ed : d' = s.drawn := hm.drawn
  have eo : os' = s.os := hm.os
  subst eg; subst ed; subst eo
  exact ⟨rfl, h h' tk' hS' h0⟩
end
end DC
namespace DC
open PySem PySem.Spec PyProof.Rows L2 DL ST SL
def decT : D -> Option (List Int)
 | .tuple ds => zBy ds
 | _ => none
theorem zH6 : ∀ ks : List Int, zBy (ks.map PyData.int) = some ks
 | [] => rfl
 | k :: ks => by show (zBy (ks.map PyData.int)).bind _ = _; rw [zH6 ks]; rfl
theorem zKS (ks : List Int) : decT (encT ks) = some ks := zH6 ks
theorem zE0 {K : PySem.W.Frag} {H : Hp} {k : DKey} {b : Addr} {ks : List Int} (h : zB1 K H k b) : decT (encK k) = some ks ↔ k = .inl ks := by
 cases k with
 | inl js =>
  show decT (encT js) = some ks ↔ _
  rw [zKS]
  constructor
  ·intro e; cases e; rfl
  ·intro e; cases e; rfl
 | inr kss =>
  obtain ⟨n, _⟩ := h
  cases kss with
  | nil => exact absurd rfl n
  | cons x xs =>
   constructor
   ·intro e; cases e
   ·intro e; cases e
theorem zCl {K : PySem.W.Frag} {F : Addr -> Prop} {H : Hp} {d : D} {v : V} {ks : List Int} (r : Rep K F H d v) (h : decT d = some ks) : ∃ b, v = .ref b /\ SqT K H b (ks.map V.int) := by
 cases r with
 | @tup a vs ds h1 r1 =>
  rw [zD8 r1 (show zBy ds = some ks from h)] at h1
  exact ⟨a, rfl, h1⟩
 | _ => cases h
def hasD (kvs : List (D × D)) (k : List Int) : Bool := kvs.any fun p => decT p.1 == some k
def getD (kvs : List (D × D)) (k : List Int) : Option D := (kvs.find? fun p => decT p.1 == some k).map (·.2)
def putD (kvs : List (D × D)) (k : List Int) (v : D) : List (D × D) := if hasD kvs k = true then kvs.map fun p => if (decT p.1 == some k) = true then (p.1, v) else p else kvs ++ [(encT k, v)]
abbrev Ent := DKey × Addr × V
def hasE (es : List Ent) (k : List Int) : Bool := es.any fun e => decide (e.1 = .inl k)
def putE (es : List Ent) (k : List Int) (b : Addr) (v : V) : List Ent := if hasE es k = true then es.map fun e => if e.1 = .inl k then (e.1, e.2.1, v) else e else es ++ [(.inl k, b, v)]
theorem zEx {K : PySem.W.Frag} {H : Hp} {k : DKey} {b : Addr} {ks : List Int} (h : zB1 K H k b) : (decT (encK k) == some ks) = decide (k = .inl ks) := by
 by_cases c : k = .inl ks
 ·rw [decide_eq_true c, (zE0 h).mpr c, beq_self_eq_true]
 ·rw [decide_eq_false c]
  exact beq_eq_false_iff_ne.mpr fun e => c ((zE0 h).mp e)
section
variable {K : PySem.W.Frag} {F : Addr -> Prop} {H : Hp}
theorem DReps.has : ∀ {kvs : List (D × D)} {es : List Ent} (k : List Int), DReps K F H kvs es -> hasD kvs k = hasE es k
 | _, _, _, .nil => rfl
 | _, _, k, .cons h r t => by
  have := DReps.has k t
  unfold hasD hasE at this ⊢
  rw [Jm, Jm, this, zEx h]
theorem DReps.append : ∀ {kvs kvs' : List (D × D)} {es es' : List Ent}, DReps K F H kvs es -> DReps K F H kvs' es' -> DReps K F H (kvs ++ kvs') (es ++ es')
 | _, _, _, _, .nil, s => s
 | _, _, _, _, .cons h r t, s => .cons h r (DReps.append t s)
theorem DReps.repl {k : List Int} {d : D} {v : V} (hv : Rep K F H d v) : ∀ {kvs : List (D × D)} {es : List Ent}, DReps K F H kvs es ->
  DReps K F H (kvs.map fun p => if (decT p.1 == some k) = true then (p.1, d) else p) (es.map fun e => if e.1 = .inl k then (e.1, e.2.1, v) else e)
 | _, _, .nil => .nil
 | _, _, @DReps.cons _ _ _ k' b d' v' _ _ h r t => by
  rw [Qo, Qo]
  by_cases c : k' = .inl k
  ·rw [if_pos (by rw [zEx h, decide_eq_true c]), if_pos c]
   exact .cons h hv (DReps.repl hv t)
  ·rw [if_neg (by rw [zEx h, decide_eq_false c]; decide), if_neg c]
   exact .cons h r (DReps.repl hv t)
theorem DReps.put {k : List Int} {b : Addr} {d : D} {v : V} {kvs : List (D × D)} {es : List Ent} (t : DReps K F H kvs es) (hk : SqT K H b (k.map V.int)) (hv : Rep K F H d v) : DReps K F H (putD kvs k d) (putE es k b v) := by
 unfold putD putE
 rw [DReps.has k t]
 by_cases c : hasE es k = true
 ·rw [if_pos c, if_pos c]; exact DReps.repl hv t
 ·rw [if_neg c, if_neg c]; exact DReps.append t (.cons (k := .inl k) hk hv .nil)
theorem DReps.get : ∀ {kvs : List (D × D)} {es : List Ent} (k : List Int) {d : D}, DReps K F H kvs es -> getD kvs k = some d -> ∃ b v, (es.find? fun e => decide (e.1 = .inl k)) = some (.inl k, b, v) /\ Rep K F H d v
 | _, _, _, _, .nil, h => by cases h
 | _, _, k, d, @DReps.cons _ _ _ k' b d' v' _ _ h r t, e => by
  unfold getD at e
  rw [YL] at e
  rw [YL, zEx h] at *
  by_cases c : k' = .inl k
  ·rw [decide_eq_true c] at e ⊢
   cases e
   subst c
   exact ⟨b, v', rfl, r⟩
  ·rw [decide_eq_false c] at e ⊢
   exact DReps.get k t e
theorem DReps.length : ∀ {kvs : List (D × D)} {es : List Ent}, DReps K F H kvs es -> kvs.length = es.length
 | _, _, .nil => rfl
 | _, _, .cons h r t => by simp [DReps.length t]
def zAG (kvs : List (D × D)) : Bool := kvs.all fun p => (decT p.1).isSome
theorem DReps.flat : ∀ {kvs : List (D × D)} {es : List Ent}, DReps K F H kvs es -> zAG kvs = true -> ∀ e ∈ es, ∃ ks, e.1 = .inl ks /\ SqT K H e.2.1 (ks.map V.int)
 | _, _, .nil, _, e, he => nomatch he
 | _, _, .cons h r t, f, e, he => by
  unfold zAG at f
  rw [List.all_cons, QH] at f
  rcases Qk.mp he with rfl | he
  ·obtain ⟨ks, q⟩ := Y8.mp f.1
   have := (zE0 h).mp q
   refine ⟨ks, this, ?_⟩
   dsimp only at this ⊢
   subst this
   exact h
  ·exact DReps.flat t f.2 e he
end
abbrev Raw := List Int × Addr × Value
abbrev ER : Ent -> Raw -> Prop := fun e x => e.1 = .inl x.1 /\ e.2.1 = x.2.1 /\ RelV e.2.2 x.2.2
theorem zD1 (k : List Int) : ∀ {es : List Ent} {xs : List Raw}, Paired ER es xs -> hasE es k = (atKey xs k).isSome
 | _, _, .nil => rfl
 | _, _, @Paired.cons _ _ _ e x es xs h t => by
  have ih := zD1 k t
  unfold hasE at ih ⊢
  rw [Jm, ih]
  by_cases c : x.1 = k
  ·have a : atKey (x :: xs) k = some x.2 := by simp [atKey, YL, c]
   rw [a, decide_eq_true (by rw [h.1, c])]; rfl
  ·have a : atKey (x :: xs) k = atKey xs k := by simp [atKey, YL, c]
   rw [a, decide_eq_false (by rw [h.1]; intro z; cases z; exact c rfl)]; rfl
theorem zHo {k : List Int} {v : V} {u : Value} (hv : RelV v u) : ∀ {es : List Ent} {xs : List Raw}, Paired ER es xs -> Paired ER (es.map fun e => if e.1 = .inl k then (e.1, e.2.1, v) else e) (xs.map (putAt k u))
 | _, _, .nil => .nil
 | _, _, @Paired.cons _ _ _ e x es xs h t => by
  rw [Qo, Qo]
  refine .cons ?_ (zHo hv t)
  unfold putAt
  by_cases c : x.1 = k
  ·rw [if_pos c, if_pos (by rw [h.1, c])]; exact ⟨h.1, h.2.1, hv⟩
  ·rw [if_neg c, if_neg (by rw [h.1]; intro z; cases z; exact c rfl)]; exact h
theorem zE9 {k : List Int} {b : Addr} {v : V} {u : Value} (hv : RelV v u) {es : List Ent} {xs : List Raw} (t : Paired ER es xs) : Paired ER (putE es k b v) (storedH xs k b u) := by
 unfold putE storedH
 rw [zD1 k t]
 by_cases c : (atKey xs k).isSome = true
 ·rw [if_pos c, if_pos c]; exact zHo hv t
 ·rw [if_neg c, if_neg c]; exact Paired.snoc t ⟨rfl, rfl, hv⟩
theorem zE8 : ∀ {es : List Ent} {xs : List Raw}, Paired ER es xs -> es.map (·.1) = (xs.map (·.1)).map Sum.inl
 | _, _, .nil => rfl
 | _, _, .cons h t => by rw [Qo, Qo, Qo, zE8 t, h.1]
theorem zE7 {k : List Int} {b : Addr} {v : V} : ∀ {es : List Ent} {xs : List Raw}, Paired ER es xs -> (es.find? fun e => decide (e.1 = .inl k)) = some (.inl k, b, v) -> ∃ p, atKey xs k = some p /\ RelV v p.2
 | _, _, .nil, q => by cases q
 | _, _, @Paired.cons _ _ _ e x es xs h t, q => by
  rw [YL] at q
  by_cases c : x.1 = k
  ·have a : atKey (x :: xs) k = some x.2 := by simp [atKey, YL, c]
   rw [decide_eq_true (by rw [h.1, c])] at q
   cases q
   exact ⟨_, a, h.2.2⟩
  ·have a : atKey (x :: xs) k = atKey xs k := by simp [atKey, YL, c]
   rw [decide_eq_false (by rw [h.1]; intro z; cases z; exact c rfl)] at q
   rw [a]
   exact zE7 t q
theorem zMA {l : List (List Int)} (h : l.Nodup) : (l.map (Sum.inl : List Int -> DKey)).Nodup := by
 rw [List.Nodup, Q5]
 exact List.Pairwise.imp (fun n e => n (Sum.inl.inj e)) h
theorem zMB {l : List (List Int)} (h : (l.map (Sum.inl : List Int -> DKey)).Nodup) : l.Nodup := by
 rw [List.Nodup, Q5] at h
 exact List.Pairwise.imp (fun n e => n (by rw [e])) h
abbrev TKd (P : Program) (w : World) : HeapKind P w (List Int) := tupleKind (intKind P w)
theorem zCC {X : Cx} {pins : List (Addr × Obj)} {σ : L2.St} {H : Hp} {s : Shared} {a : Addr} {es : List Ent} {ep : Nat} (I : Inv X pins σ H s) (h : H a = some (DctO a es ep)) (hf : ∀ e ∈ es, ∃ ks, e.1 = .inl ks /\ SqT X.K H e.2.1 (ks.map V.int)) (hn : (es.map (·.1)).Nodup) :
  (a == sysModules) = false /\ ∃ xs : List Raw, s.heap.DictOfH (TKd X.prog X.w) a xs /\ Paired ER es xs := by
 obtain ⟨⟨lo, o, raw, h1, h2, h3, h4⟩, _⟩ := (show zAN X.prog X.w H s.heap a (DctO a es ep) from I.hok a _ h)
 have mk : ∀ {l : List Ent} {r : List DictEntry}, Paired (fun (e : DKey × Addr × V) (r : DictEntry) => r.hash = zH0 e.1 /\ r.key = .ref e.2.1 /\ RelV e.2.2 r.val) l r -> (∀ e ∈ l, ∃ ks, e.1 = .inl ks /\ SqT X.K H e.2.1 (ks.map V.int)) ->
   ∃ xs : List Raw, r = xs.map (entryOfKey (TKd X.prog X.w)) /\ Paired ER l xs /\ ∀ x ∈ xs, (TKd X.prog X.w).is s.heap x.1 x.2.1 := by
  intro l r q
  induction q with
  | nil => exact fun _ => ⟨[], rfl, .nil, fun x hx => nomatch hx⟩
  | @cons e r l rs h t ih =>
   intro hf
   obtain ⟨xs, q1, q2, q3⟩ := ih fun e he => hf e (Qe _ he)
   obtain ⟨ks, e1, e2⟩ := hf e Qf
   refine ⟨(ks, e.2.1, r.val) :: xs, ?_, .cons ⟨e1, rfl, h.2.2⟩ q2, fun x hx => ?_⟩
   ·rw [Qo, <- q1]
    congr 1
    obtain ⟨rh, rk, rv⟩ := r
    obtain ⟨z1, z2, z3⟩ := h
    dsimp only at z1 z2 ⊢
    subst z1 z2
    rw [e1]
    rfl
   ·rcases Qk.mp hx with rfl | hx
    ·exact zBi I e2
    ·exact q3 x hx
 obtain ⟨xs, q1, q2, q3⟩ := mk h4 hf
 refine ⟨lo, xs, ⟨o, raw, ep, h1, h2, h3, q1, q3, ?_⟩, q2⟩
 rw [zE8 q2] at hn
 exact zMB hn
theorem zDU {P : Program} {w : World} {H : Hp} {h : Heap} {a : Addr} {es : List Ent} {xs : List Raw} (lo : (a == sysModules) = false) (d : h.DictOfH (TKd P w) a xs) (r : Paired ER es xs) : ∃ ep, zAN P w H h a (DctO a es ep) := by
 obtain ⟨o, raw, ep, h1, h2, h3, h4, h5, h6⟩ := d
 clear h5 h6
 refine ⟨ep, ⟨lo, o, raw, h1, h2, h3, ?_⟩, ⟨o, h1⟩, fun h1' h2' ⟨lo, o, raw, g1, g2⟩ k => ⟨lo, o, raw, k _ g1, g2⟩⟩
 rw [h4]
 clear h1 h2 h3 h4
 induction r with
 | nil => exact .nil
 | @cons e x es xs h t ih =>
  rw [Qo]
  refine .cons ⟨?_, ?_, h.2.2⟩ ih
  ·rw [h.1]; rfl
  ·rw [h.2.1]; rfl
end DC
namespace DC
open PySem PySem.Spec PyProof.Rows L2 DL ST SL
section
variable {X : Cx}
def dIn2 (neg : Bool) (d e : D) : Option D := match e with
 | .dict kvs => (decT d).bind fun k => if zAG kvs = true then some (.bool (if neg then !hasD kvs k else hasD kvs k)) else none
 | e => dIn neg d e
theorem zDS {neg : Bool} {d r : D} {kvs : List (D × D)} (h : dIn2 neg d (.dict kvs) = some r) : ∃ k, decT d = some k /\ zAG kvs = true /\ r = .bool (if neg then !hasD kvs k else hasD kvs k) := by
 obtain ⟨k, e1, q⟩ := bnd (show ((decT d).bind fun k => if zAG kvs = true then some (PyData.bool (if neg then !hasD kvs k else hasD kvs k)) else none) = some r from h)
 by_cases c : zAG kvs = true
 ·rw [if_pos c] at q; cases q; exact ⟨k, e1, c, rfl⟩
 ·rw [if_neg c] at q; cases q
theorem zEm (hu : X.A.units + 65 < cLine) : OpR X (compareOp .In) (rD2 X.K (dIn2 false)) := fun pins s σ H x y v u Q I rx ry zz => by
 obtain ⟨F, d, e, q, z, R1, R2, hq, k⟩ := zz
 cases R2 with
 | @dct a es kvs ep f h n l t =>
  obtain ⟨ks, e1, fl, rfl⟩ := zDS hq
  obtain ⟨b, rfl, hb⟩ := zCl R1 e1
  cases rx
  cases ry
  obtain ⟨lo, xs, dd, er⟩ := zCC I h (DReps.flat t fl) n
  refine wpAny_in_heap (knd := TKd X.prog X.w) (k := ks) (show X.A.in1.units < cLine from by show X.A.units + 1 < cLine; lia) (zBi I hb) lo dd ?_
  rw [<- zD1 ks er, <- DReps.has ks t]
  exact ⟨.bl _, H, I.tok _, rfl, k F H _ (Ext.refl F H) (.bl _)⟩
 | exn f h n =>
  obtain ⟨ks, e1, fl, _⟩ := zDS hq
  cases fl
 | tup h r => exact zEl hu pins s σ H _ _ v u Q I rx ry ⟨F, d, _, q, z, R1, .tup h r, hq, k⟩
 | lst h r => exact zEl hu pins s σ H _ _ v u Q I rx ry ⟨F, d, _, q, z, R1, .lst h r, hq, k⟩
 | non => cases hq
 | bl _ => cases hq
 | int _ => cases hq
 | str _ => cases hq
theorem zDz (hu : X.A.units + 65 < cLine) : OpR X (compareOp .NotIn) (rD2 X.K (dIn2 true)) := fun pins s σ H x y v u Q I rx ry zz => by
 obtain ⟨F, d, e, q, z, R1, R2, hq, k⟩ := zz
 cases R2 with
 | @dct a es kvs ep f h n l t =>
  obtain ⟨ks, e1, fl, rfl⟩ := zDS hq
  obtain ⟨b, rfl, hb⟩ := zCl R1 e1
  cases rx
  cases ry
  obtain ⟨lo, xs, dd, er⟩ := zCC I h (DReps.flat t fl) n
  refine wpAny_notIn_heap (knd := TKd X.prog X.w) (k := ks) (show X.A.in1.units < cLine from by show X.A.units + 1 < cLine; lia) (zBi I hb) lo dd ?_
  rw [<- zD1 ks er, <- DReps.has ks t]
  exact ⟨.bl _, H, I.tok _, rfl, k F H _ (Ext.refl F H) (.bl _)⟩
 | exn f h n =>
  obtain ⟨ks, e1, fl, _⟩ := zDS hq
  cases fl
 | tup h r => exact zFS hu pins s σ H _ _ v u Q I rx ry ⟨F, d, _, q, z, R1, .tup h r, hq, k⟩
 | lst h r => exact zFS hu pins s σ H _ _ v u Q I rx ry ⟨F, d, _, q, z, R1, .lst h r, hq, k⟩
 | non => cases hq
 | bl _ => cases hq
 | int _ => cases hq
 | str _ => cases hq
def dIx2 (d e : D) : Option D := match d with
 | .dict kvs => (decT e).bind fun k => if zAG kvs = true then getD kvs k else none
 | d => dIx d e
theorem ixd2 (hu : X.A.units + 65 < cLine) : IxR X (rD2 X.K dIx2) := fun value slice pins s σ H x y v u Q I rx ry zz hs => by
 obtain ⟨F, d, e, q, z, R1, R2, hq, k⟩ := zz
 cases R1 with
 | @dct a es kvs ep f h n l t =>
  obtain ⟨ks, e1, hq⟩ := bnd (show ((decT e).bind fun k => if zAG kvs = true then getD kvs k else none) = some q from hq)
  by_cases fl : zAG kvs = true
  ·rw [if_pos fl] at hq
   obtain ⟨b, rfl, hb⟩ := zCl R2 e1
   cases rx
   cases ry
   obtain ⟨lo, xs, dd, er⟩ := zCC I h (DReps.flat t fl) n
   obtain ⟨b', v', g1, g2⟩ := DReps.get ks t hq
   obtain ⟨p, g3, g4⟩ := zE7 er g1
   have hT := dd.typeIs
   unfold subscriptTail
   refine Qa ?_
   rw [Jn hT.not_modules]
   refine Qa (Jl hT PySem.F.slot_dict_getitem.lookup ?_)
   have fin : wpAny (model X.prog X.w) X.A (subscripted slice false (.ref a) (.ref b)) (fun r s₃ => wpAny (model X.prog X.w) X.A (letTemporaryGo value (.ref a) r >>= fun _ => pure r) (EP X pins σ Q) X.xe s₃) X.xe s := by
    rw [hs]
    refine wpAny_operating ?_
    refine wpAny_getItem_heap (knd := TKd X.prog X.w) (k := ks) (show X.A.in1.units < cLine from by show X.A.units + 1 < cLine; lia) (zBi I hb) dd g3 ?_
    exact Qa (Jr (Qb ⟨v', H, I.tok _, g4, k F H _ (Ext.refl F H) g2⟩))
   first
    | exact Qb (Qa fin)
    | exact Qa (Qb (Qa fin))
    | exact Qa fin
  ·rw [if_neg fl] at hq; cases hq
 | exn f h n =>
  obtain ⟨ks, e1, hq⟩ := bnd hq
  cases hq
 | tup h r => exact ixd value slice pins s σ H _ _ v u Q I rx ry ⟨F, _, e, q, z, .tup h r, R2, hq, k⟩ hs
 | lst h r => exact ixd value slice pins s σ H _ _ v u Q I rx ry ⟨F, _, e, q, z, .lst h r, R2, hq, k⟩ hs
 | non => cases hq
 | bl _ => cases hq
 | int _ => cases hq
 | str _ => cases hq
end
end DC
namespace DC
open PySem PySem.Spec PyProof.Rows L2 DL ST SL
def zDA : D -> Option (List Int × D)
 | .tuple [k, v] => (decT k).bind fun ks => some (ks, v)
 | _ => none
def zBJ : List D -> Option (List (List Int × D))
 | [] => some []
 | d :: r => (zDA d).bind fun p => (zBJ r).bind fun ps => some (p :: ps)
def zB7 (ps : List (List Int × D)) : List (D × D) := ps.foldl (fun kvs p => putD kvs p.1 p.2) []
def zET : List D -> Option D
 | [.list ds] => if ds.length <= 1000 then (zBJ ds).bind fun ps => some (.dict (zB7 ps)) else none
 | _ => none
structure Tr where
 k : List Int
 b : Addr
 v : V
 d : D
def TrOk (K : PySem.W.Frag) (F : Addr -> Prop) (H : Hp) (x : V) (t : Tr) : Prop := ∃ b, x = .ref b /\ SqT K H b [.ref t.b, t.v] /\ SqT K H t.b (t.k.map V.int) /\ Rep K F H t.d t.v
theorem zMX {K : PySem.W.Frag} {F : Addr -> Prop} {H : Hp} {d : D} {x : V} {p : List Int × D} (r : Rep K F H d x) (h : zDA d = some p) : ∃ t, p = (t.k, t.d) /\ TrOk K F H x t := by
 cases r with
 | @tup a vs ds h1 r1 =>
  unfold zDA at h
  split at h
  ·rename_i k v e
   cases e
   obtain ⟨ks, e1, h⟩ := bnd h
   cases h
   cases r1 with
   | cons rk r2 =>
    cases r2 with
    | cons rv r3 =>
     cases r3
     obtain ⟨b, rfl, hb⟩ := zCl rk e1
     exact ⟨⟨ks, b, _, v⟩, rfl, a, rfl, h1, hb, rv⟩
  ·cases h
 | _ => cases h
theorem zIP {K : PySem.W.Frag} {F : Addr -> Prop} {H : Hp} : ∀ {ds : List D} {vs : List V} {ps : List (List Int × D)}, Reps K F H ds vs -> zBJ ds = some ps -> ∃ ts : List Tr, ps = ts.map (fun t => (t.k, t.d)) /\ Paired (TrOk K F H) vs ts
 | _, _, _, .nil, h => by cases h; exact ⟨[], rfl, .nil⟩
 | _, _, _, .cons r rs, h => by
  obtain ⟨p, e1, h⟩ := bnd h
  obtain ⟨ps, e2, h⟩ := bnd h
  cases h
  obtain ⟨t, rfl, q⟩ := zMX r e1
  obtain ⟨ts, rfl, q2⟩ := zIP rs e2
  exact ⟨t :: ts, rfl, .cons q q2⟩
theorem Paired.at {α β : Type} {R : α -> β -> Prop} : ∀ {l : List α} {m : List β} {i : Nat} {a : α}, Paired R l m -> l[i]? = some a -> ∃ b, m[i]? = some b /\ R a b
 | _, _, _, _, .nil, e => by simp at e
 | _, _, 0, _, .cons h _, e => by simp at e; subst e; exact ⟨_, rfl, h⟩
 | _, _, i + 1, _, .cons _ t, e => by
  obtain ⟨b, h1, h2⟩ := Paired.at t (by simpa using e)
  exact ⟨b, by simpa using h1, h2⟩
theorem Paired.atR {α β : Type} {R : α -> β -> Prop} : ∀ {l : List α} {m : List β} {i : Nat} {b : β}, Paired R l m -> m[i]? = some b -> ∃ a, l[i]? = some a /\ R a b
 | _, _, _, _, .nil, e => by simp at e
 | _, _, 0, _, .cons h _, e => by simp at e; subst e; exact ⟨_, rfl, h⟩
 | _, _, i + 1, _, .cons _ t, e => by
  obtain ⟨b, h1, h2⟩ := Paired.atR t (by simpa using e)
  exact ⟨b, by simpa using h1, h2⟩
theorem pick {P : Nat -> Value -> Prop} (n : Nat) (h : ∀ i, i < n -> ∃ u, P i u) : ∃ f : Nat -> Value, ∀ i, i < n -> P i (f i) := by
 classical
 refine ⟨fun i => if c : i < n then Classical.choose (h i c) else .none, fun i hi => ?_⟩
 show P i (if c : i < n then Classical.choose (h i c) else .none)
 rw [dif_pos hi]
 exact Classical.choose_spec (h i hi)
def Tr0 : Tr := ⟨[], 0, .non, .none⟩
theorem zHB {K : PySem.W.Frag} {F : Addr -> Prop} {H : Hp} (ts : List Tr) (val : Nat -> Value) (hk : ∀ t ∈ ts, SqT K H t.b (t.k.map V.int) /\ Rep K F H t.d t.v) (hv : ∀ (i : Nat) t, ts[i]? = some t -> RelV t.v (val i)) :
  ∀ i, i <= ts.length -> ∃ es, DReps K F H (zB7 ((ts.map fun t => (t.k, t.d)).take i)) es /\ Paired ER es (zBc (fun i => (ts.getD i Tr0).k) (fun i => (ts.getD i Tr0).b) val i)
 | 0, _ => ⟨[], .nil, .nil⟩
 | i + 1, hi => by
  obtain ⟨es, h1, h2⟩ := zHB ts val hk hv i (by lia)
  have hlt : i < ts.length := hi
  have hg : ts[i]? = some ts[i] := by simp [hlt]
  have hD : ts.getD i Tr0 = ts[i] := by simp [List.getD, hlt]
  have hm := hk ts[i] (YF hlt)
  refine ⟨putE es ts[i].k ts[i].b ts[i].v, ?_, ?_⟩
  ·have e : (ts.map fun t => (t.k, t.d)).take (i + 1) = (ts.map fun t => (t.k, t.d)).take i ++ [(ts[i].k, ts[i].d)] := by
    rw [List.take_succ, QP, hg]; rfl
   rw [e]
   unfold zB7
   rw [List.foldl_append]
   exact DReps.put h1 hm.1 hm.2
  ·show Paired ER _ (storedH _ (ts.getD i Tr0).k (ts.getD i Tr0).b (val i))
   rw [hD]
   exact zE9 (hv i _ hg) h2
section
variable {X : Cx}
theorem boot_dict : bootBuiltins "dict" = some (.type "dict") := by decide +kernel
theorem zOD {P : Program} {w : World} (h h' : Heap) (k : List Int) (b : Addr) (x : (TKd P w).is h k b) (e : ∀ b o, h.get? b = some o -> h'.get? b = some o) : (TKd P w).is h' k b := TK.at x fun o ho => e b o ho
theorem zEP {pins : List (Addr × Obj)} {σ : L2.St} {H : Hp} {s : Shared} (I : Inv X pins σ H s) : sysModules < s.heap.objs.size := by
 have h : mainGlobals < s.heap.objs.size := (I.mod.glob.keeps I.bk).lt
 exact Nat.lt_trans (by decide) h
def rDict (K : PySem.W.Frag) : List V -> Hp -> VK -> Prop := fun xs H Q => ∃ (F : Addr -> Prop) (ds : List D) (ps : List (List Int × D)), (∀ a, F a -> H a ≠ none) /\ Reps K F H [.list ds] xs /\ ds.length <= 1000 /\ zBJ ds = some ps /\
 ∀ p es ep, H p = none -> DReps K F H (zB7 ps) es -> (es.map (·.1)).Nodup -> es.length <= 1000 -> Q (.ref p) (upd H p (DctO p es ep))
theorem zGX (hc : X.calm = true) (hu : X.A.units + 66 < cLine) : zAH X (.type "dict") (rDict X.K) := fun pins s σ H xs us Q I rv zz => by
 obtain ⟨F, ds, ps, z, R, hl, e1, k⟩ := zz
 cases R with
 | cons R1 R2 =>
  cases R2
  cases R1 with
  | @lst a vs _ h1 r1 =>
   obtain ⟨u, rfl, ru⟩ := zBU rv
   cases ru
   obtain ⟨its, rvs, ⟨o, nl, g1, g2, g3, g4⟩, _⟩ := I.list h1.sq
   obtain ⟨ts, rfl, pr⟩ := zIP r1 e1
   have hlen : its.length = ts.length := by rw [<- rvs.length]; exact Paired.length pr
   have hts : ts.length <= 1000 := by rw [<- Paired.length pr, <- r1.length]; exact hl
   obtain ⟨val, hval⟩ := pick (P := fun i u => ∀ t, ts[i]? = some t -> RelV t.v u /\ ∀ v, its[i]? = some v -> ∃ b, v = .ref b /\ s.heap.IsTuple b #[.ref t.b, u]) ts.length fun i hi => by
    have hg : ts[i]? = some ts[i] := by simp [hi]
    obtain ⟨x, hx, b, rfl, t1, t2, t3⟩ := Paired.atR pr hg
    obtain ⟨jts, rj, itp, _⟩ := I.tuple t1
    cases rj with
    | @cons _ u1 _ us1 ra rb =>
     cases rb with
     | @cons _ u2 _ us2 rc rd =>
      cases rd
      cases ra
      refine ⟨u2, fun t ht => ?_⟩
      rw [hg] at ht; cases ht
      refine ⟨rc, fun v hv => ?_⟩
      obtain ⟨w', ew, rw'⟩ := rvs.get hx
      rw [hv] at ew; cases ew
      cases rw'
      exact ⟨b, rfl, itp⟩
   obtain ⟨oc, od, odt, osl⟩ := o
   have hob : s.heap.get? a = some { cls := .type "list", dict := none, data := .seq its.toArray nl, slots := osl } := by
    rw [g1]; simp only at g2 g3 g4; rw [g2, g3, g4]
   refine zKg (knd := TKd X.prog X.w) (fun i => (ts.getD i Tr0).k) (fun i => (ts.getD i Tr0).b) val zOD (I.ok.hd hc) (fun B hB => show B.units < cLine by lia) hob (fun i v hv => ?_) (fun i hi => ?_) (by rw [QF, hlen]; exact hts) fun h' tk dd keep => ?_
   ·have hv' : its[i]? = some v := by simpa using hv
    have hi : i < ts.length := by rw [<- hlen]; exact (Qd.mp hv').1
    have hg : ts[i]? = some ts[i] := by simp [hi]
    have hD : ts.getD i Tr0 = ts[i] := by simp [List.getD, hi]
    obtain ⟨b, e, it⟩ := (hval i hi _ hg).2 v hv'
    exact ⟨b, e, by rw [hD]; exact it⟩
   ·have hi' : i < ts.length := by rw [<- hlen]; simpa using hi
    have hg : ts[i]? = some ts[i] := by simp [hi']
    have hD : ts.getD i Tr0 = ts[i] := by simp [List.getD, hi']
    obtain ⟨x, hx, b, _, t1, t2, t3⟩ := Paired.atR pr hg
    show TK X.prog X.w s.heap (ts.getD i Tr0).k (ts.getD i Tr0).b
    rw [hD]
    exact zBi I t2
   ·obtain ⟨es, f1, f2⟩ := zHB (K := X.K) (F := F) (H := H) ts val (fun t ht => by
     obtain ⟨i, hi⟩ := List.mem_iff_getElem?.mp ht
     obtain ⟨x, hx, b, _, t1, t2, t3⟩ := Paired.atR pr hi
     exact ⟨t2, t3⟩) (fun i t ht => (hval i (Qd.mp ht).1 t ht).1) ts.length (Qh _)
    rw [List.take_of_length_le (by simp)] at f1
    have hsz : its.toArray.size = ts.length := by rw [QF, hlen]
    rw [hsz] at dd
    have lo : (s.heap.objs.size == sysModules) = false := beq_eq_false_iff_ne.mpr (Ne.symm (Qy (zEP I)))
    have hp : H s.heap.objs.size = none := I.hok.fresh (Qh _)
    obtain ⟨ep, oo⟩ := zDU (H := H) lo dd f2
    refine ⟨.ref s.heap.objs.size, upd H s.heap.objs.size (DctO s.heap.objs.size es ep), I.laid keep (Qh _) oo, rfl, k _ es ep hp f1 ?_ ?_⟩
    ·obtain ⟨_, _, _, _, _, _, _, _, hn⟩ := dd
     rw [zE8 f2]; exact zMA hn
    ·rw [Paired.length f2]; exact Qx (zEQ _) hts
theorem zKs (hc : X.calm = true) (hu : X.A.units + 66 < cLine) : zAH X (.type "dict") (rDA X.K zET) := zB3 (zGX hc hu) fun xs H Q zz => by
 obtain ⟨F, ds, q, z, R, hq, k⟩ := zz
 unfold zET at hq
 split at hq
 ·rename_i ds'
  by_cases hl : ds'.length <= 1000
  ·rw [if_pos hl] at hq
   obtain ⟨ps, e1, hq⟩ := bnd hq
   cases hq
   exact ⟨F, ds', ps, z, R, hl, e1, fun p es ep hp r n l => k _ _ _ (Ext.frozen hp) (.dct (.inr rfl) zAL n l (r.stay (Ext.frozen hp).stay))⟩
  ·rw [if_neg hl] at hq; cases hq
 ·cases hq
end
end DC
namespace DC
open PySem PySem.Spec PyProof.Rows L2 DL ST SL EL
def iSeq (ga : Rho -> Option D) : Rho -> Option (List D) := fun ρ => (ga ρ).bind seqD
def zA0 (gr : Rho -> Option (List D)) : Rho -> Option (List D) := fun ρ => (gr ρ).bind rng1
def iZip (gr : Rho -> Option (List D)) : Rho -> Option (List D) := fun ρ => (gr ρ).bind zipD
section
variable {X : Cx} {tg e a b : Expr} {es : List Expr} {ga : Rho -> Option D} {gr : Rho -> Option (List D)} {p pos : Pos}
theorem zAZ (ha : DE X e ga) : DI X tg e (iSeq ga) := zG6 ha
theorem zB6 (hg : Gl X "range") (hm : X.mg "range" = none) (ha : DA X [a] gr) (hs : starEach [a] X.env = [(false, eval a X.env)] := by rfl) : DI X tg (.Call (.Name "range" p) [a] [] pos) (zA0 gr) := zKX hg hm ha hs
theorem zKW {elts : List Expr} {x1} {tpos : Pos} (hg : Gl X "zip") (hm : X.mg "zip" = none) (ha : DA X [a, b] gr) (hs : starEach [a, b] X.env = [(false, eval a X.env), (false, eval b X.env)] := by rfl) (hs2 : starEach [b] X.env = [(false, eval b X.env)] := by rfl) :
  DI X (.Tuple elts x1 tpos) (.Call (.Name "zip" p) [a, b] [] pos) (iZip gr) := zKY hg hm ha hs hs2
end
end DC
namespace DL
open PySem PySem.Spec PyProof.Rows L2
def isOD : Sl -> Bool
 | .ownD _ | .ownM _ => true
 | _ => false
def oneD (i : Nat) (ρ : Rho) : Bool := (ρ.set i .no).all fun s => !isOD s
theorem zIK {i j : Nat} {ρ : Rho} {s : Sl} (h : oneD i ρ = true) (hj : ρ[j]? = some s) (hs : isOD s = true := by rfl) : i = j := by
 by_cases c : i = j
 ·exact c
 ·have : (ρ.set i .no)[j]? = some s := by rw [Qs c]; exact hj
  have := QS.mp h _ (QL this)
  rw [hs] at this
  cases this
theorem StOk.putOwnD {K : PySem.W.Frag} {F : Addr -> Prop} {H H₀ : Hp} {σ : L2.St} {ρ : List Sl} (S : StOk K F H H₀ σ ρ) {i : Nat} {kvs : List (D × D)} {es : List (DKey × Addr × V)} {ep : Nat} {p : Addr} (hp : H p = none) (h0 : H₀ p = none) (n : (es.map (·.1)).Nodup) (l : es.length <= 1000) (r : DReps K F H kvs es) :
  StOk K F (upd H p (DctO p es ep)) H₀ (σ.set i (some (.ref p))) (ρ.set i (.ownD kvs)) := by
 have e : Ext F F H (upd H p (DctO p es ep)) := Ext.fresh hp
 have S' := S.ext e
 have hf : ¬ F p := fun f => S.fz p f hp
 refine ⟨by simp [S.len], fun j s h => ?_, fun j k a ds' es' hjk h1 h2 h3 h4 => ?_, S'.fz⟩
 ·by_cases hij : i = j
  ·subst hij
   have hl : i < ρ.length := by
    have := Qd.mp h
    simpa using this.1
   rw [Qv hl] at h
   cases h
   exact ⟨some (.ref p), by rw [Qv (by rw [S.len]; exact hl)], p, es, ep, rfl, zAL, hf, h0, n, l, r.stay e.stay⟩
  ·rw [Qs hij] at h
   obtain ⟨o, q, w⟩ := S'.sl j s h
   exact ⟨o, by rw [Qs hij]; exact q, w⟩
 ·have nm : ∀ (m : Nat) (es : List D), (ρ.set i (.ownD kvs))[m]? = some (.own es) -> i ≠ m := fun m es g z => by
   subst z
   by_cases hl : i < ρ.length
   ·rw [Qv hl] at g; cases g
   ·rw [List.getElem?_eq_none (by simpa using Jb hl)] at g; cases g
  have nj := nm j ds' h1
  have nk := nm k es' h2
  rw [Qs nj] at h1 h3
  rw [Qs nk] at h2 h4
  exact S.sep j k a ds' es' hjk h1 h2 h3 h4
theorem StOk.turnD {K : PySem.W.Frag} {F : Addr -> Prop} {H H₀ : Hp} {σ : L2.St} {ρ : List Sl} (S : StOk K F H H₀ σ ρ) {i : Nat} {kvs kvs' : List (D × D)} {es es' : List (DKey × Addr × V)} {ep ep' : Nat} {p : Addr} (hi : ρ[i]? = some (.ownD kvs)) (hs : σ[i]? = some (some (.ref p)))
  (hp : H p = some (DctO p es ep)) (hf : ¬ F p) (h0 : H₀ p = none) (one : oneD i ρ = true) (n : (es'.map (·.1)).Nodup) (l : es'.length <= 1000) (r : DReps K F H kvs' es') :
  StOk K F (upd H p (DctO p es' ep')) H₀ σ (ρ.set i (.ownD kvs')) /\ Stay K F F H (upd H p (DctO p es' ep')) := by
 have T : Stay K F F H (upd H p (DctO p es' ep')) := ⟨fun _ h => h, fun a xs h => by
   rcases h with (h | ⟨o, h⟩) | h
   ·exact .inl (.inl (by rw [zAm (by intro z; subst z; rw [hp] at h; cases h)]; exact h))
   ·exact .inl (.inr ⟨o, by rw [zAm (by intro z; subst z; rw [hp] at h; cases h)]; exact h⟩)
   ·exact .inr h, fun a xs f h => by
   have na : a ≠ p := fun z => hf (by rw [<- z]; exact f)
   rcases h with h | ⟨o, h⟩
   ·exact .inl (by rw [zAm na]; exact h)
   ·exact .inr ⟨o, by rw [zAm na]; exact h⟩, fun a φ f h => by rw [zAm (fun z => hf (by rw [<- z]; exact f))]; exact h⟩
 have hl : i < ρ.length := (Qd.mp hi).1
 refine ⟨⟨by simp [S.len], fun j s h => ?_, fun j k a ds' es2 hjk h1 h2 h3 => ?_, fun a f z => S.fz a f (by
  have na : a ≠ p := fun y => hf (by rw [<- y]; exact f)
  rwa [zAm na] at z)⟩, T⟩
 ·by_cases hij : i = j
  ·subst hij
   rw [Qv hl] at h
   cases h
   exact ⟨_, hs, p, es', ep', rfl, zAL, hf, h0, n, l, r.stay T⟩
  ·rw [Qs hij] at h
   obtain ⟨o, q, w⟩ := S.sl j s h
   refine ⟨o, q, ?_⟩
   cases s with
   | no => trivial
   | ownD k2 => exact absurd (zIK one h) hij
   | ownM k2 => exact absurd (zIK one h) hij
   | dat d => obtain ⟨v, q', r'⟩ := w; exact ⟨v, q', r'.stay T⟩
   | own ds' =>
    obtain ⟨a, ws, q', ha, nf, h0', r'⟩ := w
    exact ⟨a, ws, q', by rw [zAm (by intro z; subst z; rw [hp] at ha; cases ha)]; exact ha, nf, h0', r'.stay T⟩
 ·have nm : ∀ (m : Nat) (es : List D), (ρ.set i (.ownD kvs'))[m]? = some (.own es) -> i ≠ m := fun m es g z => by
   subst z
   rw [Qv hl] at g; cases g
  have nj := nm j ds' h1
  have nk := nm k es2 h2
  rw [Qs nj] at h1
  rw [Qs nk] at h2
  exact S.sep j k a ds' es2 hjk h1 h2 h3
end DL
namespace DC
open PySem PySem.Spec PyProof.Rows L2 DL ST SL EL
def zEw (i : Nat) (gr : Rho -> Option (List D)) : Rho -> Option Out := fun ρ => (gr ρ).bind fun xs => match xs with
 | [.list ds] => if ds.length <= 1000 then (zBJ ds).bind fun ps => some (.nx (ρ.set i (.ownD (zB7 ps)))) else none
 | _ => none
def zBw (i : Nat) (gk : Rho -> Option D) : Rho -> Option D := fun ρ => match ρ[i]? with
 | some (.ownD kvs) => (gk ρ).bind fun kd => (decT kd).bind fun ks => if zAG kvs = true then getD kvs ks else none
 | _ => none
def sPut (i : Nat) (gk gv : Rho -> Option D) : Rho -> Option Out := fun ρ => match ρ[i]? with
 | some (.ownD kvs) => (gv ρ).bind fun d => (gk ρ).bind fun kd => (decT kd).bind fun ks => if (zAG kvs && decide (kvs.length < 1000) && oneD i ρ) = true then some (.nx (ρ.set i (.ownD (putD kvs ks d)))) else none
 | _ => none
section
variable {X : Cx} {e k v : Expr} {es : List Expr} {gr : Rho -> Option (List D)} {gk gv : Rho -> Option D} {p pos : Pos}
theorem zK7 {i : Nat} {x y : Str} {pos' pos'' : Pos} (hN : X.N.Nodup) (hc : X.calm = true) (hu : X.A.units + 66 < cLine) (hg : Gl X y) (hm : X.mg y = none) (hv : bootBuiltins y = some (.type "dict")) (ha : DA X (e :: es) gr) (hi : X.N[i]? = some x := by rfl) (hx : Loc X.env.scope x := by first | exact Or.inl rfl | exact Or.inr rfl)
  (hn : y ≠ "__name__" := by decide) (hdb : (y == ("__debug__" : Str)) = false := by decide) (he : starEach (e :: es) X.env = (false, eval e X.env) :: starEach es X.env := by rfl) (hpl : (backTo pos'' (starEach es X.env)).any (·.1) = false := by rfl)
  (hs : swapsWith (.Call (.Name y p) (e :: es) [] pos'') (some (.Name x pos')) pos.line X.env = pure false := by rfl) (hf : X.fn x = true ∨ X.env.scope.names.lookup x = some .local := by first | exact .inl rfl | exact .inr rfl | assumption) :
  DS X (.Assign [.Name x pos'] (.Call (.Name y p) (e :: es) [] pos'') pos) (zEw i gr) := ps_mono (zCk hN hi hx (zIS (zGX hc hu) hg hm hv ha hn hdb he hpl) hs hf) fun W σ H zz => by
 obtain ⟨F₀, H₀, F, ρ, o, E, S, q, k⟩ := zz
 obtain ⟨xs, e1, q⟩ := bnd q
 split at q
 ·rename_i ds
  by_cases hl : ds.length <= 1000
  ·rw [if_pos hl] at q
   obtain ⟨ps, e2, q⟩ := bnd q
   cases q
   refine ⟨F, H₀, ρ, [.list ds], S, e1, fun F' H' vs E' R' => ⟨F', ds, ps, (S.ext E').fz, R', hl, e2, fun pp es ep hp r n l => ?_⟩⟩
   exact k F' _ _ ((E.trans E').trans (Ext.fresh hp)) (E'.stay.trans (Ext.fresh hp).stay) ((S.ext E').putOwnD hp ((E.trans E').same.free hp) n l r)
  ·rw [if_neg hl] at q; cases q
 ·cases q
def rOwn (K : PySem.W.Frag) : R2 := fun x y H Q => ∃ (F : Addr -> Prop) (a b : Addr) (es : List Ent) (ep : Nat) (kvs : List (D × D)) (ks : List Int) (r : D), x = .ref a /\ y = .ref b /\ SqT K H b (ks.map V.int) /\ H a = some (DctO a es ep) /\ (es.map (·.1)).Nodup /\ zAG kvs = true /\ DReps K F H kvs es /\ getD kvs ks = some r /\ ∀ w, Rep K F H r w -> Q w H
theorem zLT (hu : X.A.units + 65 < cLine) : IxR X (rOwn X.K) := fun value slice pins s σ H x y v u Q I rx ry zz hs => by
 obtain ⟨F, a, b, es, ep, kvs, ks, q, ex, ey, hb, h, n, fl, t, hq, k⟩ := zz
 subst ex ey
 cases rx
 cases ry
 obtain ⟨lo, xs, dd, er⟩ := zCC I h (DReps.flat t fl) n
 obtain ⟨b', v', g1, g2⟩ := DReps.get ks t hq
 obtain ⟨p, g3, g4⟩ := zE7 er g1
 have hT := dd.typeIs
 unfold subscriptTail
 refine Qa ?_
 rw [Jn hT.not_modules]
 refine Qa (Jl hT PySem.F.slot_dict_getitem.lookup ?_)
 have fin : wpAny (model X.prog X.w) X.A (subscripted slice false (.ref a) (.ref b)) (fun r s₃ => wpAny (model X.prog X.w) X.A (letTemporaryGo value (.ref a) r >>= fun _ => pure r) (EP X pins σ Q) X.xe s₃) X.xe s := by
  rw [hs]
  refine wpAny_operating ?_
  refine wpAny_getItem_heap (knd := TKd X.prog X.w) (k := ks) (show X.A.in1.units < cLine from by show X.A.units + 1 < cLine; lia) (zBi I hb) dd g3 ?_
  exact Qa (Jr (Qb ⟨v', H, I.tok _, g4, k _ g2⟩))
 first
  | exact Qb (Qa fin)
  | exact Qa (Qb (Qa fin))
  | exact Qa fin
theorem zG3 {i : Nat} {x : Str} (hu : X.A.units + 65 < cLine) (hk : DE X k gk) (hN : X.N[i]? = some x := by rfl) (hv : Vis X.env.scope x := by first | exact Or.inl rfl | exact Or.inr (Or.inl rfl) | exact Or.inr (Or.inr rfl)) (hd : (x == ("__debug__" : Str)) = false := by decide)
  (hcd : (x == ("__classdict__" : Str)) = false := by decide) (hs : zDe k := by exact fun _ _ => rfl) : DE X (.Subscript (.Name x p) k pos) (zBw i gk) :=
 zAK (zEp (zLT hu) (zCS hN hv hd hcd) hk hs) fun σ H Q zz => by
  obtain ⟨F, H₀, ρ, d, S, q, kk⟩ := zz
  unfold zBw at q
  split at q
  ·rename_i kvs e0
   obtain ⟨kd, e1, q⟩ := bnd q
   obtain ⟨ks, e2, q⟩ := bnd q
   by_cases fl : zAG kvs = true
   ·rw [if_pos fl] at q
    obtain ⟨a, es, ep, q1, q2, q3, q4, q5, q6, q7⟩ := S.ownD e0
    refine ⟨.ref a, q1, F, H₀, ρ, kd, S, e1, fun F1 H1 kv E1 R1 => ?_⟩
    obtain ⟨b, rfl, hb⟩ := zCl R1 e2
    exact ⟨F1, a, b, es, ep, kvs, ks, d, rfl, rfl, hb, E1.same _ _ q2, q5, fl, q7.stay E1.stay, q, fun w R => kk F1 H1 w E1 R⟩
   ·rw [if_neg fl] at q; cases q
  ·cases q
theorem zNF {es : List Ent} {k : List Int} {b : Addr} {v : V} (h : (es.map (·.1)).Nodup) : ((putE es k b v).map (·.1)).Nodup := by
 unfold putE
 by_cases c : hasE es k = true
 ·rw [if_pos c, Yg]
  have : (es.map ((fun x => x.1) ∘ fun (e : Ent) => if e.1 = .inl k then (e.1, e.2.1, v) else e)) = es.map (·.1) := by
   refine Jw fun e _ => ?_
   show (if e.1 = .inl k then (e.1, e.2.1, v) else e).1 = e.1
   split <;> rfl
  rw [this]; exact h
 ·rw [if_neg c, Ya, List.nodup_append]
  refine ⟨h, by simp, fun x hx y hy z => ?_⟩
  subst z
  simp only [Qo, List.map_nil, Qq] at hy
  subst hy
  obtain ⟨e, he, e1⟩ := QJ.mp hx
  exact c (List.any_eq_true.mpr ⟨e, he, decide_eq_true e1⟩)
theorem zNG {es : List Ent} {k : List Int} {b : Addr} {v : V} : (putE es k b v).length <= es.length + 1 := by
 unfold putE
 split
 ·rw [Qj]; lia
 ·rw [Ql, QT]; lia
theorem zHc {i : Nat} {x : Str} {p' tpos : Pos} (hu : X.A.units + 65 < cLine) (hk : DE X k gk) (hv : DE X v gv) (hN : X.N[i]? = some x := by rfl) (hvs : Vis X.env.scope x := by first | exact Or.inl rfl | exact Or.inr (Or.inl rfl) | exact Or.inr (Or.inr rfl)) (hd : (x == ("__debug__" : Str)) = false := by decide)
  (hcd : (x == ("__classdict__" : Str)) = false := by decide) (hs : swapsWith v (some (.Subscript (.Name x p') k tpos)) pos.line X.env = pure false := by rfl) : DS X (.Assign [.Subscript (.Name x p') k tpos] v pos) (sPut i gk gv) := by
 intro pins s σ H W I ⟨F₀, H₀, F, ρ, o, E, S, q, kk⟩
 unfold sPut at q
 split at q
 ·rename_i kvs e0
  obtain ⟨d, e1, q⟩ := bnd q
  obtain ⟨kd, e2, q⟩ := bnd q
  obtain ⟨ks, e3, q⟩ := bnd q
  by_cases c : (zAG kvs && decide (kvs.length < 1000) && oneD i ρ) = true
  ·rw [if_pos c] at q
   cases q
   simp only [QH, decide_eq_true_eq] at c
   obtain ⟨⟨fl, ln⟩, one⟩ := c
   refine wpAny_Assign_Subscript (thn (hv pins s σ H (fun w H1 => ∃ F1, Ext F F1 H H1 /\ Rep X.K F1 H1 d w) I ⟨F, H₀, ρ, d, S, e1, fun F1 H1 w E1 R1 => ⟨F1, E1, R1⟩⟩) fun u s1 ⟨w, H1, I1, rw1, F1, E1, R1⟩ => ?_) hs
   have S1 := S.ext E1
   obtain ⟨a, es, ep, q1, q2, q3, q4, q5, q6, q7⟩ := S1.ownD e0
   refine thn ((zCS hN hvs hd hcd) pins s1 σ H1 (fun z H2 => z = .ref a /\ H2 = H1) I1 ⟨.ref a, q1, rfl, rfl⟩) fun u2 s2 zz => ?_
   obtain ⟨z, H2, I2, rz, ez, eh⟩ := zz
   subst ez eh
   cases rz
   refine thn (hk pins s2 σ H2 (fun y H3 => ∃ F3, Ext F1 F3 H2 H3 /\ Rep X.K F3 H3 kd y) I2 ⟨F1, H₀, ρ, kd, S1, e2, fun F3 H3 y E3 R3 => ⟨F3, E3, R3⟩⟩) fun u3 s3 zz => ?_
   obtain ⟨y, H3, I3, ry, F3, E3, R3⟩ := zz
   obtain ⟨b, rfl, hb⟩ := zCl R3 e3
   cases ry
   have S3 := S1.ext E3
   have hH := E3.same _ _ q2
   have t3 := q7.stay (K := X.K) E3.stay
   obtain ⟨lo, xs, dd, er⟩ := zCC I3 hH (DReps.flat t3 fl) q5
   have hxl : xs.length <= sizeLine := by rw [<- Paired.length er]; exact Qx q6 (by rw [Q3]; lia)
   refine wpAny_setItem_heap (knd := TKd X.prog X.w) (k := ks) (show X.A.in1.units < cLine from by show X.A.units + 1 < cLine; lia) (zBi I3 hb) dd (fun h' dd' hsb => ?_) hxl
   have hnf : ¬ F3 a := fun f => by
    rcases E3.new a f with f | ⟨f, _⟩
    ·exact q3 f
    ·rw [q2] at f; cases f
   have ln' : es.length < 1000 := by rw [<- DReps.length q7]; exact ln
   obtain ⟨ep', oo⟩ := zDU (H := H3) lo dd' (zE9 rw1 er)
   obtain ⟨T1, T2⟩ := S3.turnD (ep' := ep') e0 q1 hH hnf q4 one (zNF (k := ks) (b := b) (v := w) q5) (Qx zNG ln') (DReps.put t3 hb (R1.stay E3.stay))
   have I4 : Inv X pins σ (upd H3 a (DctO a (putE es ks b w) ep')) { s3 with heap := h', toks := s3.toks + (TKd X.prog X.w).draws ks } := I3.write (x := a) (e := a) (t' := s3.toks + (TKd X.prog X.w).draws ks) (by rw [hH]; exact True.intro) (.inl rfl) (fun c ob hc z => (hsb.2 c hc).trans z) (let ⟨o2, _, _, hq, _⟩ := dd'; ⟨o2, hq⟩) oo
   exact ⟨σ, _, I4, kk F3 _ σ (((E.trans E1).trans E3).turn q4) ((E1.stay.trans E3.stay).trans T2) T1⟩
  ·rw [if_neg c] at q; cases q
 ·cases q
end
end DC
namespace DC
open PySem PySem.Spec PyProof.Rows L2 DL ST SL EL
def RDt (h : Heap) (a : Addr) (raw : Array DictEntry) (ep : Nat) : Prop := (a == sysModules) = false /\ ∃ o, h.get? a = some o /\ o.ExactDict /\ o.data = .dict raw ep
section
variable {P : Program} {w : World} {A : Around} {E : Value -> Shared -> Prop} {s : Shared} {d it : Addr} {raw : Array DictEntry} {ep i : Nat}
theorem RDt.ty (h : RDt s.heap d raw ep) : s.TypeIs (.ref d) "dict" := let ⟨_, o, h1, h2, _⟩ := h; ⟨o, h1, h2.1⟩
theorem zH9 {Q : Value -> Shared -> Prop} (h : RDt s.heap d raw ep) (hQ : Q (.ref s.heap.objs.size) { s with heap := s.heap.push { cls := .type "dict_keyiterator", data := .fields #[.ref d, .int 0 0, .int raw.size 0, .int ep 0] } }) : wpAny (model P w) A (pyIter (.ref d)) Q E s := by
 have hT := h.ty
 obtain ⟨lo, o, h1, h2, h3⟩ := h
 refine wpAny_pyIter_slot hT PySem.F.slot_dict_iter (Yh PySem.F.slot_dict_iter hT PySem.F.entry_dict_iter ?_ (PySem.F.args_dict_iter_1 _))
 unfold Builtin.«dict.__iter__»; refine Qa ?_; unfold Builtin.Dict.dictSlotNone
 refine Qa (wpAny_notOrdered_dict hT ?_); show wpAny _ _ (pure (Value.ref d)) _ _ s; refine Qb ?_
 show wpAny _ _ (Builtin.Dict.showsAll d >>= _) _ _ s; unfold Builtin.Dict.showsAll
 rw [if_neg (by rw [lo]; exact Qw)]; refine Qa (Qb (Qa (wpAny_dictEntries h1 h3 ?_)))
 refine Qa (wpAny_dictEpoch h1 h3 (Qa (Yd (Qb ⟨_, rfl, "dict_keyiterator", _, ⟨_, Qt _ rfl, rfl⟩, PySem.F.slot_dict_keyiterator_next.lookup, ?_⟩))))
 simpa [rawInt] using hQ
theorem zID {Q : Option Value -> Shared -> Prop} (hit : s.heap.IsKeyIter it d i raw.size ep) (h : RDt s.heap d raw ep) (hi : i < raw.size)
  (hQ : ∀ h', h'.IsKeyIter it d (i + 1) raw.size ep -> Heap.SameBut it s.heap h' -> Q (some raw[i].key) { s with heap := h' }) : wpAny (model P w) A (pyNext (.ref it)) Q E s := by
 obtain ⟨o, ho, hc, hd⟩ := id hit
 obtain ⟨lo, od, g1, g2, g3⟩ := h
 unfold pyNext
 refine Qa (wpAny_attempt (Yx (name := Str.ofString "__next__") hit.typeIs PySem.F.slot_dict_keyiterator_next (Yh PySem.F.slot_dict_keyiterator_next hit.typeIs PySem.F.entry_dict_keyiterator_next ?_ (PySem.F.args_dict_keyiterator_next_1 _))))
 refine Qa (Qb (Qa (Qa ?_)))
 refine Qa (YI hit.typeIs (Qb (Qa (wpAny_fieldsOf ho hd ?_))))
 simp only [show Builtin.Dict_items.ownsTuple "dict_keyiterator" = false from by decide, Qp, if_false]
 show wpAny _ _ (if (Value.ref d == Value.none) = true then _ else _) _ _ s; rw [if_neg (show ¬ ((Value.ref d == Value.none) = true) from Qw)]
 refine Qa (Qb (Qa (wpAny_dictEntries g1 g3 ?_)))
 rw [if_neg (by simp)]; refine Qa (Qb (Qa (wpAny_dictEpoch g1 g3 ?_))); rw [if_neg (by simp)]; refine Qb ?_
 simp only [show ¬ ((i : Int) < 0) from by lia, if_false, Jo, QC hi]; refine Qa ?_
 refine Qa (YI hit.typeIs (Qb (Qa (wpAny_isOneOf_keyiter hit.typeIs ?_))))
 show wpAny _ _ (setField (.ref it) 1 (rawInt ((i : Int) + 1)) >>= _) _ _ s; refine Qa (YH ho hd (by simp) ?_)
 have hit' : (s.heap.update it (Obj.mapFields (·.setIfInBounds 1 (rawInt ((i : Int) + 1))))).IsKeyIter it d (i + 1) raw.size ep := ⟨_, Q1 _ ho (YY (Yk hd _)), (Obj.cls_mapFields ..).trans hc, by rw [Yk hd]; simp [rawInt]⟩
 refine Qa (Q8 (Qa (wpAny_isOneOf_keyiter (s := { s with heap := s.heap.update it (Obj.mapFields (·.setIfInBounds 1 (rawInt ((i : Int) + 1)))) }) hit'.typeIs ?_)))
 show wpAny _ _ (pure raw[i].key) _ _ _; exact Qb (Qb ⟨_, rfl, Qb (hQ _ hit' (Q9 ..))⟩)
theorem zHl {Q : Option Value -> Shared -> Prop} (hh : A.handled = none) (hit : s.heap.IsKeyIter it d i raw.size ep) (h : RDt s.heap d raw ep) (hi : raw.size <= i)
  (hQ : ∀ h', Heap.ExtBut it s.heap h' -> Q none { s with heap := h' }) : wpAny (model P w) A (pyNext (.ref it)) Q E s := by
 obtain ⟨o, ho, hc, hd⟩ := id hit
 obtain ⟨lo, od, g1, g2, g3⟩ := h
 unfold pyNext
 refine Qa (wpAny_attempt (Yx (name := Str.ofString "__next__") hit.typeIs PySem.F.slot_dict_keyiterator_next (Yh PySem.F.slot_dict_keyiterator_next hit.typeIs PySem.F.entry_dict_keyiterator_next ?_ (PySem.F.args_dict_keyiterator_next_1 _))))
 refine Qa (Qb (Qa (Qa ?_)))
 refine Qa (YI hit.typeIs (Qb (Qa (wpAny_fieldsOf ho hd ?_))))
 simp only [show Builtin.Dict_items.ownsTuple "dict_keyiterator" = false from by decide, Qp, if_false]
 show wpAny _ _ (if (Value.ref d == Value.none) = true then _ else _) _ _ s; rw [if_neg (show ¬ ((Value.ref d == Value.none) = true) from Qw)]
 refine Qa (Qb (Qa (wpAny_dictEntries g1 g3 ?_)))
 rw [if_neg (by simp)]; refine Qa (Qb (Qa (wpAny_dictEpoch g1 g3 ?_))); rw [if_neg (by simp)]; refine Qb ?_
 simp only [show ¬ ((i : Int) < 0) from by lia, if_false, Jo, Yp hi]; refine Qa ?_
 refine Qa (YI hit.typeIs (Qb ?_)); show wpAny _ _ (setField (.ref it) 0 .none >>= _) _ _ s
 refine Qa (YH ho hd (by simp) ?_); show wpAny _ _ (newExc (.type "StopIteration") [] >>= _) _ _ _; refine Qa ?_
 simp only [newExc, newTuple]; refine Qa (Yd ?_ (by size_fits))
 refine Qa (m := firstArgMember _ _) (wpAny_of_eq (a := Value.none) (by first | rfl | (simp only [firstArgMember]; rfl)) (Yd ?_ (by size_fits)))
 simp only [raiseNew]; refine Qa (wpAny_handled ?_); rw [show A.in1.handled = none from hh]
 refine Qa (Qb (wpAny_throw ?_)); refine Qa (Ju (T := "StopIteration") (b := true) ⟨_, Qt _ rfl, rfl⟩ isSubtype_stop ?_)
 exact Qb (hQ _ (((Q9 ..).extBut.push _).push _))
end
def Itd (a : Addr) (es : List Ent) (ep : Nat) : It := ⟨fun i H => H a = some (DctO a es ep) /\ i < es.length, fun i H x H' => H' = H /\ ∃ e, es[i]? = some e /\ x = .ref e.2.1, fun i H => H a = some (DctO a es ep) /\ es.length <= i⟩
theorem zF2 {X : Cx} {pins : List (Addr × Obj)} {σ : L2.St} {H : Hp} {s : Shared} {a : Addr} {es : List Ent} {ep : Nat} (I : Inv X pins σ H s) (h : H a = some (DctO a es ep)) :
  ∃ raw : Array DictEntry, RDt s.heap a raw ep /\ raw.size = es.length /\ ∀ (i : Nat) (hi : i < raw.size) (e : Ent), es[i]? = some e -> raw[i].key = .ref e.2.1 := by
 obtain ⟨⟨lo, o, raw, h1, h2, h3, h4⟩, _⟩ := (show zAN X.prog X.w H s.heap a (DctO a es ep) from I.hok a _ h)
 refine ⟨raw, ⟨lo, o, h1, h2, h3⟩, ?_, fun i hi e he => ?_⟩
 ·have := Paired.length h4
  simpa using this.symm
 ·obtain ⟨r, hr, _, q, _⟩ := Paired.at h4 he
  have : raw.toList[i]? = some raw[i] := by simp [hi]
  rw [this] at hr; cases hr
  exact q
theorem zOG {P : Program} {w : World} {K : PySem.W.Frag} {tg : Expr} (a it : Addr) (es : List Ent) (ep : Nat) : Turn P w K tg (Itd a es ep) [it] it (fun i h => h.IsKeyIter it a i es.length ep) where
 mem := by simp
 obj := fun i h st b hb => by
  have e : b = it := by simpa using hb
  subst e
  obtain ⟨o, e, c, d⟩ := st
  exact ⟨o, e, fun v z => by rw [d] at z; cases z⟩
 keep := fun i h h' st k => let ⟨o, e, c⟩ := st; ⟨o, k it (by simp) o e, c⟩
 item := by
  intro X hP hw hK hc i pins s σ H E I hf st hg
  subst hP hw hK
  obtain ⟨hq, hx⟩ := hg
  obtain ⟨raw, rd, sz, ks⟩ := zF2 I hq
  obtain ⟨f0, f1, f2, f3, f4, f5⟩ := hf it (by simp)
  rw [<- sz] at st
  refine zID st rd (by lia) fun h' st' sb => ?_
  have I1 : Inv X pins σ H { s with heap := h' } := I.turned (t' := s.toks) (fun b o hb e => (sb.2 b hb).trans e) f0 f1 f3 f4 f5
  obtain ⟨o, e, c, d⟩ := id st'
  have he : es[i]? = some es[i] := by simp [hx]
  refine ⟨_, rfl, zCJ (s := { s with heap := h' }) e c d (by decide) ⟨.ref (es[i]).2.1, H, I1, ?_, ⟨rfl, _, he, rfl⟩, by rw [<- sz]; exact st', fun b hb => (hf b hb).1⟩⟩
  rw [ks i (by lia) _ he]
  rfl
 done := by
  intro X hP hw hK hc i pins s σ H E I hf st hg
  subst hP hw hK
  obtain ⟨hq, hx⟩ := hg
  obtain ⟨raw, rd, sz, ks⟩ := zF2 I hq
  obtain ⟨f0, f1, f2, f3, f4, f5⟩ := hf it (by simp)
  rw [<- sz] at st
  exact zHl (I.ok.hd hc) st rd (by lia) fun h' eb => ⟨rfl, I.turned (t' := s.toks) (fun b o hb e => eb b o hb e) f0 f1 f3 f4 f5⟩
 self := fun _ _ _ _ _ st h => wpAny_pyIter_keyiter st h
def isTp : D -> Bool
 | .tuple _ => true
 | _ => false
def seqK : D -> Option (List D)
 | .dict kvs => if (kvs.all fun e => isTp e.1) = true then some (kvs.map (·.1)) else none
 | d => seqD d
theorem zJa {K : PySem.W.Frag} {F : Addr -> Prop} {H : Hp} : ∀ {kss : List (List Int)} {bs : List Addr}, Paired (fun (ks : List Int) (b : Addr) => SqT K H b (ks.map V.int)) kss bs -> Reps K F H (kss.map fun ks => .tuple (ks.map PyData.int)) (bs.map V.ref)
 | _, _, .nil => .nil
 | _, _, .cons h t => .cons (.tup h (zCK _)) (zJa t)
theorem zNU {K : PySem.W.Frag} {F : Addr -> Prop} {H : Hp} {k : DKey} {b : Addr} (h : zB1 K H k b) : Rep K F H (encK k) (.ref b) := by
 cases k with
 | inl ks => exact .tup h (zCK ks)
 | inr kss => obtain ⟨_, bs, h1, h2⟩ := h; exact .tup h1 (zJa h2)
theorem DReps.key {K : PySem.W.Frag} {F : Addr -> Prop} {H : Hp} {kvs : List (D × D)} {es : List Ent} (t : DReps K F H kvs es) : ∀ {i : Nat} {d : D}, (kvs.map (·.1))[i]? = some d -> ∃ e, es[i]? = some e /\ Rep K F H d (.ref e.2.1) := by
 induction es generalizing kvs with
 | nil => cases t; intro i d h; simp at h
 | cons e es ih =>
  cases t with
  | cons hk hv t =>
   intro i d h
   cases i with
   | zero => simp at h; subst h; exact ⟨_, rfl, zNU hk⟩
   | succ i => exact ih t (by simpa using h)
theorem zLH {K : PySem.W.Frag} {F : Addr -> Prop} {H : Hp} {a : Addr} {es : List Ent} {ep : Nat} {kvs : List (D × D)} (f : F a) (h : H a = some (DctO a es ep)) (t : DReps K F H kvs es) : ItD K F H (kvs.map (·.1)) (Itd a es ep) := fun F2 H2 T z i => by
 have h2 := T.xt _ _ f h
 have t2 := t.stay T
 refine ⟨fun d hd => ?_, fun hl => ⟨h2, by rw [<- DReps.length t2]; simpa using hl⟩⟩
 obtain ⟨e, e1, r⟩ := DReps.key t2 hd
 refine ⟨⟨h2, (Qd.mp e1).1⟩, fun x H3 y => ?_⟩
 obtain ⟨y1, e', y2, y3⟩ := y
 subst y1 y3
 rw [e1] at y2; cases y2
 exact ⟨F2, Ext.refl _ _, r⟩
def iKey (ga : Rho -> Option D) : Rho -> Option (List D) := fun ρ => (ga ρ).bind seqK
theorem zKT {X : Cx} {tg e : Expr} {ga : Rho -> Option D} (ha : DE X e ga) : DI X tg e (iKey ga) := by
 intro pins s σ H R I h
 obtain ⟨F, H₀, ρ, ds, S, q, k⟩ := h
 obtain ⟨d, e1, q⟩ := bnd q
 cases d with
 | dict kvs =>
  by_cases c : (kvs.all fun e => isTp e.1) = true
  ·rw [seqK, if_pos c] at q
   cases q
   refine thn (ha pins s σ H (fun x H1 => ∃ F1, Ext F F1 H H1 /\ Rep X.K F1 H1 (.dict kvs) x) I ⟨F, H₀, ρ, _, S, e1, fun F1 H1 v E1 R1 => ⟨F1, E1, R1⟩⟩) fun v s1 zz => ?_
   obtain ⟨x, H1, I1, r1, F1, E1, R1⟩ := zz
   generalize hd : PyData.dict kvs = dd at R1
   cases R1 with
   | @dct a es kvs' ep f h n l t =>
    cases hd
    cases r1
    obtain ⟨raw, rd, sz, ks⟩ := zF2 I1 h
    refine zH9 rd ⟨s1.heap.objs.size, [s1.heap.objs.size], _, _, H1, rfl, I1.kept (t' := s1.toks) fun b o e => Qc _ e, zOG a _ es ep, ⟨_, Qt _ rfl, rfl, by rw [sz]; rfl⟩, fun b hb => ?_, k F1 H1 _ E1 (zLH f h t)⟩
    have e : b = s1.heap.objs.size := by simpa using hb
    subst e
    exact I1.fpOk (Qh _) (I1.hok.fresh (Qh _))
   | exn f h n =>
    exfalso
    cases hd
    cases c
   | _ => cases hd
  ·rw [seqK, if_neg c] at q; cases q
 | _ => exact zG6 ha pins s σ H R I ⟨F, H₀, ρ, ds, S, by show (ga ρ).bind seqD = _; rw [e1]; exact q, k⟩
end DC
namespace DC
open PySem PySem.Spec PyProof.Rows L2 DL ST SL EL
end DC
namespace DL
open PySem PySem.Spec PyProof.Rows L2
section
variable {X : Cx} {a b : Expr} {ga : Rho -> Option (List D)} {pos : Pos}
end
end DL
namespace EX
open PySem PySem.Spec PyProof.Rows L2 DL
def CX1 (P : Program) (w : World) : CXT := fun outer H s E e s' => ∃ (a : Addr) (C : Addr) (tr : Option Addr) (H' : Hp), e = .ref a /\ s'.os = s.os /\ AllBare s'.gens /\ Un (frs outer) [] H H' s.heap s'.heap /\ HOk P w H' s'.heap /\ Fly s'.heap a (.ref C) tr /\
 (∀ b, (b = a ∨ some b = tr) -> s.heap.get? b = none /\ H' b = none) /\ E (.ref C) none H'
section
variable {X : Cx} {pins : List (Addr × Obj)} {σ : L2.St} {H H' : Hp} {s s' : Shared}
theorem zFM (I : Inv X pins σ H s) {b : Addr} (hb : s.heap.get? b = none) :
  X.s₀.heap.get? b = none ∨ b ∈ X.ex := by
 by_cases hx : b ∈ X.ex
 ·exact .inr hx
 ·cases q : X.s₀.heap.get? b with
  | none => exact .inl rfl
  | some o => obtain ⟨o', e⟩ := I.base.there b o q hx; rw [hb] at e; cases e
theorem zFO (I : Inv X pins σ H s) {b : Addr} (hb : s.heap.get? b = none) : b ≠ X.env.locals := fun e => by
 obtain ⟨m, ⟨o, _, _, ho, _⟩, _⟩ := I.loc
 rw [<- e, hb] at ho; cases ho
theorem zFN (I : Inv X pins σ H s) {b : Addr} (hb : s.heap.get? b = none) : ∀ x c, X.env.cells.lookup x = some c -> c ≠ b := fun x c e z => by
 obtain ⟨v, o, ho, _⟩ := I.cell x c e
 rw [z, hb] at ho; cases ho
theorem zFP (I : Inv X pins σ H s) {b : Addr} (hb : s.heap.get? b = none) : ∀ p ∈ X.pn ++ pins, p.1 ≠ b := fun p hp z => by
 have := (I.pin p hp).1
 rw [z, hb] at this; cases this
theorem zIz (I : Inv X pins σ H s) {b : Addr} (hb : s.heap.get? b = none) : H b = none := by
 cases q : H b with
 | none => rfl
 | some u =>
  have : ∃ o, s.heap.get? b = some o := by
   have x := I.hok b u q
   have lt := x.lt
   cases u with
   | lst xs => obtain ⟨_, _, _, _, e⟩ := x; exact ⟨_, e⟩
   | tup xs => obtain ⟨_, _, _, o, e, _⟩ := x; exact ⟨_, e⟩
   | dK kvs => obtain ⟨_, _, _, _, o, _, _, e, _⟩ := x; exact ⟨_, e⟩
   | dT kvs => obtain ⟨_, _, _, _, o, _, _, e, _⟩ := x; exact ⟨_, e⟩
   | set S n => obtain ⟨o, _, _, _, e, _⟩ := x; exact ⟨_, e⟩
   | ins C dx fs => obtain ⟨_, _, _, e, _⟩ := x; exact ⟨_, e⟩
   | own y => obtain ⟨_, e⟩ := x; exact ⟨_, e⟩
   | xd fs => obtain ⟨_, ⟨_, _, _, e, _⟩, _⟩ := x; exact ⟨_, e⟩
   | rng lo hi => obtain ⟨_, _, _, e⟩ := x; exact ⟨_, e⟩
   | frz ob u => obtain ⟨e, _⟩ := x; exact ⟨_, e⟩
   | tbl ps => exact ⟨_, (show s.heap.get? b = some _ from x)⟩
   | met f y => exact ⟨_, (show s.heap.get? b = some _ from x)⟩
   | ext φ => obtain ⟨_, ⟨_, e⟩, _⟩ := x; exact ⟨_, e⟩
  obtain ⟨o, e⟩ := this
  rw [hb] at e; cases e
theorem zOA {E : XK} {e : Value} (hex : X.ex = []) (I : Inv X pins σ H s) (h : CX1 X.prog X.w X.stack H s E e s') :
  ∃ a C tr H', e = .ref a /\ Inv X pins σ H' s' /\ ThrownC X pins H' s' a (.ref C) tr /\ E (.ref C) none H' := by
 obtain ⟨a, C, tr, H', rfl, os, bare, un, hok, fly, new, q⟩ := h
 refine ⟨a, C, tr, H', rfl, I.call' os un hok bare (fun b z => absurd z (by simp)), ⟨fly, fun b hb => ?_⟩, q⟩
 obtain ⟨n1, n2⟩ := new b hb
 refine ⟨?_, n2, zFO I n1, zFN I n1, zFP I n1⟩
 rcases zFM I n1 with z | z
 ·exact z
 ·rw [hex] at z; cases z
end
theorem zMb {P : Program} {w : World} {K : PySem.W.Frag} {mg : Str -> Option Value} {base : Heap} {N : List Str} {qual : Str} {scope : Scope} {f : Addr} {cd : Value} {A : Around} {outer : List Env} {s : Shared} {H : Hp} {E : XK}
  {pins : List (Addr × Obj)} {σ : L2.St} {H' : Hp} {s' : Shared} {a C : Addr} {tr : Option Addr} (I : Inv (cxOf (CX1 P w) P w K mg base N qual scope f cd A outer s H E) pins σ H' s')
  (T : ThrownC (cxOf (CX1 P w) P w K mg base N qual scope f cd A outer s H E) pins H' s' a (.ref C) tr) (h : E (.ref C) none H') : (cxOf (CX1 P w) P w K mg base N qual scope f cd A outer s H E).xe (.ref a) s' := by
 have fr : (A.deeper (envOfC qual scope s.heap.objs.size f cd)).frames = some (envOfC qual scope s.heap.objs.size f cd :: outer) := I.ok.frames
 have st : s'.heap.FunFrames base (envOfC qual scope s.heap.objs.size f cd :: outer) := I.stack
 refine zMc (env := envOfC qual scope s.heap.objs.size f cd) (outer := outer) fr st rfl T.fly fun h' T' hT' F' K' => ?_
 have out : ∀ b, b ∈ frs (envOfC qual scope s.heap.objs.size f cd :: outer) -> b = s.heap.objs.size ∨ b ∈ frs outer := fun b hb => by
  unfold frs at hb
  rw [Y9] at hb
  exact Qk.mp hb
 have old : ∀ b o, s.heap.get? b = some o -> ¬ (b = a ∨ some b = tr) /\ b ≠ s.heap.objs.size := fun b o e => by
  refine ⟨fun z => ?_, Qy (Qm e)⟩
  have n : s.heap.get? b = none := (T.new b z).1
  rw [n] at e; cases e
 have B : Un (frs outer) [] H H' s.heap s'.heap := I.base
 have tk : ∀ b u, H' b = some u -> ∀ o, s'.heap.get? b = some o -> h'.get? b = some o := fun b u e o q => K'.keep b o (fun z => by
  have n := (T.new b z).2.1
  rw [n] at e; cases e) (fun z => by
  have n := I.stkFree b z
  rw [n] at e; cases e) q
 refine ⟨a, C, some T', H', rfl, I.os, I.bare, ⟨fun b o e n hb hx => ?_, fun b o e n hb hx => ?_, B.free, fun b o e hx => ?_, B.tups, B.frzs, B.tbls⟩, fun b u e => ?_, F', fun b hb => ?_, h⟩
 ·exact K'.keep b o (old b o e).1 (fun z => (out b z).elim (old b o e).2 hb) (B.keep b o e n hb hx)
 ·obtain ⟨sl, q⟩ := B.slot b o e n hb hx
  obtain ⟨sl', q'⟩ := K'.slot b _ (old b o e).1 q
  exact ⟨sl', q'⟩
 ·obtain ⟨o', q⟩ := B.there b o e hx
  obtain ⟨sl', q'⟩ := K'.slot b _ (old b o e).1 q
  exact ⟨_, q'⟩
 ·refine (I.hok b u e).stay (fun c v hc q => ?_) (fun _ q => q) fun _ _ q => q
  rcases hc with rfl | hc
  ·exact tk c u e v q
  ·exact tk c _ hc v q
 ·rcases hb with rfl | hb
  ·exact ⟨(T.new b (.inl rfl)).1, (T.new b (.inl rfl)).2.1⟩
  ·cases hb
   exact ⟨Heap.get?_none_of_le (Qx I.sz hT'), I.hok.fresh hT'⟩
abbrev R := Sum D Str
def fnX (m : Nat) (g : Rho -> Option Out) : List D -> Option R := fun ds => match g (zAB m ds) with
 | some (.rt d) => some (.inl d)
 | some (.nx _) => some (.inl .none)
 | some (.ex x _) => some (.inr x)
 | _ => none
def valX (G : List D -> Option R) : List D -> Option D := fun ds => match G ds with
 | some (.inl d) => some d
 | _ => none
def spX (K : PySem.W.Frag) (n : Nat) (G : List D -> Option R) : Sp := fun vs H Q E => ∃ (F : Addr -> Prop) (ds : List D) (o : R), ds.length = n /\ (∀ a, F a -> H a ≠ none) /\ Reps K F H ds vs /\ G ds = some o /\ match o with
 | .inl d => ∀ F' H' v, Ext F F' H H' -> Rep K F' H' d v -> Q v H'
 | .inr x => ∀ F' H' C, Ext F F' H H' -> PySem.W.nsIn K mainGlobals x = some (some (.ref C)) -> E (.ref C) none H'
theorem fn_X {P : Program} {w : World} {K : PySem.W.Frag} {mg : Str -> Option Value} {base : Heap} {x qual : Str} {st : Stmt} {f : Addr} {fd : FuncData} {N ps : List Str} {k n m : Nat} {g : Rho -> Option Out} {G : List D -> Option R} (hG : G = fnX m g) (hn : ps.length = n) (hm : N.length = m)
  (F : Fun K x qual st f fd) (S : zAr N ps (zAj st))
  (hb : ∀ (cdv : Value) (A : Around) (outer : List Env) (s : Shared) (H : Hp) (E : XK), Room k (A.deeper (envOfC qual (zAj st) s.heap.objs.size f cdv)) ->
   DSs (cxOf (CX1 P w) P w K mg base N qual (zAj st) f cdv A outer s H E) (zAP st) g) : FnOk P w K mg base (CX1 P w) (k + 1) f fd ps (spX K n G) := by
 subst hn hm hG
 obtain ⟨oc, od, kV, doc, pm, an, cdv, ct, osl, rfl, lk, hcd⟩ := F.ex
 refine zHz lk hcd S (fun vs H Q E h => ?_) fun A outer s H vs Q E hr h => ?_
 ·obtain ⟨F, ds, d, hl, _, r, _⟩ := h
  rw [<- r.length, hl]
 ·obtain ⟨F, ds, o, hl, z, r, q, kk⟩ := h
  refine ⟨_, hb cdv A outer s H E hr, ?_⟩
  unfold fnX at q
  split at q
  ·rename_i d' e
   cases q
   exact ⟨F, H, F, _, _, Ext.refl F H, zDK z r, e, fun F' H' v E' R' => kk F' H' v E' R'⟩
  ·rename_i ρ' e
   cases q
   exact ⟨F, H, F, _, _, Ext.refl F H, zDK z r, e, fun F' H' σ' E' T' S' => kk F' H' .non E' .non⟩
  ·rename_i x' ρ' e
   cases q
   exact ⟨F, H, F, _, _, Ext.refl F H, zDK z r, e, fun F' H' σ' pins s' a C tr E' S' I' hC T' => zMb I' T' (kk F' H' C E' hC)⟩
  ·cases q
theorem zLr {P : Program} {w : World} {K : PySem.W.Frag} {mg : Str -> Option Value} {base : Heap} {f : Addr} {fd : FuncData} {ps : List Str} {k n : Nat} {G : List D -> Option R} {G' : List D -> Option D} (hG : G' = valX G) (F : FnOk P w K mg base (CX1 P w) k f fd ps (spX K n G)) :
  FnOk P w K mg base CX0 k f fd ps (spD K n G') := by
 subst hG
 have conv : ∀ vs H Q E, spD K n (valX G) vs H Q E -> spX K n G vs H Q E0 := fun vs H Q E zz => by
  obtain ⟨F, ds, d, hl, z, r, q, kk⟩ := zz
  unfold valX at q
  split at q
  ·rename_i d' e
   cases q
   exact ⟨F, ds, .inl d, hl, z, r, e, kk⟩
  ·cases q
 refine ⟨fun vs H Q E q => F.len vs H Q E0 (conv vs H Q E q), fun A outer s H args us vs Q E hr he hb hv hs => ?_⟩
 refine Y1 (F.run A outer s H args us vs Q E0 hr he hb hv (conv vs H Q E hs)) fun r s' hq => ?_
 cases r with
 | ok fl =>
  cases fl with
  | ret u => exact hq
  | next => exact hq
  | brk => exact hq
  | cont => exact hq
 | error e =>
  obtain ⟨_, _, _, _, _, _, _, _, _, _, _, z⟩ := hq
  exact z
end EX
namespace EX
open PySem PySem.Spec PyProof.Rows L2 DL
def EXw (X : Cx) (σ : L2.St) : XK := fun cls _ H' => ∀ pins s' a tr, Inv X pins σ H' s' -> ThrownC X pins H' s' a cls tr -> X.xe (.ref a) s'
section
variable {X : Cx} {k n : Nat} {f C : Addr} {fd : FuncData} {ps : List Str} {sp : Sp} {x : Str} {p pos pos' np cpos : Pos} {e : Expr} {es : List Expr} {t : TA} {G : List D -> Option R} {gr : Rho -> Option (List D)} {ga : Rho -> Option D}
theorem zN1 {pins : List (Addr × Obj)} {σ : L2.St} {H : Hp} {s : Shared} {Q : VK} {us : List Value} {vs : List V} (F : FnOk X.prog X.w X.K X.mg X.base (CX1 X.prog X.w) k f fd ps sp) (hr : Room k X.A) (hb : Binds X.K fd ps []) (hex : X.ex = [])
  (I : Inv X pins σ H s) (r : Vals vs us) (h : sp vs H Q (EXw X σ)) : wpAny (model X.prog X.w) X.A (call (.ref f) us) (EP X pins σ Q) X.xe s := by
 have hl : (us ++ []).length = ps.length := by rw [QW, <- r.length]; exact F.len _ _ _ _ h
 have hbt := hb s us I.kIn hl
 rw [QW] at hbt
 refine wpAny_call (Y1 (F.run X.A X.stack s H ⟨us, []⟩ us vs Q (EXw X σ) hr I.env0 hbt r h) fun r s' hq => ?_)
 cases r with
 | error e =>
  obtain ⟨a, C, tr, H', rfl, I', T', q⟩ := zOA hex I hq
  exact q pins s' a tr I' T'
 | ok fl =>
  cases fl with
  | ret u => exact I.after hq
  | next => exact False.elim hq
  | brk => exact False.elim hq
  | cont => exact False.elim hq
theorem zM2 (F : FnOk X.prog X.w X.K X.mg X.base (CX1 X.prog X.w) k f fd ps sp) (hr : Room k X.A) (hg : Gl X x) (hm : X.mg x = some (.ref f)) (hk : PySem.W.keepIn X.K (.ref f) = true) (hb : Binds X.K fd ps []) (hex : X.ex = [])
  (ha : PA X (e :: es) t) (hdb : (x == ("__debug__" : Str)) = false := by decide) (he : starEach (e :: es) X.env = (false, eval e X.env) :: starEach es X.env := by rfl) (hpl : (backTo pos (starEach es X.env)).any (·.1) = false := by rfl) :
  PE X (.Call (.Name x p) (e :: es) [] pos) (fun σ H Q => t σ H fun vs H1 => sp vs H1 Q (EXw X σ)) := by
 intro pins s σ H Q I h
 refine YT (zDt I hg hm ?_ hdb)
 refine PySem.W.callWith_K (h₀ := X.base) I.ok.mod.kin hk (thn (ha pos pins s σ H _ I h) fun us s1 ⟨vs, H1, I1, r, q⟩ => ⟨I1.kIn, ?_⟩) he hpl
 exact zN1 F hr hb hex I1 r q
def tAny (K : PySem.W.Frag) (g : Rho -> Option Unit) : TE := fun σ H Q => ∃ (F : Addr -> Prop) (H₀ : Hp) (ρ : Rho), StOk K F H H₀ σ ρ /\ g ρ = some () /\ ∀ F' H' v, Ext F F' H H' -> Q v H'
def zDE (x : Str) (g : Rho -> Option Unit) : Rho -> Option Out := fun ρ => (g ρ).bind fun _ => some (.ex x ρ)
theorem zLg {K : PySem.W.Frag} {h : Heap} {C : Addr} {bmB : List Value} {newId : String} (KI : K.In h) (q : PySem.W.excIn K C bmB newId = true) :
  ∃ bm N nm qn bs hdct sn sub ab col dd k0 k1 k2 k3 k5 mN, h.get? C = some (excClassObj nm qn C N bs bm hdct sn sub ab col dd k0 k1 k2 k3 k5 newId) /\ h.Ns N mN /\ mN "__init__" = none /\ OwnTail h bmB bm := by
 unfold PySem.W.excIn at q
 split at q
 next dd cd sl lk =>
  split at q
  next C' bm k0 k1 k2 k3 n k5 hm hs =>
   simp only [QH, beq_iff_eq, Yi] at q
   obtain ⟨⟨⟨⟨⟨e1, e2⟩, e3⟩, e4⟩, e5⟩, e6⟩ := q
   subst e1; subst e2
   cases cd with
   | mk nm bs mro ns qn hd sn sub ab col del =>
    have e7 : mro = _ := hm
    have e8 : del = false := e3
    subst e7; subst e8
    have e9 : sl = #[k0, k1, k2, k3, some (.builtin n), k5] := by
     cases sl with
     | mk l => exact congrArg Array.mk hs
    subst e9
    exact ⟨bm, ns, nm, qn, bs, hd, sn, sub, ab, col, dd, k0, k1, k2, k3, k5, _, KI _ _ lk, .of_isNs (PySem.W.isNs_of_in KI e5), PySem.W.nsMap_none_of_in KI e5 e6, PySem.W.tail_of_in KI e4⟩
  next => cases q
 next => cases q
theorem zHf {B newId initId : String} {bmB : List Value} {g : Rho -> Option Unit} (FB : ExcBaseFacts B newId initId bmB) (hh : X.A.handled = none) (hex : X.ex = []) (hns : PySem.W.nsIn X.K mainGlobals x = some (some (.ref C))) (hexc : PySem.W.excIn X.K C bmB newId = true)
  (hg : Gl X x) (hm : X.mg x = some (.ref C)) (ha : PE X e (tAny X.K g)) (hdb : (x == ("__debug__" : Str)) = false := by decide)
  (he : starEach [e] X.env = (false, eval e X.env) :: starEach [] X.env := by rfl) (hpl : (backTo cpos (starEach [e] X.env)).any (·.1) = false := by rfl) : DS X (.Raise (some (.Call (.Name x np) [e] [] cpos)) none pos) (zDE x g) := by
 intro pins s σ H W I ⟨F₀, H₀, F, ρ, o, E, S, q, k⟩
 obtain ⟨_, e1, q⟩ := bnd q
 cases q
 obtain ⟨bm, N, nm, qn, bs, hdct, sn, sub, ab, col, dd, k0, k1, k2, k3, k5, mN, hC, hN, hni, T⟩ := zLg I.ok.mod.kin hexc
 refine wpAny_Raise_call_subT (C := C) (nm := nm) (q := qn) (N := N) (bs := bs) (bm := bm) (hdct := hdct) (sn := sn) (sub := sub) (ab := ab) (col := col) (dd := dd) (k0 := k0) (k1 := k1) (k2 := k2) (k3 := k3) (k5 := k5)
  FB (mN := mN) (T.hasType FB.hasBase) hh hpl hni (zDt I hg hm ⟨rfl, ?_⟩ hdb)
 have pa := zCj ha zCR he cpos pins s σ H (fun vs H1 => vs.length = 1 /\ ∃ F', Ext F F' H H1) I ⟨F, H₀, ρ, S, e1, fun F' H' v E' => ⟨rfl, F', E'⟩⟩
 rw [he] at pa ⊢
 refine Calls.evalArgs_plain (thn pa fun us s₂ zz => ?_)
 obtain ⟨vs, H2, I2, r, hl, F2, E2⟩ := zz
 refine ⟨rfl, by rw [<- r.length, hl]; decide, I2.bk _ _ hC, hN.keeps I2.bk, T.keeps I2.bk, fun h' a hm' => ?_⟩
 obtain ⟨t0, h1, h2, h3⟩ := hm'.there
 have I3 : Inv X pins σ H2 { s₂ with heap := h' } := I2.kept (t' := s₂.toks) hm'.keeps
 refine k F2 H2 σ pins { s₂ with heap := h' } a C none (E.trans E2) (S.ext E2) I3 hns ⟨⟨_, _, h1, rfl, rfl, rfl⟩, fun b hb => ?_⟩
 have hb' : b = a := by
  rcases hb with z | z
  ·exact z
  ·cases z
 subst hb'
 refine ⟨?_, zIz I2 hm'.new, zFO I2 hm'.new, zFN I2 hm'.new, zFP I2 hm'.new⟩
 rcases zFM I2 hm'.new with z | z
 ·exact z
 ·rw [hex] at z; cases z
end
end EX
namespace EX
open PySem PySem.Spec PyProof.Rows L2 DL
def zCm : D -> Bool
 | .tuple xs => PyData.canLayAll0 xs && PyData.showableAll xs && decide (PyData.depthAll xs <= 60) && decide ((tupleText (PyData.shownAll xs)).length <= 1000000)
 | _ => false
def okR (ga : Rho -> Option D) : Rho -> Option Unit := fun ρ => (ga ρ).bind fun d => if zCm d = true then some () else none
def okC : Rho -> Option Unit := fun _ => some ()
def PJ (X : Cx) (e : Expr) (g : Rho -> Option Unit) : Prop := ∀ (pins : List (Addr × Obj)) (s : Shared) (σ : L2.St) (H : Hp) (Q : Hp -> Prop), Inv X pins σ H s ->
 (∃ (F : Addr -> Prop) (H₀ : Hp) (ρ : Rho), StOk X.K F H H₀ σ ρ /\ g ρ = some () /\ ∀ F' H', Ext F F' H H' -> Q H') ->
 wpAny (model X.prog X.w) X.A (eval e X.env) (fun u s' => ∃ y t H', u = .str y t /\ y.length <= 1000000 /\ Inv X pins σ H' s' /\ Q H') X.xe s
section
variable {X : Cx} {e : Expr} {pos : Pos} {ga : Rho -> Option D}
theorem zI2 {x : Str} {j : Nat} (hl : x.length <= 1000000) : PJ X (.Constant (.str x) j pos) okC := fun pins s σ H Q I ⟨F, H₀, ρ, S, _, k⟩ =>
 thn ((zFX : PE X (.Constant (.str x) j pos) (tC (.str x))) pins s σ H (fun v H1 => v = .str x /\ H1 = H) I ⟨rfl, rfl⟩) fun u s1 zz => by
  obtain ⟨v, H1, I1, r, e1, e2⟩ := zz
  subst e1 e2
  obtain ⟨t, rfl⟩ := r
  exact ⟨x, t, H1, rfl, hl, I1, k F H1 (Ext.refl F H1)⟩
theorem zLq {pins : List (Addr × Obj)} {σ : L2.St} {H : Hp} {s : Shared} {y : Str} {t : Tok} {Q : Hp -> Prop} (I : Inv X pins σ H s) (hl : y.length <= 1000000) (q : Q H) :
  wpAny (model X.prog X.w) X.A (formatField (.str y t) Str.empty) (fun u s' => ∃ y t H', u = .str y t /\ y.length <= 1000000 /\ Inv X pins σ H' s' /\ Q H') X.xe s :=
 wpAny_formatField_str ⟨y, t, H, rfl, hl, I, q⟩ ⟨y, _, H, rfl, hl, I.tok _, q⟩ (Qx hl (by rw [Q3]; lia))
theorem zI1 (hg : X.A.guards = some []) (hu : X.A.units + 66 < cLine) (ha : DE X e ga) : PJ X (.FormattedValue e 114 none pos) (okR ga) := fun pins s σ H Q I zz => by
 obtain ⟨F, H₀, ρ, S, q, k⟩ := zz
 obtain ⟨d, e1, q⟩ := bnd q
 have hb : zCm d = true := by
  by_cases c : zCm d = true
  ·exact c
  ·rw [if_neg c] at q; cases q
 refine wpAny_FormattedValue_repr (thn (ha pins s σ H (fun v H1 => ∃ F1, Ext F F1 H H1 /\ Rep X.K F1 H1 d v) I ⟨F, H₀, ρ, d, S, e1, fun F1 H1 v E1 R1 => ⟨F1, E1, R1⟩⟩) fun u s1 zz => ?_)
 obtain ⟨v, H1, I1, r, F1, E1, R1⟩ := zz
 cases R1 with
 | @tup a vs ds h1 r1 =>
  have hb' : (PyData.canLayAll0 ds && PyData.showableAll ds && decide (PyData.depthAll ds <= 60) && decide ((tupleText (PyData.shownAll ds)).length <= 1000000)) = true := hb
  simp only [QH, decide_eq_true_eq] at hb'
  obtain ⟨⟨⟨b1, b2⟩, b3⟩, b4⟩ := hb'
  cases r
  obtain ⟨its, rv, ⟨o, ho, hc, n, hd⟩, _⟩ := I1.tuple h1
  obtain ⟨as, ra⟩ := Reps.reads I1 r1 b1 rv
  have hsl : (tupleText (PyData.shownAll ds)).length <= sizeLine := Qx b4 (by rw [Q3]; lia)
  have nd : PyData.hasDictAll ds = false := PyData.hasDictAll_of_canLayAll ds b1
  obtain ⟨bs, hb, hk⟩ := ReprAllK.of_readsAll (prog := X.prog) (w := X.w) ra b2 (fun z => by rw [nd] at z; cases z) (fun t ht => Qx (tupleText_mem_le ht) hsl)
  have rd : Reads s1.heap (.ref a) (.tuple ds) as := .tuple ho hc hd (by simpa using ra)
  have hna : a ∉ bs := not_mem_of_deeper rd (by simp only [PyData.depth]; lia) hb
  refine wpAny_pyReprObj_tupleK (h₀ := s1.heap) (as := bs) (d := PyData.depthAll ds) (ts := PyData.shownAll ds) ho hc hd hna (by simpa using hk) hg (fun b _ => Clear.nil b) (by lia) (fun _ _ z => z) (fun h' t tk keep => ?_) hsl
  exact zLq (I1.kept (t' := tk) keep) b4 (k F1 H1 E1)
 | _ => cases hb
def okP : List (Rho -> Option Unit) -> Rho -> Option Unit
 | [], _ => some ()
 | g :: gs, ρ => (g ρ).bind fun _ => okP gs ρ
inductive PJs (X : Cx) : List Expr -> List (Rho -> Option Unit) -> Prop
 | nil : PJs X [] []
 | cons {e : Expr} {g : Rho -> Option Unit} {es : List Expr} {gs : List (Rho -> Option Unit)} : PJ X e g -> PJs X es gs -> PJs X (e :: es) (g :: gs)
theorem zLX {es : List Expr} {gs : List (Rho -> Option Unit)} (P : PJs X es gs) : ∀ (acc : Str) (pins : List (Addr × Obj)) (s : Shared) (σ : L2.St) (H : Hp) (Q : VK), Inv X pins σ H s -> acc.length + es.length * 1000000 <= 10000000 ->
  (∃ (F : Addr -> Prop) (H₀ : Hp) (ρ : Rho), StOk X.K F H H₀ σ ρ /\ okP gs ρ = some () /\ ∀ F' H' v, Ext F F' H H' -> Q v H') ->
  Joins (model X.prog X.w) X.A X.xe (es.map fun e => eval e X.env) acc (fun out s₁ => out.length <= sizeLine /\ EP X pins σ Q (.str out s₁.toks) { s₁ with toks := s₁.toks + 1 }) s := by
 induction P with
 | nil =>
  intro acc pins s σ H Q I hl h
  obtain ⟨F, H₀, ρ, S, q, k⟩ := h
  exact ⟨by rw [Q3]; simp at hl; lia, .str acc, H, I.tok _, ⟨_, rfl⟩, k F H _ (Ext.refl F H)⟩
 | @cons e g es gs h t ih =>
  intro acc pins s σ H Q I hl hh
  obtain ⟨F, H₀, ρ, S, q, k⟩ := hh
  obtain ⟨_, e1, q⟩ := bnd q
  refine thn (h pins s σ H (fun H1 => ∃ F1, Ext F F1 H H1) I ⟨F, H₀, ρ, S, e1, fun F1 H1 E1 => ⟨F1, E1⟩⟩) fun u s1 zz => ?_
  obtain ⟨y, tk, H1, eu, hy, I1, F1, E1⟩ := zz
  have hl2 : (acc ++ y).length + es.length * 1000000 <= 10000000 := by
   rw [strLen_append]
   rw [QV] at hl
   lia
  exact ⟨y, tk, eu, by rw [Q3]; lia, ih (acc ++ y) pins s1 σ H1 Q I1 hl2 ⟨F1, H₀, ρ, S.ext E1, q, fun F2 H2 v E2 => k F2 H2 v (E1.trans E2)⟩⟩
theorem zIU {v₁ v₂ : Expr} {rest : List Expr} {gs : List (Rho -> Option Unit)} (h : PJs X (v₁ :: v₂ :: rest) gs) (hl : rest.length <= 5) (he : evalEach (v₁ :: v₂ :: rest) X.env = (v₁ :: v₂ :: rest).map fun e => eval e X.env := by rfl) : PE X (.JoinedStr (v₁ :: v₂ :: rest) pos) (tAny X.K (okP gs)) := fun pins s σ H Q I q => by
 refine wpAny_JoinedStr ?_
 rw [he]
 exact zLX h Str.empty pins s σ H Q I (by simp only [QV]; show 0 + _ <= _; lia) q
end
end EX
namespace EX
open PySem PySem.Spec PyProof.Rows L2 DL
section
variable {M : Model} {A : Around} {E : Value -> Shared -> Prop} {s : Shared}
theorem zME {base : Heap} {env : Env} {outer : List Env} {L e : Addr} {cls : Value} {tr : Option Addr} {Q : Unit -> Shared -> Prop}
  (hfr : A.frames = some (env :: outer)) (hl : s.heap.FunFrames base (env :: outer)) (hf : env.frame = some L) (F : Fly s.heap e cls tr)
  (h : ∀ h' T, s.heap.objs.size <= T -> Fly h' e cls (some T) -> Kept (frs (env :: outer)) (fun b => b = e ∨ some b = tr) s.heap h' -> Q () { s with heap := h' }) :
  wpAny M A (noteFrame (.ref e) env) (fun _ s' => wpAny M A (setFlight (.ref e) none) Q E s') E s := by
 obtain ⟨oe, vs, he, hc, hd, hT⟩ := F
 subst hc
 unfold noteFrame
 simp only [hf]
 cases tr with
 | none =>
  have h1 : vs[1]? = some .none := hT
  refine Qa (Y2 he hd h1 ?_)
  rw [if_neg (by decide)]
  refine zDZ hfr hl hf he hd (QZ.mp h1).1 fun h' T hT F' K' => h h' T hT F' ⟨fun b o hb => K'.keep b o fun z => hb (.inl z), fun b o hb => K'.slot b o fun z => hb (.inl z)⟩
 | some T =>
  obtain ⟨h1, hTe, oT, ts, hT, hdT, h3⟩ := hT
  refine Qa (Y2 he hd h1 ?_)
  rw [if_pos (show (Value.ref T != Value.none) = true from by simp)]
  refine Qa (Y2 hT hdT h3 ?_)
  rw [if_neg (show ¬ ((Value.none == rawInt L) = true) from by simp [rawInt])]
  refine Qa (YH hT hdT (QZ.mp h3).1 ?_)
  have other : ∀ b, b ≠ T -> (s.heap.update T (Obj.mapFields (·.setIfInBounds 3 Value.none))).get? b = s.heap.get? b := fun b hb => Ye _ _ (Ne.symm hb)
  have noRecord : ∀ b o, s.heap.get? b = some o -> (∀ vs, o.data ≠ .fields vs) -> b ≠ T := fun b o hb hnf q => by
   rw [q, hT] at hb; injection hb with hb; subst hb; exact hnf ts hdT
  refine zDZ (s := { s with heap := s.heap.update T (Obj.mapFields (·.setIfInBounds 3 Value.none)) }) hfr (hl.of_keeps fun b o hb hnf => ⟨o, (other b (noRecord b o hb hnf)).trans hb, rfl⟩) hf ((other e (Ne.symm hTe)).trans he) hd (QZ.mp h1).1 fun h' T' hT' F' K' => h h' T' (by rw [Heap.size_update] at hT'; exact hT') F' ?_
  exact ⟨fun b o hb hbf hbo => K'.keep b o (fun z => hb (.inl z)) hbf ((other b fun z => hb (.inr (by rw [z]))).trans hbo), fun b o hb hbo => K'.slot b o (fun z => hb (.inl z)) ((other b fun z => hb (.inr (by rw [z]))).trans hbo)⟩
end
def zDM (X : Cx) (pins : List (Addr × Obj)) (H : Hp) (b : Addr) : Prop := X.s₀.heap.get? b = none /\ H b = none /\ b ≠ X.env.locals /\ (∀ x c, X.env.cells.lookup x = some c -> c ≠ b) /\ ∀ p ∈ X.pn ++ pins, p.1 ≠ b
section
variable {X : Cx} {pins : List (Addr × Obj)} {σ : L2.St} {H : Hp} {s : Shared} {h' : Heap} {a C : Addr} {no : Addr -> Prop}
theorem zJ4 (I : Inv X pins σ H s) (hex : X.ex = []) {b : Addr} (hb : s.heap.objs.size <= b) : zDM X pins H b := by
 have n1 := Heap.get?_none_of_le hb
 refine ⟨?_, zIz I n1, zFO I n1, zFN I n1, zFP I n1⟩
 rcases zFM I n1 with z | z
 ·exact z
 ·rw [hex] at z; cases z
theorem zH7 (I : Inv X pins σ H s) (T : ∀ b, no b -> zDM X pins H b) (K : Kept (frs X.stack) no s.heap h') : Inv X pins σ H { s with heap := h' } := by
 have fr : ∀ b, b ∈ frs X.stack -> b = X.env.locals ∨ b ∈ X.fs := fun b hb => Qk.mp (I.stkSub b hb)
 have old : ∀ b o, X.s₀.heap.get? b = some o -> ¬ no b := fun b o e z => by
  have n := (T b z).1
  rw [n] at e; cases e
 have lo : ¬ no X.env.locals := fun z => (T _ z).2.2.1 rfl
 have ce : ∀ x c, X.env.cells.lookup x = some c -> ¬ no c := fun x c e z => (T _ z).2.2.2.1 x c e rfl
 have tk : ∀ b u, H b = some u -> ∀ o, s.heap.get? b = some o -> h'.get? b = some o := fun b u e o q => K.keep b o (fun z => by
  have n := (T b z).2.1
  rw [n] at e; cases e) (fun z => by
  have n := I.stkFree b z
  rw [n] at e; cases e) q
 have cell : ∀ x c v, X.env.cells.lookup x = some c -> s.heap.IsCell c v -> h'.IsCell c v := fun x c v e zz => by
  obtain ⟨o, ho, hd⟩ := zz
  obtain ⟨sl, q⟩ := K.slot c o (ce x c e) ho
  exact ⟨_, q, hd⟩
 have B := I.base
 refine ⟨I.ok, I.os, I.bare, ⟨fun b o e n hb hx => ?_, fun b o e n hb hx => ?_, B.free, fun b o e hx => ?_, B.tups, B.frzs, B.tbls⟩, ?_, fun x c e => ?_, I.free, I.freeC, fun p hp => ?_, fun b u e => ?_, I.len⟩
 ·refine K.keep b o (old b o e) (fun z => (fr b z).elim (fun w => ?_) hb) (B.keep b o e n hb hx)
  have := QB (Qm e) I.ok.above
  rw [w] at this
  exact absurd this (Y7 _)
 ·obtain ⟨sl, q⟩ := B.slot b o e n hb hx
  obtain ⟨sl', q'⟩ := K.slot b _ (old b o e) q
  exact ⟨sl', q'⟩
 ·obtain ⟨o', q⟩ := B.there b o e hx
  obtain ⟨sl', q'⟩ := K.slot b _ (old b o e) q
  exact ⟨_, q'⟩
 ·obtain ⟨m, ⟨o, es, ep, ho, hd, r⟩, l⟩ := I.loc
  obtain ⟨sl, q⟩ := K.slot _ o lo ho
  refine ⟨m, ⟨_, es, ep, q, hd, r⟩, fun i x v h1 h2 h3 => ?_⟩
  obtain ⟨u, r1, k1⟩ := l i x v h1 h2 h3
  refine ⟨u, r1, ?_⟩
  rcases k1 with k1 | ⟨k1, c, k2, k3⟩
  ·exact .inl k1
  ·exact .inr ⟨k1, c, k2, cell x c _ k2 k3⟩
 ·obtain ⟨v, k⟩ := I.cell x c e
  exact ⟨v, cell x c v e k⟩
 ·obtain ⟨p1, p2, p3, p4, p5⟩ := I.pin p hp
  refine ⟨K.keep _ _ (fun z => (T _ z).2.2.2.2 p hp rfl) (fun z => (fr _ z).elim p3 p4) p1, p2, p3, p4, p5⟩
 ·refine (I.hok b u e).stay (fun c v hc q => ?_) (fun _ q => q) fun _ _ q => q
  rcases hc with rfl | hc
  ·exact tk c u e v q
  ·exact tk c _ hc v q
end
end EX
namespace EX
open PySem PySem.Spec PyProof.Rows L2 DL PySem.W
theorem zLf {K : PySem.W.Frag} {M : Model} {A : Around} {E : Value -> Shared -> Prop} {s : Shared} {a C L : Addr} {oe : Obj} {b : Bool} {Q : Bool -> Shared -> Prop} (KI : K.In s.heap) (he : s.heap.get? a = some oe) (hc : oe.cls = .ref C)
  (e1 : kitCls K (.ref C) (.ref L) = some b) (e2 : subIn K (.ref L) (.type "BaseException") = some true) (q : Q b s) : wpAny M A (excMatches (.ref a) (.ref L)) Q E s := by
 obtain ⟨h, g, d, t, os⟩ := s
 obtain ⟨hty, his, hsub⟩ := kit_cls (M := M) KI e1
 have hB := looks_subIn (M := M) KI e2
 have f := tc_notTuple
 unfold excMatches
 have LI : Looks M h (isInstance (.ref L) (.type "tuple")) false := hty.andThen (Looks.of_pure f)
 refine Qa (LI.at ?_)
 simp only [Qp, if_false]
 refine Qa (Qb ?_)
 have LE : Looks M h (isExcClass (.ref L)) true := by
  unfold isExcClass
  refine his.andThen ?_
  exact hB
 simp only [List.forIn_cons, List.forIn_nil]
 refine Qa (Qa (Qa (LE.at ?_)))
 simp only [YG, Qp, if_false]
 repeat (any_goals (first | assumption | (with_reducible refine hsub.at ?_) | (with_reducible refine wpAny_loadPart_at he ?_; rw [hc]) | wp_step))
 cases b <;> exact Qb (Qb (Qb q))
section
variable {prog : Program} {w : World} {A : Around} {E : Value -> Shared -> Prop} {h : Heap} {g : Array GenState} {d : Drawn} {t : Nat} {os : OsState} {a C : Addr} {o : Obj} {K : PySem.W.Frag}
end
end EX
namespace EX
open PySem PySem.Spec PyProof.Rows L2 DL PySem.W
theorem ok_as {X : Cx} {A' : Around} {c' : Bool} {pn' : List (Addr × Obj)} {E' : Value -> Shared -> Prop} (ok : X.Ok) (hf : A'.frames = X.A.frames) (hc : c' = true -> A'.handled = none) : Cx.Ok { X with A := A', calm := c', pn := pn', xe := E' } :=
 ⟨ok.mod, ok.kind, ok.glob, ok.blt, ok.above, ok.inj, ok.has, ok.cab, hc, hf.trans ok.frames, ok.stk, ok.exf, ok.bs, ok.bsz, ok.noex, ok.exfs, ok.funs, ok.frf⟩
theorem zFB {X : Cx} {pins pins' : List (Addr × Obj)} {σ : L2.St} {H : Hp} {s : Shared} {A' : Around} {c' : Bool} {pn' : List (Addr × Obj)} {E' : Value -> Shared -> Prop} (I : Inv X pins σ H s) (hf : A'.frames = X.A.frames) (hc : c' = true -> A'.handled = none)
  (hp : ∀ p ∈ pn' ++ pins', p ∈ X.pn ++ pins) : Inv { X with A := A', calm := c', pn := pn', xe := E' } pins' σ H s :=
 ⟨ok_as I.ok hf hc, I.os, I.bare, I.base, I.loc, I.cell, I.free, I.freeC, fun p h => I.pin p (hp p h), I.hok, I.len⟩
theorem zD9 {X : Cx} {pins pins' : List (Addr × Obj)} {σ : L2.St} {H : Hp} {s : Shared} {A' : Around} {c' : Bool} {pn' : List (Addr × Obj)} {E' : Value -> Shared -> Prop} (ok : X.Ok) (I : Inv { X with A := A', calm := c', pn := pn', xe := E' } pins' σ H s)
  (hp : ∀ p ∈ X.pn ++ pins, p ∈ pn' ++ pins') : Inv X pins σ H s :=
 ⟨ok, I.os, I.bare, I.base, I.loc, I.cell, I.free, I.freeC, fun p h => I.pin p (hp p h), I.hok, I.len⟩
section
variable {X : Cx} {pins : List (Addr × Obj)} {σ : L2.St} {H : Hp} {s : Shared}
end
def zDf (K : PySem.W.Frag) (L : Addr) (x : Str) : Prop := ∃ C, nsIn K mainGlobals x = some (some (.ref C)) /\ kitCls K (.ref C) (.ref L) = some true
section
variable {X : Cx} {body suite : List Stmt} {b₀ : Stmt} {gb gh : Rho -> Option Out} {cs : List Str} {i : Nat} {n Ln : Str} {np hp pos : Pos} {L : Addr}
end
end EX
namespace EX
open PySem PySem.Spec PyProof.Rows L2 DL PySem.W
def tX (X : Cx) (g : Rho -> Option R) : TE := fun σ H Q => ∃ (F : Addr -> Prop) (H₀ : Hp) (ρ : Rho) (r : R), StOk X.K F H H₀ σ ρ /\ g ρ = some r /\ match r with
 | .inl d => ∀ F' H' v, Ext F F' H H' -> Rep X.K F' H' d v -> Q v H'
 | .inr x => ∀ F' H' C, Ext F F' H H' -> nsIn X.K mainGlobals x = some (some (.ref C)) -> EXw X σ (.ref C) none H'
def DX (X : Cx) (e : Expr) (g : Rho -> Option R) : Prop := PE X e (tX X g)
def zGs (G : List D -> Option R) (gr : Rho -> Option (List D)) : Rho -> Option R := fun ρ => (gr ρ).bind G
def zF9 (g : Rho -> Option R) : Rho -> Option Out := fun ρ => (g (ρ.map frz)).bind fun r => match r with
 | .inl d => some (.rt d)
 | .inr x => some (.ex x (ρ.map frz))
section
variable {X : Cx} {k n : Nat} {f : Addr} {fd : FuncData} {ps : List Str} {x : Str} {p pos pos' : Pos} {e e' c : Expr} {es : List Expr} {G : List D -> Option R} {gr : Rho -> Option (List D)} {ga : Rho -> Option D} {gx gy : Rho -> Option R}
theorem zLd (F : FnOk X.prog X.w X.K X.mg X.base (CX1 X.prog X.w) k f fd ps (spX X.K n G)) (hr : Room k X.A) (hg : Gl X x) (hm : X.mg x = some (.ref f)) (hk : keepIn X.K (.ref f) = true) (hb : Binds X.K fd ps []) (hex : X.ex = [])
  (ha : DA X (e :: es) gr) (hln : ∀ ρ ds, gr ρ = some ds -> ds.length = n) (hdb : (x == ("__debug__" : Str)) = false := by decide) (he : starEach (e :: es) X.env = (false, eval e X.env) :: starEach es X.env := by rfl) (hpl : (backTo pos (starEach es X.env)).any (·.1) = false := by rfl) :
  DX X (.Call (.Name x p) (e :: es) [] pos) (zGs G gr) :=
 zAK (zM2 F hr hg hm hk hb hex ha hdb he hpl) fun σ H Q zz => by
  obtain ⟨F, H₀, ρ, r, S, q, k⟩ := zz
  obtain ⟨xs, e1, q⟩ := bnd q
  refine ⟨F, H₀, ρ, xs, S, e1, fun F1 H1 vs E1 R1 => ⟨F1, xs, r, hln ρ xs e1, (S.ext E1).fz, R1, q, ?_⟩⟩
  cases r with
  | inl d => exact fun F2 H2 v E2 R2 => k F2 H2 v (E1.trans E2) R2
  | inr y => exact fun F2 H2 C E2 hC => k F2 H2 C (E1.trans E2) hC
theorem zK9 (h : DX X e gx) : DS X (.Return (some e) pos) (zF9 gx) := ps_mono (zI5 h) fun W σ H zz => by
 obtain ⟨F₀, H₀, F, ρ, o, E, S, q, k⟩ := zz
 obtain ⟨r, e1, q⟩ := bnd q
 refine ⟨_, H₀, ρ.map frz, r, S.frz, e1, ?_⟩
 cases r with
 | inl d => cases q; exact fun F' H' v E' R' => k F' H' v (E.thaw S E') R'
 | inr y => cases q; exact fun F2 H2 C E2 hC pins s' a tr I' T' => k F2 H2 σ pins s' a C tr (E.thaw S E2) (S.frz.ext E2) I' hC T'
end
section
variable {X : Cx} {e : Expr} {ga : Rho -> Option D} {p pos p' : Pos} {tb : List (Str × Bool)}
end
end EX
namespace EX
open PySem PySem.Spec PyProof.Rows L2 DL PySem.W
theorem zOw {K : PySem.W.Frag} {L : Addr} : ∀ x, ([] : List Str).contains x = true -> zDf K L x := fun x h => by cases h
theorem zOv {K : PySem.W.Frag} {L C : Addr} {y : Str} {cs : List Str} (h1 : nsIn K mainGlobals y = some (some (.ref C))) (h2 : kitCls K (.ref C) (.ref L) = some true) (t : ∀ x, cs.contains x = true -> zDf K L x) : ∀ x, (y :: cs).contains x = true -> zDf K L x := fun x h => by
 rw [List.contains_cons, Bool.or_eq_true] at h
 rcases h with h | h
 ·cases (beq_iff_eq.mp h)
  exact ⟨C, h1, h2⟩
 ·exact t x h
section
variable {X : Cx} {e e' c : Expr} {gx gy : Rho -> Option R} {t : Rho -> Option Bool} {pos : Pos}
end
end EX
namespace EX
open PySem PySem.Spec PyProof.Rows L2 DL PySem.W
theorem zKz {K : PySem.W.Frag} {C : Addr} {bmB : List Value} {newId : String} (q : excIn K C bmB newId = true) : (clsIn K C).isSome = true /\ typeIn K (.ref C) = some (.type "type") := by
 unfold excIn at q
 split at q
 next dd cd sl lk =>
  refine ⟨?_, ?_⟩
  ·unfold clsIn; rw [lk]; rfl
  ·show (K.lookup C).map (·.cls) = _
   rw [lk]; rfl
 next => cases q
theorem zKA {K : PySem.W.Frag} {C L : Addr} {bmB : List Value} {newId : String} (q : excIn K L bmB newId = true) (h : subIn K (.ref C) (.ref L) = some true) : kitCls K (.ref C) (.ref L) = some true := by
 obtain ⟨h1, h2⟩ := zKz q
 unfold kitCls
 simp only [h1, h2, beq_self_eq_true, Bool.and_self, if_true]
 exact h
end EX
namespace TX
open PySem PySem.Spec PyProof.Rows L2 DL
open Builtin Builtin.Str
section
variable {X : Cx}
end
end TX
namespace TX
open PySem PySem.Spec PyProof.Rows L2 DL
open Builtin Builtin.Str
section
variable {X : Cx} {o e : Expr} {go ge : Rho -> Option D} {apos cpos : Pos}
def zBe : List D -> Option D
 | [.str z] => if decide (z.length <= 1000000) then some (.int z.length) else none
 | _ => none
theorem zDg : zAH X (.builtin "len") (rDA X.K zBe) := zB3 zKj fun xs H Q zz => by
 obtain ⟨F, ds, q, z, R, hq, k⟩ := zz
 unfold zBe at hq
 split at hq
 ·split at hq
  next c =>
   cases hq
   cases R with
   | cons r rs =>
    cases rs
    cases r
    exact ⟨_, rfl, by rw [Q3]; have := of_decide_eq_true c; lia, k F H _ (Ext.refl F H) (.int _)⟩
  next => cases hq
 ·cases hq
def zB4 : D -> D -> Option D
 | .str x, .str y => if decide (x.length + y.length <= 1000000) then some (.str (x ++ y)) else none
 | _, _ => none
theorem zMS : OpR X (binaryOp .Add) (rD2 X.K zB4) := zCP zMK fun x y H Q zz => by
 obtain ⟨F, d, e, q, z, R1, R2, hq, k⟩ := zz
 unfold zB4 at hq
 split at hq
 ·split at hq
  next c =>
   cases hq
   cases R1
   cases R2
   exact ⟨_, _, rfl, rfl, by rw [Q3]; have := of_decide_eq_true c; lia, k F H _ (Ext.refl F H) (.str _)⟩
  next => cases hq
 ·cases hq
end
end TX
namespace TX
open PySem PySem.Spec PyProof.Rows L2 DL ZL EL
open Builtin Builtin.Str
def sigs (x : Str) : List Str := x.cps.toList.map fun c => ⟨#[c]⟩
end TX
namespace TB
open PySem PySem.Spec PyProof.Rows L2 DL TX
inductive TEnt (K : PySem.W.Frag) (w : World) : List (Str × D) -> List DictEntry -> Prop
 | nil : TEnt K w [] []
 | cons {x : Str} {d : D} {h : Int} {t : Tok} {v : V} {u : Value} {tb : List (Str × D)} {es : List DictEntry} : h = PySem.hashStr w x -> RelV v u -> (∀ F H, Rep K F H d v) -> TEnt K w tb es -> TEnt K w ((x, d) :: tb) (⟨h, .str x t, u⟩ :: es)
def Tab (K : PySem.W.Frag) (w : World) (a : Addr) (tb : List (Str × D)) : Prop := ∃ es ep, K.lookup a = some ⟨.type "dict", none, .dict es ep, #[]⟩ /\ TEnt K w tb es.toList
def eTab (tb : List (Str × D)) (ga : Rho -> Option D) : Rho -> Option D := fun ρ => (ga ρ).bind fun k => match k with
 | .str x => tb.lookup x
 | _ => none
theorem zOz {prog : Program} {K : PySem.W.Frag} {w : World} : ∀ {tb : List (Str × D)} {es : List DictEntry}, TEnt K w tb es -> ∀ e ∈ es, ∃ k, (PySem.strKind prog w).is k e.key = true /\ e.hash = (PySem.strKind prog w).hash k := by
 intro tb es h
 induction h with
 | nil => intro e he; cases he
 | cons hh r rp _ ih =>
  intro e he
  rcases Qk.mp he with rfl | he
  ·exact ⟨_, by simp [PySem.strKind, Value.isStrOf], hh⟩
  ·exact ih e he
theorem zOy {prog : Program} {K : PySem.W.Frag} {w : World} {x : Str} {d : D} : ∀ {tb : List (Str × D)} {es : List DictEntry}, TEnt K w tb es -> tb.lookup x = some d -> ∃ e v, es.find? (fun e => (PySem.strKind prog w).is x e.key) = some e /\ RelV v e.val /\ ∀ F H, Rep K F H d v := by
 intro tb es h
 induction h with
 | nil => intro e; cases e
 | @cons y d' hh t v u tb es h1 h2 h3 _ ih =>
  intro e
  rw [QQ] at e
  by_cases z : x = y
  ·subst z
   rw [beq_self_eq_true] at e
   cases e
   exact ⟨_, v, by rw [List.find?_cons_of_pos (by simp [PySem.strKind, Value.isStrOf])], h2, h3⟩
  ·rw [show (x == y) = false from by simpa using z] at e
   obtain ⟨e', v', q1, q2, q3⟩ := ih e
   refine ⟨e', v', ?_, q2, q3⟩
   rw [List.find?_cons_of_neg (by simp [PySem.strKind, Value.isStrOf]; first | exact z | exact fun q => z q.symm)]
   exact q1
section
variable {X : Cx} {e : Expr} {ga gb : Rho -> Option D} {p pos : Pos}
def rTab (K : PySem.W.Frag) (w : World) : R2 := fun x y H Q => ∃ a k tb d, x = .ref a /\ y = .str k /\ Tab K w a tb /\ tb.lookup k = some d /\ ∀ v, (∀ F, Rep K F H d v) -> Q v H
theorem zLV : IxR X (rTab X.K X.w) := fun value slice pins s σ H x y v u Q I rx ry ⟨a, k, tb, d, ex, ey, ⟨es, ep, lk, T⟩, hd, kk⟩ hs => by
 subst ex ey
 cases rx
 obtain ⟨t, rfl⟩ := ry
 obtain ⟨en, v', g1, g2, g3⟩ := zOy (prog := X.prog) T hd
 have ho := I.kIn a _ lk
 have hm : s.heap.MapOf (PySem.strKind X.prog X.w) a (findBy (PySem.strKind X.prog X.w).is es) := ⟨_, es, ep, ho, ⟨rfl, rfl, rfl⟩, rfl, fun e he => zOz T e (by simpa using he), fun _ => rfl⟩
 have hf : findBy (PySem.strKind X.prog X.w).is es k = some en.val := by
  unfold findBy
  rw [<- Array.find?_toList, g1]
  rfl
 have hT := hm.typeIs
 unfold subscriptTail
 refine Qa ?_
 rw [Jn hT.not_modules]
 refine Qa (Jl hT PySem.F.slot_dict_getitem.lookup ?_)
 have fin : wpAny (model X.prog X.w) X.A (subscripted slice false (.ref a) (.str k t)) (fun r s₃ => wpAny (model X.prog X.w) X.A (letTemporaryGo value (.ref a) r >>= fun _ => pure r) (EP X pins σ Q) X.xe s₃) X.xe s := by
  rw [hs]
  refine wpAny_operating ?_
  refine wpAny_getItem_of (knd := PySem.strKind X.prog X.w) (k := k) (by simp [PySem.strKind, Value.isStrOf]) hm hf ?_
  exact Qa (Jr (Qb ⟨v', H, I.tok _, g2, kk v' fun F => g3 F H⟩))
 first
  | exact Qb (Qa fin)
  | exact Qa (Qb (Qa fin))
  | exact Qa fin
theorem zG5 {x : Str} {a : Addr} {tb : List (Str × D)} (hg : Gl X x) (hm : X.mg x = some (.ref a)) (T : Tab X.K X.w a tb) (ha : DE X e ga) (hd : (x == ("__debug__" : Str)) = false := by decide) (hs : zDe e := by exact fun _ _ => rfl) : DE X (.Subscript (.Name x p) e pos) (eTab tb ga) :=
 zAK (zEp zLV (zIT (v := .ref a) hg hm rfl hd) ha hs) fun σ H Q zz => by
  obtain ⟨F, H₀, ρ, d, S, q, k⟩ := zz
  obtain ⟨kd, e1, q⟩ := bnd q
  refine ⟨F, H₀, ρ, kd, S, e1, fun F1 H1 v E1 R1 => ?_⟩
  split at q
  ·cases R1
   exact ⟨a, _, tb, d, rfl, rfl, T, q, fun v R => k F1 H1 v E1 (R F1)⟩
  ·cases q
def dIxS : D -> D -> Option D
 | .str x, .int i => if decide (x.length <= 1000000) then (atI x.cps.toList i).bind fun c => some (.str ⟨#[c]⟩) else none
 | _, _ => none
theorem ixdS : IxR X (rD2 X.K dIxS) := zIc zLU fun x y H Q zz => by
 obtain ⟨F, d, e, q, z, R1, R2, hq, k⟩ := zz
 unfold dIxS at hq
 split at hq
 ·split at hq
  next c =>
   obtain ⟨c', e1, hq⟩ := bnd hq
   cases hq
   cases R1
   cases R2
   exact ⟨_, _, c', rfl, rfl, by rw [Q3]; have := of_decide_eq_true c; lia, e1, k F H _ (Ext.refl F H) (.str _)⟩
  next => cases hq
 ·cases hq
end
mutual
def noL : D -> Bool
 | .none => true
 | .bool _ => true
 | .int _ => true
 | .str _ => true
 | .tuple ds => noLs ds
 | _ => false
def noLs : List D -> Bool
 | [] => true
 | d :: ds => noL d && noLs ds
end
mutual
theorem zFQ {K : PySem.W.Frag} {F F2 : Addr -> Prop} {H : Hp} {d : D} {v : V} (h : Rep K F H d v) (q : noL d = true) : Rep K F2 H d v := by
 cases h with
 | non => exact .non
 | bl b => exact .bl b
 | int i => exact .int i
 | str x => exact .str x
 | tup h r => exact .tup h (noLs_rep r q)
 | lst h r => cases q
 | dct f h n l r => cases q
 | exn f h n => cases q
theorem noLs_rep {K : PySem.W.Frag} {F F2 : Addr -> Prop} {H : Hp} {ds : List D} {vs : List V} (h : Reps K F H ds vs) (q : noLs ds = true) : Reps K F2 H ds vs := by
 cases h with
 | nil => exact .nil
 | cons h r =>
  have q := QE.mp q
  exact .cons (zFQ h q.1) (noLs_rep r q.2)
end
def zCW (i : Nat) (ga : Rho -> Option D) : Rho -> Option Out := fun ρ => match ρ[i]? with
 | some (.own ds) => (ga (ρ.map frz)).bind fun d => if (noL d && decide (ds.length < 1000)) = true then some (.nx (ρ.set i (.own (ds ++ [d])))) else none
 | _ => none
section
variable {X : Cx} {e : Expr} {ga : Rho -> Option D} {p pos : Pos}
theorem zK5 {i : Nat} {x : Str} {apos pos' : Pos} (ha : DE X e ga) (hN : X.N[i]? = some x := by rfl) (hv : Vis X.env.scope x := by first | exact Or.inl rfl | exact Or.inr (Or.inl rfl) | exact Or.inr (Or.inr rfl)) (hd : (x == ("__debug__" : Str)) = false := by decide)
  (hcd : (x == ("__classdict__" : Str)) = false := by decide) (hse : starEach [e] X.env = (false, eval e X.env) :: starEach [] X.env := by rfl)
  (hbase : attributeBase (.Name x p) "append" X.env (eval (.Name x p) X.env) = eval (.Name x p) X.env := by rfl)
  (hfew : ((backTo pos' (starEach [e] X.env)).all (fun x => !x.1) && (backToKw pos' (keywordEach [] X.env)).all (fun x => x.1.isSome)
   && decide ([e].length + ([] : List Keyword).length + (if ([] : List Keyword).isEmpty then 0 else 1) < 30)) = true := by rfl)
  (hline : (apos.endLine == pos'.line) = true := by rfl) (hplain : (backTo pos' (starEach [] X.env)).any (·.1) = false := by rfl) (hsw : swapsWith (.Call (.Attribute (.Name x p) "append" apos) [e] [] pos') none pos.line X.env = pure false := by rfl) :
  DS X (.Expr (.Call (.Attribute (.Name x p) "append" apos) [e] [] pos') pos) (zCW i ga) :=
 ps_mono (zEr (zFW PySem.F.plainAttrs_list PySem.F.slot_list_append PySem.F.type_list_append zFL (zCS hN hv hd hcd) (zCj ha zCR hse) hbase hfew hline hse hplain) hsw) fun W σ H zz => by
 obtain ⟨F₀, H₀, F, ρ, o, E, S, q, k⟩ := zz
 unfold zCW at q
 split at q
 ·rename_i ds e0
  obtain ⟨d, e1, q⟩ := bnd q
  by_cases hl : (noL d && decide (ds.length < 1000)) = true
  ·rw [if_pos hl] at q
   cases q
   rw [QH, decide_eq_true_eq] at hl
   obtain ⟨l, vs, q1, q2, q3, q4, q5⟩ := S.own e0
   refine ⟨_, q1, .inl ⟨rfl, _, SqL.of q2⟩, _, H₀, ρ.map frz, d, S.frz, e1, fun F' H' v E' R' => ?_⟩
   have E2 := E'.lend S
   have S' := S.ext E2
   obtain ⟨l', vs', g1, g2, g3, g4, g5⟩ := S'.own e0
   rw [q1] at g1; cases g1
   refine ⟨l, vs', v, rfl, rfl, g2, zEF (by rw [<- g5.length]; lia), ?_⟩
   obtain ⟨S2, T⟩ := S'.turn e0 q1 g2 g3 (g5.append (.cons (zFQ R' hl.1) .nil))
   exact k _ _ σ ((E.trans E2).turn q4) (E2.stay.trans T) S2
  ·rw [if_neg hl] at q; cases q
 ·cases q
end
end TB
namespace TX
open PySem PySem.Spec PyProof.Rows L2 DL
open Builtin Builtin.Str
section
variable {X : Cx}
def isN : D -> Bool
 | .none => true
 | _ => false
def dIsN : D -> D -> Option D
 | d, .none => some (.bool (isN d))
 | _, _ => none
theorem zMT : OpR X (compareOp .Is) (rD2 X.K dIsN) := zCP zMN fun x y H Q zz => by
 obtain ⟨F, d, e, q, z, R1, R2, hq, k⟩ := zz
 unfold dIsN at hq
 split at hq
 ·cases hq
  cases R2
  refine ⟨rfl, ?_⟩
  have e : decide (x = .non) = isN d := by cases R1 <;> rfl
  rw [e]
  exact k F H _ (Ext.refl F H) (.bl _)
 ·cases hq
def ItS (x : Str) : It := ⟨fun i _ => i < x.cps.size, fun i H v H' => H' = H /\ ∃ c, x.cps[i]? = some c /\ v = .str ⟨#[c]⟩, fun i _ => x.cps.size <= i⟩
theorem zOJ {P : Program} {w : World} {K : PySem.W.Frag} {tg : Expr} (it : Addr) (x : Str) (t : Tok) : Turn P w K tg (ItS x) [it] it (fun i h => h.IsStrIter it (strIterType x) x t i) where
 mem := by simp
 obj := fun i h st b hb => by
  obtain ⟨o, ho, _, hd⟩ := st
  rw [Qq.mp hb]
  exact ⟨o, ho, fun v z => by rw [hd] at z; cases z⟩
 keep := fun i h h' st k => by
  obtain ⟨o, ho, r⟩ := st
  exact ⟨o, k it (by simp) o ho, r⟩
 item := by
  intro X hP hw hK hc i pins s σ H E I hf st hg
  subst hP hw hK
  obtain ⟨f0, f1, f2, f3, f4, f5⟩ := hf it (by simp)
  have hlt : i < x.cps.size := hg
  have go : ∀ (n : String), strIterType x = n -> n = "str_ascii_iterator" ∨ n = "str_iterator" -> ∀ (c : Nat) (h' : Heap) (tk : Tok), x.cps[i]? = some c -> h'.IsStrIter it n x t (i + 1) -> (∀ b o, b ≠ it -> s.heap.get? b = some o -> h'.get? b = some o) -> ∃ u, some (Value.str ⟨#[c]⟩ s.toks) = some u /\
    wpAny (model X.prog X.w) X.A (letOwnedTupleGo tg (.ref it) u) (fun _ s2 => ∃ y H', Inv X pins σ H' s2 /\ RelV y u /\ (ItS x).yld i H y H' /\ s2.heap.IsStrIter it (strIterType x) x t (i + 1) /\ ∀ b ∈ [it], H' b = none) E { s with heap := h', toks := tk } := fun n hn hn2 c h' tk hc' st' kk => by
   have I1 : Inv X pins σ H { s with heap := h', toks := tk } := I.turned (fun b o hb e => kk b o hb e) f0 f1 f3 f4 f5
   obtain ⟨o', ho', hcl, hdt⟩ := id st'
   refine ⟨_, rfl, zCJ (s := { s with heap := h', toks := tk }) (n := n) ho' hcl hdt (by rcases hn2 with rfl | rfl <;> decide) ⟨.str ⟨#[c]⟩, H, I1, ⟨_, rfl⟩, ⟨rfl, c, hc', rfl⟩, by rw [hn]; exact st', fun b hb => (hf b hb).1⟩⟩
  have hcx : x.cps[i]? = some x.cps[i] := by simp [hlt]
  by_cases a : (x.cps.all (· < 128)) = true
  ·have e : strIterType x = "str_ascii_iterator" := by unfold strIterType; rw [if_pos a]
   have st2 : s.heap.IsStrIter it "str_ascii_iterator" x t i := by rw [<- e]; exact st
   exact wpAny_pyNext_ascii_item st2 hcx fun h' hit hs => go _ e (.inl rfl) _ h' _ hcx hit fun b o hb q => hs.extBut b o hb q
  ·have e : strIterType x = "str_iterator" := by unfold strIterType; rw [if_neg a]
   have st2 : s.heap.IsStrIter it "str_iterator" x t i := by rw [<- e]; exact st
   exact wpAny_pyNext_wide_item st2 hcx fun h' hit hs => go _ e (.inr rfl) _ h' _ hcx hit fun b o hb q => hs.extBut b o hb q
 done := by
  intro X hP hw hK hc i pins s σ H E I hf st hg
  subst hP hw hK
  obtain ⟨f0, f1, f2, f3, f4, f5⟩ := hf it (by simp)
  have hle : x.cps[i]? = none := Yp hg
  by_cases a : (x.cps.all (· < 128)) = true
  ·have e : strIterType x = "str_ascii_iterator" := by unfold strIterType; rw [if_pos a]
   have st2 : s.heap.IsStrIter it "str_ascii_iterator" x t i := by rw [<- e]; exact st
   exact wpAny_pyNext_ascii_end (I.ok.hd hc) st2 hle fun h' eb => ⟨rfl, I.turned (t' := s.toks) (fun b o hb e => eb b o hb e) f0 f1 f3 f4 f5⟩
  ·have e : strIterType x = "str_iterator" := by unfold strIterType; rw [if_neg a]
   have st2 : s.heap.IsStrIter it "str_iterator" x t i := by rw [<- e]; exact st
   exact wpAny_pyNext_wide_end (I.ok.hd hc) st2 hle fun h' eb => ⟨rfl, I.turned (t' := s.toks) (fun b o hb e => eb b o hb e) f0 f1 f3 f4 f5⟩
 self := fun A i s Q E st h => by
  by_cases a : (x.cps.all (· < 128)) = true
  ·have e : strIterType x = "str_ascii_iterator" := by unfold strIterType; rw [if_pos a]
   have st2 : s.heap.IsStrIter it "str_ascii_iterator" x t i := by rw [<- e]; exact st
   exact wpAny_pyIter_striter_ascii st2 h
  ·have e : strIterType x = "str_iterator" := by unfold strIterType; rw [if_neg a]
   have st2 : s.heap.IsStrIter it "str_iterator" x t i := by rw [<- e]; exact st
   exact wpAny_pyIter_striter_wide st2 h
def strD : D -> Option (List D)
 | .str x => some ((sigs x).map .str)
 | _ => none
def iStr (ga : Rho -> Option D) : Rho -> Option (List D) := fun ρ => (ga ρ).bind strD
theorem zKU {tg e : Expr} {ga : Rho -> Option D} (ha : DE X e ga) : DI X tg e (iStr ga) := by
 intro pins s σ H R I h
 obtain ⟨F, H₀, ρ, ds, S, q, k⟩ := h
 obtain ⟨d, e1, q⟩ := bnd q
 refine thn (ha pins s σ H (fun x H1 => ∃ F1, Ext F F1 H H1 /\ Rep X.K F1 H1 d x) I ⟨F, H₀, ρ, d, S, e1, fun F1 H1 v E1 R1 => ⟨F1, E1, R1⟩⟩) fun v s1 zz => ?_
 obtain ⟨x, H1, I1, r1, F1, E1, R1⟩ := zz
 cases R1 with
 | str z =>
  cases q
  obtain ⟨t, rfl⟩ := r1
  refine wpAny_pyIter_strU ?_
  refine ⟨s1.heap.objs.size, [s1.heap.objs.size], _, ItS z, H1, rfl, I1.kept (t' := s1.toks) fun b o e => Qc _ e, zOJ _ z t, ⟨_, Qt _ rfl, rfl, rfl⟩, fun b hb => ?_, k F1 H1 _ E1 ?_⟩
  ·have e : b = s1.heap.objs.size := by simpa using hb
   subst e
   exact I1.fpOk (Qh _) (I1.hok.fresh (Qh _))
  ·intro F2 H2 T zz i
   refine ⟨fun d hd => ?_, fun hl => ?_⟩
   ·unfold sigs at hd
    rw [Yg, QP, QD] at hd
    cases qc : z.cps[i]? with
    | none => rw [qc] at hd; cases hd
    | some c =>
     rw [qc] at hd
     cases hd
     refine ⟨(QZ.mp qc).1, fun y H3 yy => ?_⟩
     obtain ⟨rfl, c', h1, rfl⟩ := yy
     rw [qc] at h1
     cases h1
     exact ⟨F2, Ext.refl F2 H3, .str _⟩
   ·unfold sigs at hl
    rw [Qj, Qj, Qr] at hl
    exact hl
 | _ => cases q
end
end TX
namespace EX
open PySem PySem.Spec PyProof.Rows L2 DL PySem.W
end EX
namespace CL
open PySem PySem.Spec PyProof.Rows L2
section
variable {X : Cx} {N' : List Str} {scope : Scope} {inner : List (Option Nat)} {x0 : Str} {cl : List (Str × Addr)} {C : Addr} {fp : List Addr} {s s4 : Shared} {H : Hp} {σ : L2.St} {pins : List (Addr × Obj)}
end
section
variable {X : Cx} {elt tg iter : Expr} {ifs : List Expr} {scope : Scope} {pos : Pos} {N' : List Str} {inner : List (Option Nat)} {x0 : Str} {wi : TI} {g : TG} {ti : TT} {te : TE}
end
end CL
namespace DL
open PySem PySem.Spec PySem.SeqAt PyProof.Rows L2 CL
section
variable {X : Cx} {elt tg iter : Expr} {ifs : List Expr} {scope : Scope} {pos : Pos} {N' : List Str} {inner : List (Option Nat)} {x0 : Str} {gi : Rho -> Option (List D)} {s : D -> Rho -> Option Rho} {t : Rho -> Option Bool} {ge : Rho -> Option D}
end
end DL
namespace CL
open PySem PySem.Spec PyProof.Rows L2
section
variable {X : Cx} {elt tg iter : Expr} {ifs : List Expr} {scope : Scope} {pos : Pos} {N' : List Str} {inner : List (Option Nat)} {x0 : Str} {wi : TI} {g : TG} {ti : TT} {te : TE}
end
end CL
namespace DL
open PySem PySem.Spec PySem.SeqAt PyProof.Rows L2 CL
section
variable {X : Cx} {elt tg iter : Expr} {ifs : List Expr} {scope : Scope} {pos : Pos} {N' : List Str} {inner : List (Option Nat)} {x0 : Str} {gi : Rho -> Option (List D)} {s : D -> Rho -> Option Rho} {t : Rho -> Option Bool} {ge : Rho -> Option D}
end
end DL
namespace DC
open PySem PySem.Spec PyProof.Rows L2 DL ST SL EL TB TX
def zBv : D -> D -> Option D
 | d, .none => some (.bool (!isN d))
 | _, _ => none
section
variable {X : Cx} {e k v a b : Expr} {es : List Expr} {gr : Rho -> Option (List D)} {ga gb ge gk gv : Rho -> Option D} {p pos : Pos}
theorem zDy : OpR X (compareOp .IsNot) (rD2 X.K zBv) := zCP zMQ fun x y H Q zz => by
 obtain ⟨F, d, e, q, z, R1, R2, hq, k⟩ := zz
 unfold zBv at hq
 split at hq
 ·cases hq
  cases R2
  refine ⟨rfl, ?_⟩
  have e : decide (x = .non) = isN d := by cases R1 <;> rfl
  rw [e]
  exact k F H _ (Ext.refl F H) (.bl _)
 ·cases hq
def zEV (ds : List D) : Option D := (zBy ds).bind fun is => if is.length = 2 then some (.int (if is.getD 1 0 < is.getD 0 0 then is.getD 1 0 else is.getD 0 0)) else none
def zEU (ds : List D) : Option D := (zBy ds).bind fun is => if is.length = 2 then some (.int (if is.getD 1 0 > is.getD 0 0 then is.getD 1 0 else is.getD 0 0)) else none
theorem zJJ {is : List Int} (h : is.length = 2) : ∃ i j, is = [i, j] := by
 rcases is with _ | ⟨i, _ | ⟨j, _ | ⟨k, r⟩⟩⟩
 ·cases h
 ·cases h
 ·exact ⟨i, j, rfl⟩
 ·cases h
theorem zKu (hc : X.calm = true) : zAH X (.builtin "min") (rDA X.K zEV) := zB3 (zKl hc) fun xs H Q zz => by
 obtain ⟨F, ds, q, z, R, hq, k⟩ := zz
 obtain ⟨is, e1, hq⟩ := bnd hq
 by_cases c : is.length = 2
 ·rw [if_pos c] at hq
  cases hq
  obtain ⟨i, j, rfl⟩ := zJJ c
  have := zD8 R e1
  subst this
  exact ⟨_, _, rfl, k F H _ (Ext.refl F H) (.int _)⟩
 ·rw [if_neg c] at hq; cases hq
theorem zKt (hc : X.calm = true) : zAH X (.builtin "max") (rDA X.K zEU) := zB3 (zKk hc) fun xs H Q zz => by
 obtain ⟨F, ds, q, z, R, hq, k⟩ := zz
 obtain ⟨is, e1, hq⟩ := bnd hq
 by_cases c : is.length = 2
 ·rw [if_pos c] at hq
  cases hq
  obtain ⟨i, j, rfl⟩ := zJJ c
  have := zD8 R e1
  subst this
  exact ⟨_, _, rfl, k F H _ (Ext.refl F H) (.int _)⟩
 ·rw [if_neg c] at hq; cases hq
def eOrS (ga gb : Rho -> Option D) : Rho -> Option D := fun ρ => (ga ρ).bind fun x => match x with
 | .none => gb ρ
 | .str y => if y.length <= 1000000 then (if y.length = 0 then gb ρ else some (.str y)) else none
 | _ => none
theorem zKP (ha : DE X a ga) (hb : DE X b gb) : DE X (.BoolOp .Or [a, b] pos) (eOrS ga gb) := fun pins s σ H Q I zz => by
 obtain ⟨F, H₀, ρ, r, S, q, kk⟩ := zz
 obtain ⟨d, e1, q⟩ := bnd q
 refine BoolOp_or (thn (ha pins s σ H (fun x H1 => ∃ F1, Ext F F1 H H1 /\ Rep X.K F1 H1 d x) I ⟨F, H₀, ρ, d, S, e1, fun F1 H1 v E1 R1 => ⟨F1, E1, R1⟩⟩) fun v s1 zz => ?_)
 obtain ⟨x, H1, I1, r1, F1, E1, R1⟩ := zz
 have go : ∀ s2, Inv X pins σ H1 s2 -> gb ρ = some r -> wpAny (model X.prog X.w) X.A (eval (.BoolOp .Or [b] pos) X.env) (EP X pins σ Q) X.xe s2 := fun s2 I2 e2 => BoolOp_one (hb pins s2 σ H1 Q I2 ⟨F1, H₀, ρ, r, S.ext E1, e2, fun F2 H2 w E2 R2 => kk F2 H2 w (E1.trans E2) R2⟩)
 cases d with
 | none =>
  cases R1
  cases r1
  exact truthy_none (go s1 I1 q)
 | str y =>
  cases R1
  obtain ⟨t, rfl⟩ := r1
  have q : (if y.length <= 1000000 then (if y.length = 0 then gb ρ else some (.str y)) else none) = some r := q
  by_cases c0 : y.length <= 1000000
  ·rw [if_pos c0] at q
   refine PySem.P.truthy_str (by lia) ?_
   by_cases c : y.length = 0
   ·rw [if_pos c] at q
    rw [show ((y.length : Int) != 0) = false by rw [c]; rfl]
    exact go _ (I1.tok _) q
   ·rw [if_neg c] at q
    cases q
    rw [show ((y.length : Int) != 0) = true by simp; lia]
    exact ⟨.str y, H1, I1.tok _, ⟨t, rfl⟩, kk F1 H1 _ E1 (.str y)⟩
  ·rw [if_neg c0] at q; cases q
 | _ => cases q
def zDF (i : Nat) (g : Rho -> Option D) : Rho -> Option Out := fun ρ => (g (ρ.map frz)).bind fun d => if noL d = true then some (.nx (ρ.set i (.dat d))) else none
theorem zLa {i : Nat} {x : Str} {pos' : Pos} (hN : X.N.Nodup) (ha : DE X e ga) (hi : X.N[i]? = some x := by rfl) (hx : Loc X.env.scope x := by first | exact Or.inl rfl | exact Or.inr rfl) (hs : swapsWith e (some (.Name x pos')) pos.line X.env = pure false := by rfl) (hf : X.fn x = true ∨ X.env.scope.names.lookup x = some .local := by first | exact .inl rfl | exact .inr rfl | assumption) :
  DS X (.Assign [.Name x pos'] e pos) (zDF i ga) := ps_mono (zCk hN hi hx ha hs hf) fun W σ H zz => by
 obtain ⟨F₀, H₀, F, ρ, o, E, S, q, k⟩ := zz
 obtain ⟨d, e1, q⟩ := bnd q
 by_cases hd : noL d = true
 ·rw [if_pos hd] at q
  cases q
  refine ⟨_, H₀, ρ.map frz, d, S.frz, e1, fun F' H' v E' R' => ?_⟩
  have E2 := E'.lend S
  exact k _ H' _ (E.trans E2) E2.stay ((S.ext E2).put (zFQ R' hd))
 ·rw [if_neg hd] at q; cases q
def zJj (i : Nat) (gk gv : Rho -> Option D) : Rho -> Option Out := fun ρ => (gk ρ).bind fun kd => (gv ρ).bind fun d => (decT kd).bind fun ks => some (.nx (ρ.set i (.ownD [(encT ks, d)])))
theorem zM7 (hu : X.A.units + 65 < cLine) (hk : DE X k gk) (hv : DE X v gv) : PE X (.Dict [some k] [v] pos) (fun σ H Q => ∃ F H₀ ρ kd ks d, StOk X.K F H H₀ σ ρ /\ gk ρ = some kd /\ decT kd = some ks /\ gv ρ = some d /\ ∀ F' H' p b w ep ep0, H p = none -> Ext F F' (upd H p (DctO p [] ep0)) H' -> SqT X.K H' b (ks.map V.int) -> Rep X.K F' H' d w -> Q (.ref p) (upd H' p (DctO p [(.inl ks, b, w)] ep))) := fun pins s σ H Q I zz => by
 obtain ⟨F, H₀, ρ, kd, ks, d, S, e1, e2, e3, kk⟩ := zz
 refine wpAny_Dict_any rfl rfl (by simp) (by simp) ?_
 have hp : H s.heap.objs.size = none := I.hok.fresh (Qh _)
 have lo : (s.heap.objs.size == sysModules) = false := beq_eq_false_iff_ne.mpr (Ne.symm (Qy (zEP I)))
 have dd : (s.heap.push { cls := .type "dict", data := .dict #[] }).DictOfH (TKd X.prog X.w) s.heap.objs.size [] := ⟨_, _, _, Qt _ rfl, ⟨rfl, rfl, rfl⟩, rfl, rfl, fun x hx => (nomatch hx), .nil⟩
 obtain ⟨ep, oo⟩ := zDU (H := H) lo dd .nil
 have I0 : Inv X pins σ (upd H s.heap.objs.size (DctO s.heap.objs.size [] ep)) { s with heap := s.heap.push { cls := .type "dict", data := .dict #[] } } := I.laid (t' := s.toks) (fun b o q => Qc _ q) (Qh _) oo
 have E0 : Ext F F H (upd H s.heap.objs.size (DctO s.heap.objs.size [] ep)) := Ext.fresh hp
 generalize s.heap.objs.size = pp at *
 have S0 := S.ext E0
 refine pairTrees_cons_walk (thn (hk pins _ σ _ (fun x H1 => ∃ F1, Ext F F1 (upd H pp (DctO pp [] ep)) H1 /\ Rep X.K F1 H1 kd x) I0 ⟨F, H₀, ρ, kd, S0, e1, fun F1 H1 v E1 R1 => ⟨F1, E1, R1⟩⟩) fun u1 s1 zz => ?_)
 obtain ⟨x1, H1, I1, r1, F1, E1, R1⟩ := zz
 have S1 := S0.ext E1
 obtain ⟨b, rfl, hb⟩ := zCl R1 e2
 cases r1
 refine thn (hv pins s1 σ H1 (fun x H2 => ∃ F2, Ext F1 F2 H1 H2 /\ Rep X.K F2 H2 d x) I1 ⟨F1, H₀, ρ, d, S1, e3, fun F2 H2 v E2 R2 => ⟨F2, E2, R2⟩⟩) fun u2 s2 zz => ?_
 obtain ⟨x2, H2, I2, r2, F2, E2, R2⟩ := zz
 refine pairTrees_nil_walk ?_
 have hH : H2 pp = some (DctO pp [] ep) := E2.same _ _ (E1.same _ _ zAL)
 obtain ⟨lo2, xs, d2, er⟩ := zCC I2 hH (fun e he => (nomatch he)) .nil
 cases er
 have hb2 := Same.sqT E2.same hb
 unfold storeAll
 rw [List.forIn_cons]
 refine Qa (Qa (wpAny_dictSet_heap (knd := TKd X.prog X.w) (k := ks) (show X.A.units < cLine from by lia) (zBi I2 hb2) d2 (fun h' dd' hsb => Qb ?_) (QU _)))
 obtain ⟨ep', oo'⟩ := zDU (H := H2) lo2 dd' (zE9 r2 .nil)
 have I4 : Inv X pins σ (upd H2 pp (DctO pp (putE [] ks b x2) ep')) { s2 with heap := h', toks := s2.toks + (TKd X.prog X.w).draws ks } := I2.write (x := pp) (e := pp) (t' := s2.toks + (TKd X.prog X.w).draws ks) (by rw [hH]; exact True.intro) (.inl rfl) (fun c ob hc z => (hsb.2 c hc).trans z) (let ⟨o2, _, _, hq, _⟩ := dd'; ⟨o2, hq⟩) oo'
 show wpAny _ _ (forIn [] PUnit.unit _) _ _ _
 rw [List.forIn_nil]
 exact Qb ⟨.ref pp, _, I4, rfl, kk F2 H2 pp b x2 ep' ep hp (E1.trans E2) hb2 R2⟩
theorem zK8 {i : Nat} {x : Str} {pos' pos'' : Pos} (hN : X.N.Nodup) (hu : X.A.units + 65 < cLine) (hk : DE X k gk) (hv : DE X v gv) (hi : X.N[i]? = some x := by rfl) (hx : Loc X.env.scope x := by first | exact Or.inl rfl | exact Or.inr rfl)
  (hs : swapsWith (.Dict [some k] [v] pos'') (some (.Name x pos')) pos.line X.env = pure false := by rfl) (hf : X.fn x = true ∨ X.env.scope.names.lookup x = some .local := by first | exact .inl rfl | exact .inr rfl | assumption) :
  DS X (.Assign [.Name x pos'] (.Dict [some k] [v] pos'') pos) (zJj i gk gv) := ps_mono (zCk hN hi hx (zM7 hu hk hv) hs hf) fun W σ H zz => by
 obtain ⟨F₀, H₀, F, ρ, o, E, S, q, kk⟩ := zz
 obtain ⟨kd, e1, q⟩ := bnd q
 obtain ⟨d, e3, q⟩ := bnd q
 obtain ⟨ks, e2, q⟩ := bnd q
 cases q
 refine ⟨F, H₀, ρ, kd, ks, d, S, e1, e2, e3, fun F' H' p b w ep ep0 hp E' hb R => ?_⟩
 have E0 : Ext F F H (upd H p (DctO p [] ep0)) := Ext.fresh hp
 have S' := (S.ext E0).ext E'
 have h0 : H₀ p = none := E.same.free hp
 have hH : H' p = some (DctO p [] ep0) := E'.same _ _ zAL
 have nf : ¬ F' p := fun f => by
  rcases E'.new p f with f | ⟨f, _⟩
  ·exact S.fz p f hp
  ·rw [zAL] at f; cases f
 have T : Stay X.K F' F' H' (upd H' p (DctO p [(.inl ks, b, w)] ep)) := ⟨fun _ h => h, fun a xs h => by
   rcases h with (h | ⟨o, h⟩) | h
   ·exact .inl (.inl (by rw [zAm (by intro z; subst z; rw [hH] at h; cases h)]; exact h))
   ·exact .inl (.inr ⟨o, by rw [zAm (by intro z; subst z; rw [hH] at h; cases h)]; exact h⟩)
   ·exact .inr h, fun a xs f h => by
   have na : a ≠ p := fun z => nf (by rw [<- z]; exact f)
   rcases h with h | ⟨o, h⟩
   ·exact .inl (by rw [zAm na]; exact h)
   ·exact .inr ⟨o, by rw [zAm na]; exact h⟩, fun a φ f h => by rw [zAm (fun z => nf (by rw [<- z]; exact f))]; exact h⟩
 have old : ∀ (j : Nat) (s : Sl), ρ[j]? = some s -> ∃ o, σ[j]? = some o /\ SlOk X.K F' (upd H' p (DctO p [(.inl ks, b, w)] ep)) H₀ o s := fun j s h => by
  obtain ⟨o, q, z⟩ := S.sl j s h
  have ne : ∀ (a : Addr) (u : HO), H a = some u -> a ≠ p := fun a u ha e => by rw [e, hp] at ha; cases ha
  have up : ∀ (a : Addr) (u : HO), H a = some u -> upd H' p (DctO p [(.inl ks, b, w)] ep) a = some u := fun a u ha => by rw [zAm (ne a u ha)]; exact E'.same _ _ (E0.same _ _ ha)
  have out : ∀ (a : Addr) (u : HO), H a = some u -> ¬ F a -> ¬ F' a := fun a u ha nf f => by
   rcases E'.new a f with f | ⟨f, _⟩
   ·exact nf f
   ·rw [E0.same _ _ ha] at f; cases f
  have T2 : Stay X.K F F' H (upd H' p (DctO p [(.inl ks, b, w)] ep)) := (E0.trans E').stay.trans T
  refine ⟨o, q, ?_⟩
  cases s with
  | no => trivial
  | dat d => obtain ⟨v, q', r⟩ := z; exact ⟨v, q', r.stay T2⟩
  | own ds => obtain ⟨a, vs, q', ha, nf', h0', r⟩ := z; exact ⟨a, vs, q', up a _ ha, out a _ ha nf', h0', r.stay T2⟩
  | ownD kvs => obtain ⟨a, es, ep, q', ha, nf', h0', n, l, r⟩ := z; exact ⟨a, es, ep, q', up a _ ha, out a _ ha nf', h0', n, l, r.stay T2⟩
  | ownM kvs => obtain ⟨a, es, ep, q', m⟩ := z; exact ⟨a, es, ep, q', m.to T2 fun c φ hc nf' => ⟨up c _ hc, out c _ hc nf'⟩⟩
 refine kk F' _ _ ((E.trans (E0.trans E')).turn h0) ((E0.trans E').stay.trans T) ⟨by simp [S.len], fun j s h => ?_, fun j m a ds es hjk h1 h2 h3 h4 => ?_, fun a f => ?_⟩
 ·by_cases hij : i = j
  ·subst hij
   have hl : i < ρ.length := by simpa using (Qd.mp h).1
   rw [Qv hl] at h
   cases h
   exact ⟨some (.ref p), by rw [Qv (by rw [S.len]; exact hl)], p, [(.inl ks, b, w)], ep, rfl, zAL, nf, h0, by simp, by simp, .cons (k := .inl ks) (T.tp _ _ hb) (R.stay T) .nil⟩
  ·rw [Qs hij] at h
   obtain ⟨o, q, z⟩ := old j s h
   exact ⟨o, by rw [Qs hij]; exact q, z⟩
 ·have nm : ∀ (m : Nat) (es : List D), (ρ.set i (.ownD [(encT ks, d)]))[m]? = some (.own es) -> i ≠ m := fun m es g z => by
   subst z
   have hl : i < ρ.length := by simpa using (Qd.mp g).1
   rw [Qv hl] at g; cases g
  have nj := nm j ds h1
  have nk := nm m es h2
  rw [Qs nj] at h1 h3
  rw [Qs nk] at h2 h4
  exact S.sep j m a ds es hjk h1 h2 h3 h4
 ·by_cases ha : a = p
  ·subst ha; rw [zAL]; simp
  ·rw [zAm ha]; exact S'.fz a f
end
end DC
namespace DC
open PySem PySem.Spec PyProof.Rows L2 DL ST SL EL TB TX
inductive Disp (X : Cx) : List (Option Expr) -> List Expr -> List (Str × D) -> Prop
 | nil : Disp X [] [] []
 | cons {x : Str} {j : Nat} {kp : Pos} {v : Expr} {g : Rho -> Option D} {d : D} {ks : List (Option Expr)} {vs : List Expr} {tb : List (Str × D)} : DE X v g -> (∀ ρ, g ρ = some d) -> Disp X ks vs tb -> Disp X (some (.Constant (.str x) j kp) :: ks) (v :: vs) ((x, d) :: tb)
abbrev EKV : Str × V -> Str × Value -> Prop := fun e kv => e.1 = kv.1 /\ RelV e.2 kv.2
def SDO (P : Program) (w : World) (a : Addr) (es : List (Str × V)) : HO := .ext fun h => (a == sysModules) = false /\ ∃ kvs : List (Str × Value), h.DictOf (strKind P w) a kvs /\ Paired EKV es kvs
theorem zJp {P : Program} {w : World} {H : Hp} {h : Heap} {a : Addr} {es : List (Str × V)} {kvs : List (Str × Value)} (lo : (a == sysModules) = false) (d : h.DictOf (strKind P w) a kvs) (r : Paired EKV es kvs) : zAN P w H h a (SDO P w a es) :=
 ⟨⟨lo, kvs, d, r⟩, let ⟨o, _, _, ho, _⟩ := d; ⟨o, ho⟩, fun h1 h2 ⟨lo, kvs, ⟨o, es, ep, ho, q⟩, r⟩ k => ⟨lo, kvs, ⟨o, es, ep, k _ ho, q⟩, r⟩⟩
theorem zIv : ∀ {kvs acc : List (Str × Value)}, ((acc ++ kvs).map (·.1)).Nodup -> merged acc kvs = acc ++ kvs
 | [], acc, _ => by simp [merged]
 | (k, v) :: r, acc, n => by
  have hk : (acc.any fun kv => kv.1 = k) = false := by
   rw [List.any_eq_false]
   intro p hp z
   rw [Ya, List.nodup_append] at n
   exact n.2.2 _ (QJ.mpr ⟨p, hp, rfl⟩) _ (QJ.mpr ⟨(k, v), Qf, rfl⟩) (of_decide_eq_true z)
  show merged (stored acc k v) r = _
  unfold stored
  rw [if_neg (by rw [hk]; exact Qw), zIv (by rw [QM]; exact n), QM]
  rfl
section
variable {X : Cx} {e : Expr} {ga : Rho -> Option D} {p pos : Pos}
theorem zK2 {dp : Pos} {H₀ : Hp} {ρ : Rho} {pins : List (Addr × Obj)} {σ : L2.St} : ∀ {ks : List (Option Expr)} {vs : List Expr} {tb : List (Str × D)}, Disp X ks vs tb -> ∀ {F : Addr -> Prop} {H : Hp} {s : Shared} {Q : List (Value × Value) -> Shared -> Prop}, Inv X pins σ H s -> StOk X.K F H H₀ σ ρ ->
  (∀ F' H' l kvs es s', Ext F F' H H' -> Inv X pins σ H' s' -> Carries (strKind X.prog X.w) l kvs -> Paired EKV es kvs -> Paired (fun (t : Str × D) (e : Str × V) => t.1 = e.1 /\ Rep X.K F' H' t.2 e.2) tb es -> Q l s') -> wpAny (model X.prog X.w) X.A (evalPairs (pairTrees ks vs X.env dp)) Q X.xe s := by
 intro ks vs tb D
 induction D with
 | nil => exact fun {F H s Q} I S k => pairTrees_nil_walk (k F H [] [] [] s (Ext.refl F H) I trivial .nil .nil)
 | @cons x j kp v g d ks vs tb hv hg _ ih =>
  intro F H s Q I S k
  refine pairTrees_cons_walk (thn (zFX (X := X) (x := x) (j := j) (pos := kp) pins s σ H (fun y H1 => y = .str x /\ H1 = H) I ⟨rfl, rfl⟩) fun u1 s1 zz => ?_)
  obtain ⟨y, H1, I1, r1, ey, eh⟩ := zz
  subst ey eh
  obtain ⟨t, rfl⟩ := r1
  refine thn (hv pins s1 σ H1 (fun x H2 => ∃ F2, Ext F F2 H1 H2 /\ Rep X.K F2 H2 d x) I1 ⟨F, H₀, ρ, d, S, hg ρ, fun F2 H2 v E2 R2 => ⟨F2, E2, R2⟩⟩) fun u2 s2 zz => ?_
  obtain ⟨x2, H2, I2, r2, F2, E2, R2⟩ := zz
  refine ih I2 (S.ext E2) fun F' H' l kvs es s' E' I' c pe pd => ?_
  exact k F' H' _ ((x, u2) :: kvs) ((x, x2) :: es) s' (E2.trans E') I' ⟨by simp [PySem.strKind, Value.isStrOf], rfl, c⟩ (.cons ⟨rfl, r2⟩ pe) (.cons ⟨rfl, R2.stay E'.stay⟩ pd)
theorem zIQ {K : PySem.W.Frag} {F : Addr -> Prop} {H : Hp} : ∀ {tb : List (Str × D)} {es : List (Str × V)}, Paired (fun (t : Str × D) (e : Str × V) => t.1 = e.1 /\ Rep K F H t.2 e.2) tb es -> tb.map (·.1) = es.map (·.1)
 | _, _, .nil => rfl
 | _, _, .cons h t => by rw [Qo, Qo, h.1, zIQ t]
theorem zIV : ∀ {es : List (Str × V)} {kvs : List (Str × Value)}, Paired EKV es kvs -> es.map (·.1) = kvs.map (·.1)
 | _, _, .nil => rfl
 | _, _, .cons h t => by rw [Qo, Qo, h.1, zIV t]
theorem Disp.keys {ks : List (Option Expr)} {vs : List Expr} {tb : List (Str × D)} (Dp : Disp X ks vs tb) : ks.all (·.isSome) = true /\ ks.length = vs.length /\ ks.length = tb.length := by
 induction Dp with
 | nil => exact ⟨rfl, rfl, rfl⟩
 | cons _ _ _ ih => exact ⟨by simpa using ih.1, by simpa using ih.2.1, by simpa using ih.2.2⟩
theorem zM6 {ks : List (Option Expr)} {vs : List Expr} {tb : List (Str × D)} {dp : Pos} (Dp : Disp X ks vs tb) (hn : (tb.map (·.1)).Nodup) (h0 : tb ≠ []) (hl : tb.length <= 15) : PE X (.Dict ks vs dp) (fun σ H Q => ∃ F H₀ ρ, StOk X.K F H H₀ σ ρ /\
  ∀ F' H' p es, Ext F F' H H' -> H' p = some (SDO X.prog X.w p es) -> Paired (fun (t : Str × D) (e : Str × V) => t.1 = e.1 /\ Rep X.K F' H' t.2 e.2) tb es -> Q (.ref p) H') := fun pins s σ H Q I zz => by
 obtain ⟨F, H₀, ρ, S, kk⟩ := zz
 obtain ⟨k1, k2, k3⟩ := Dp.keys
 refine wpAny_Dict_walk (knd := strKind X.prog X.w) k1 k2 (fun z => by rw [z] at k3; exact h0 (List.length_eq_zero_iff.mp k3.symm)) (by lia) ?_
 have hp : H s.heap.objs.size = none := I.hok.fresh (Qh _)
 have lo : (s.heap.objs.size == sysModules) = false := beq_eq_false_iff_ne.mpr (Ne.symm (Qy (zEP I)))
 have dd : (s.heap.push { cls := .type "dict", data := .dict #[] }).DictOf (strKind X.prog X.w) s.heap.objs.size [] := ⟨_, #[], _, Qt _ rfl, ⟨rfl, rfl, rfl⟩, rfl, fun x hx => by simp at hx, .nil, .nil⟩
 have I0 : Inv X pins σ (upd H s.heap.objs.size (SDO X.prog X.w s.heap.objs.size [])) { s with heap := s.heap.push { cls := .type "dict", data := .dict #[] } } := I.laid (t' := s.toks) (fun b o q => Qc _ q) (Qh _) (zJp lo dd .nil)
 have E0 : Ext F F H (upd H s.heap.objs.size (SDO X.prog X.w s.heap.objs.size [])) := Ext.fresh hp
 generalize s.heap.objs.size = pp at *
 refine zK2 Dp I0 (S.ext E0) fun F' H' l kvs es s' E' I' c pe pd => ?_
 have hH : H' pp = some (SDO X.prog X.w pp []) := E'.same _ _ zAL
 obtain ⟨⟨lo', kvs0, d0, p0⟩, _⟩ := (show zAN X.prog X.w H' s'.heap pp (SDO X.prog X.w pp []) from I'.hok pp _ hH)
 cases p0
 refine ⟨kvs, c, d0, fun h' dd' sb => ?_⟩
 have nd : ((([] : List (Str × Value)) ++ kvs).map (·.1)).Nodup := by rw [YM, <- zIV pe, <- zIQ pd]; exact hn
 rw [zIv nd, YM] at dd'
 have I4 : Inv X pins σ (upd H' pp (SDO X.prog X.w pp es)) { s' with heap := h', toks := s'.toks + l.length } := I'.write (x := pp) (e := pp) (t' := s'.toks + l.length) (by rw [hH]; exact True.intro) (.inl rfl) (fun c ob hc z => (sb.2 c hc).trans z) (let ⟨o2, _, _, hq, _⟩ := dd'; ⟨o2, hq⟩) (zJp lo dd' pe)
 have nf : ¬ F' pp := fun f => by
  rcases E'.new pp f with f | ⟨f, _⟩
  ·exact S.fz pp f hp
  ·rw [zAL] at f; cases f
 have T : Stay X.K F' F' H' (upd H' pp (SDO X.prog X.w pp es)) := ⟨fun _ h => h, fun a xs h => by
   rcases h with (h | ⟨o, h⟩) | h
   ·exact .inl (.inl (by rw [zAm (by intro z; subst z; rw [hH] at h; cases h)]; exact h))
   ·exact .inl (.inr ⟨o, by rw [zAm (by intro z; subst z; rw [hH] at h; cases h)]; exact h⟩)
   ·exact .inr h, fun a xs f h => by
   have na : a ≠ pp := fun z => nf (by rw [<- z]; exact f)
   rcases h with h | ⟨o, h⟩
   ·exact .inl (by rw [zAm na]; exact h)
   ·exact .inr ⟨o, by rw [zAm na]; exact h⟩, fun a φ f h => by rw [zAm (fun z => nf (by rw [<- z]; exact f))]; exact h⟩
 refine ⟨.ref pp, _, I4, rfl, kk F' _ pp es ((E0.trans E').turn hp) zAL (Paired.mapP pd fun _ _ z => ⟨z.1, z.2.stay T⟩)⟩
def rSD (P : Program) (w : World) : R2 := fun x y H Q => ∃ a k es v, x = .ref a /\ y = .str k /\ H a = some (SDO P w a es) /\ es.lookup k = some v /\ Q v H
theorem zL7 {k : Str} {v : V} {es : List (Str × V)} {kvs : List (Str × Value)} (t : Paired EKV es kvs) (h : es.lookup k = some v) : ∃ u, valueAt kvs k = some u /\ RelV v u := by
 induction t with
 | nil => cases h
 | @cons e kv es kvs r t ih =>
  obtain ⟨x, y⟩ := e
  obtain ⟨x', u⟩ := kv
  obtain ⟨e1, e2⟩ := r
  cases e1
  rw [QQ] at h
  unfold valueAt
  by_cases z : k = x
  ·rw [z, beq_self_eq_true] at h
   cases h
   exact ⟨u, by rw [List.find?_cons_of_pos (p := fun kv : Str × Value => decide (kv.1 = k)) (decide_eq_true z.symm)]; rfl, e2⟩
  ·rw [beq_eq_false_iff_ne.mpr z] at h
   obtain ⟨u', q1, q2⟩ := ih h
   exact ⟨u', by rw [List.find?_cons_of_neg (p := fun kv : Str × Value => decide (kv.1 = k)) (fun q => z (of_decide_eq_true q).symm)]; exact q1, q2⟩
theorem ix_sd : IxR X (rSD X.prog X.w) := fun value slice pins s σ H x y v u Q I rx ry zz hs => by
 obtain ⟨a, k, es, w, ex, ey, h, hd, kk⟩ := zz
 subst ex ey
 cases rx
 obtain ⟨t, rfl⟩ := ry
 obtain ⟨⟨lo, kvs, dd, pe⟩, _⟩ := (show zAN X.prog X.w H s.heap a (SDO X.prog X.w a es) from I.hok a _ h)
 obtain ⟨u, g1, g2⟩ := zL7 pe hd
 have hm := dd.mapOf
 have hT := hm.typeIs
 unfold subscriptTail
 refine Qa ?_
 rw [Jn hT.not_modules]
 refine Qa (Jl hT PySem.F.slot_dict_getitem.lookup ?_)
 have fin : wpAny (model X.prog X.w) X.A (subscripted slice false (.ref a) (.str k t)) (fun r s₃ => wpAny (model X.prog X.w) X.A (letTemporaryGo value (.ref a) r >>= fun _ => pure r) (EP X pins σ Q) X.xe s₃) X.xe s := by
  rw [hs]
  refine wpAny_operating ?_
  refine wpAny_getItem_of (knd := PySem.strKind X.prog X.w) (k := k) (by simp [PySem.strKind, Value.isStrOf]) hm g1 ?_
  exact Qa (Jr (Qb ⟨w, H, I.tok _, g2, kk⟩))
 first
  | exact Qb (Qa fin)
  | exact Qa (Qb (Qa fin))
  | exact Qa fin
theorem zMY {K : PySem.W.Frag} {F : Addr -> Prop} {H : Hp} {k : Str} {d : D} {tb : List (Str × D)} {es : List (Str × V)} (t : Paired (fun (t : Str × D) (e : Str × V) => t.1 = e.1 /\ Rep K F H t.2 e.2) tb es) (h : tb.lookup k = some d) : ∃ v, es.lookup k = some v /\ Rep K F H d v := by
 induction t with
 | nil => cases h
 | @cons a b tb es r t ih =>
  obtain ⟨x, y⟩ := a
  obtain ⟨x', u⟩ := b
  obtain ⟨e1, e2⟩ := r
  cases e1
  rw [QQ] at h ⊢
  cases z : k == x with
  | true => rw [z] at h; cases h; exact ⟨u, rfl, e2⟩
  | false => rw [z] at h; exact ih h
theorem zKN {ks : List (Option Expr)} {vs : List Expr} {tb : List (Str × D)} {dp : Pos} (Dp : Disp X ks vs tb) (ha : DE X e ga) (hn : (tb.map (·.1)).Nodup := by decide) (h0 : tb ≠ [] := by decide) (hl : tb.length <= 15 := by decide) (hs : zDe e := by exact fun _ _ => rfl) : DE X (.Subscript (.Dict ks vs dp) e pos) (eTab tb ga) :=
 zAK (zEp ix_sd (zM6 Dp hn h0 hl) ha hs) fun σ H Q zz => by
  obtain ⟨F, H₀, ρ, d, S, q, k⟩ := zz
  obtain ⟨kd, e1, q⟩ := bnd q
  refine ⟨F, H₀, ρ, S, fun F1 H1 a es E1 h1 pd => ⟨F1, H₀, ρ, kd, S.ext E1, e1, fun F2 H2 y E2 R2 => ?_⟩⟩
  split at q
  ·cases R2
   obtain ⟨v, g1, g2⟩ := zMY pd q
   exact ⟨a, _, es, v, rfl, rfl, E2.same _ _ h1, g1, k F2 H2 v (E1.trans E2) (g2.stay E2.stay)⟩
  ·cases q
def Itk (tb : List (Str × D)) : It := ⟨fun i _ => i < tb.length, fun i H x H' => H' = H /\ ∃ k d, tb[i]? = some (k, d) /\ x = .str k, fun i _ => tb.length <= i⟩
theorem zJF {K : PySem.W.Frag} {w : World} {tb : List (Str × D)} {es : List DictEntry} (T : TEnt K w tb es) : tb.length = es.length := by
 induction T with
 | nil => rfl
 | cons _ _ _ _ ih => simp [ih]
theorem zOx {K : PySem.W.Frag} {w : World} {tb : List (Str × D)} {es : List DictEntry} (T : TEnt K w tb es) : ∀ {i : Nat} {k : Str} {d : D}, tb[i]? = some (k, d) -> ∃ e t, es[i]? = some e /\ e.key = .str k t := by
 induction T with
 | nil => intro i k d h; simp at h
 | cons _ _ _ _ ih =>
  intro i k d h
  cases i with
  | zero => simp at h; obtain ⟨rfl, rfl⟩ := h; exact ⟨_, _, rfl, rfl⟩
  | succ i => simpa using ih (by simpa using h)
theorem zGl {pins : List (Addr × Obj)} {σ : L2.St} {H : Hp} {s : Shared} {a : Addr} {es : Array DictEntry} {ep : Nat} (I : Inv X pins σ H s) (lk : X.K.lookup a = some ⟨.type "dict", none, .dict es ep, #[]⟩) (lo : (a == sysModules) = false) : RDt s.heap a es ep := ⟨lo, _, I.kIn a _ lk, ⟨rfl, rfl, rfl⟩, rfl⟩
theorem zOK {P : Program} {w : World} {K : PySem.W.Frag} {tg : Expr} {a it : Addr} {tb : List (Str × D)} {es : Array DictEntry} {ep : Nat} (lk : K.lookup a = some ⟨.type "dict", none, .dict es ep, #[]⟩) (lo : (a == sysModules) = false) (T : TEnt K w tb es.toList) : Turn P w K tg (Itk tb) [it] it (fun i h => h.IsKeyIter it a i es.size ep) where
 mem := by simp
 obj := fun i h st b hb => by
  have e : b = it := by simpa using hb
  subst e
  obtain ⟨o, e, c, d⟩ := st
  exact ⟨o, e, fun v z => by rw [d] at z; cases z⟩
 keep := fun i h h' st k => let ⟨o, e, c⟩ := st; ⟨o, k it (by simp) o e, c⟩
 item := by
  intro X hP hw hK hc i pins s σ H E I hf st hg
  subst hP hw hK
  have hx : i < tb.length := hg
  have sz : tb.length = es.size := by rw [zJF T]; simp
  have rd := zGl I lk lo
  obtain ⟨f0, f1, f2, f3, f4, f5⟩ := hf it (by simp)
  refine zID st rd (by lia) fun h' st' sb => ?_
  have I1 : Inv X pins σ H { s with heap := h' } := I.turned (t' := s.toks) (fun b o hb e => (sb.2 b hb).trans e) f0 f1 f3 f4 f5
  obtain ⟨o, e, c, d⟩ := id st'
  have he : tb[i]? = some (tb[i].1, tb[i].2) := by simp [hx]
  obtain ⟨en, t, g1, g2⟩ := zOx T he
  have hes : es[i] = en := by
   have : es.toList[i]? = some es[i] := by simp [show i < es.size by lia]
   rw [this] at g1; exact QG g1
  refine ⟨_, rfl, zCJ (s := { s with heap := h' }) e c d (by decide) ⟨.str tb[i].1, H, I1, ?_, ⟨rfl, _, _, he, rfl⟩, st', fun b hb => (hf b hb).1⟩⟩
  rw [hes, g2]
  exact ⟨t, rfl⟩
 done := by
  intro X hP hw hK hc i pins s σ H E I hf st hg
  subst hP hw hK
  have hx : tb.length <= i := hg
  have sz : tb.length = es.size := by rw [zJF T]; simp
  have rd := zGl I lk lo
  obtain ⟨f0, f1, f2, f3, f4, f5⟩ := hf it (by simp)
  exact zHl (I.ok.hd hc) st rd (by lia) fun h' eb => ⟨rfl, I.turned (t' := s.toks) (fun b o hb e => eb b o hb e) f0 f1 f3 f4 f5⟩
 self := fun _ _ _ _ _ st h => wpAny_pyIter_keyiter st h
def iTab (tb : List (Str × D)) : Rho -> Option (List D) := fun _ => some (tb.map fun e => .str e.1)
theorem zLM {K : PySem.W.Frag} {F : Addr -> Prop} {H : Hp} {tb : List (Str × D)} : ItD K F H (tb.map fun e => .str e.1) (Itk tb) := fun F2 H2 T z i => by
 refine ⟨fun d hd => ?_, fun hl => show tb.length <= i by simpa using hl⟩
 rw [QP] at hd
 cases e : tb[i]? with
 | none => rw [e] at hd; cases hd
 | some en =>
  rw [e] at hd
  cases hd
  refine ⟨(Qd.mp e).1, fun x H3 y => ?_⟩
  obtain ⟨y1, k, d, y2, y3⟩ := y
  subst y1 y3
  rw [e] at y2
  cases y2
  exact ⟨F2, Ext.refl _ _, .str _⟩
theorem zKV {tg : Expr} {x : Str} {a : Addr} {tb : List (Str × D)} (hg : Gl X x) (hm : X.mg x = some (.ref a)) (T : Tab X.K X.w a tb) (lo : (a == sysModules) = false) (hd : (x == ("__debug__" : Str)) = false := by decide) : DI X tg (.Name x p) (iTab tb) := by
 intro pins s σ H R I h
 obtain ⟨F, H₀, ρ, ds, S, q, k⟩ := h
 cases q
 obtain ⟨es, ep, lk, T⟩ := T
 refine thn (zIT (v := .ref a) hg hm rfl hd pins s σ H (fun x H1 => x = .ref a /\ H1 = H) I ⟨rfl, rfl⟩) fun v s1 zz => ?_
 obtain ⟨x, H1, I1, r1, ex, eh⟩ := zz
 subst ex eh
 cases r1
 have rd := zGl I1 lk lo
 refine zH9 rd ⟨s1.heap.objs.size, [s1.heap.objs.size], _, _, H1, rfl, I1.kept (t' := s1.toks) fun b o e => Qc _ e, zOK lk lo T, ⟨_, Qt _ rfl, rfl, rfl⟩, fun b hb => ?_, k F H1 _ (Ext.refl F H1) zLM⟩
 have e : b = s1.heap.objs.size := by simpa using hb
 subst e
 exact I1.fpOk (Qh _) (I1.hok.fresh (Qh _))
end
end DC
namespace EX
open PySem PySem.Spec PyProof.Rows L2 DL PySem.W
def zGa (cs : List Str) (gb gh : Rho -> Option Out) : Rho -> Option Out := fun ρ => (gb ρ).bind fun o => match o with
 | .ex x ρ' => if cs.contains x = true then (gh (ρ'.map frz)).bind fun o => match o with
  | .rt d => some (.rt d)
  | _ => none else none
 | o => some o
section
variable {X : Cx} {body suite : List Stmt} {b₀ : Stmt} {gb gh : Rho -> Option Out} {cs : List Str} {Ln : Str} {np hp pos : Pos} {L : Addr}
theorem zKr {E : Value -> Shared -> Prop} {W : Ends} {pins pins' : List (Addr × Obj)} {σ : L2.St} {H H₀ : Hp} {F F₀ : Addr -> Prop} {s : Shared} {ρ : Rho} {a C : Addr} {tr : Option Addr} {x : Str} {d : D} {E' : Value -> Shared -> Prop} (ok : X.Ok)
  (hh : ∀ e pn E, DSs { X with A := X.A.mark (some e), calm := false, pn := pn, xe := E } (b₀ :: suite) gh) (hex : X.ex = []) (hst : X.stack = X.env :: X.outer) (hfr : X.env.frame = some X.env.locals)
  (hg : Gl X Ln) (hm : X.mg Ln = some (.ref L)) (hdb : (Ln == ("__debug__" : Str)) = false) (hB : subIn X.K (.ref L) (.type "BaseException") = some true)
  (hT : zDf X.K L x) (E1 : Ext F₀ F H₀ H) (S1 : StOk X.K F H H₀ σ ρ) (I1 : Inv { X with pn := X.pn ++ pins, xe := E' } pins' σ H s) (hC : nsIn X.K mainGlobals x = some (some (.ref C))) (T1 : ThrownC { X with pn := X.pn ++ pins, xe := E' } pins' H s a (.ref C) tr)
  (q : gh (ρ.map frz) = some (.rt d)) (k : ∀ F' H' v, Ext F₀ F' H₀ H' -> Rep X.K F' H' d v -> W.rt v H') :
  wpAny (model X.prog X.w) X.A (noteFrame (.ref a) X.env) (fun _ s₂ => wpAny (model X.prog X.w) X.A (setFlight (.ref a) none) (fun _ s₃ => wpAny (model X.prog X.w) X.A (handleBy (.ref a) X.env [.ExceptHandler (some (.Name Ln np)) none (b₀ :: suite) hp]) (SP X pins W) E s₃) E s₂) E s := by
 obtain ⟨C', hC', hk⟩ := hT
 rw [hC] at hC'
 cases hC'
 have fr : X.A.frames = some (X.env :: X.outer) := by rw [ok.frames, hst]
 have st : s.heap.FunFrames X.base (X.env :: X.outer) := by
  have := I1.stack
  rw [show ({ X with pn := X.pn ++ pins, xe := E' } : Cx).stack = X.stack from rfl, hst] at this
  exact this
 refine zME fr st hfr T1.fly fun h' T hT' F' K' => ?_
 have aT : zDM { X with pn := X.pn ++ pins, xe := E' } pins' H T := zJ4 I1 hex hT'
 have aa : zDM { X with pn := X.pn ++ pins, xe := E' } pins' H a := T1.new a (.inl rfl)
 have K2 : Kept (frs ({ X with pn := X.pn ++ pins, xe := E' } : Cx).stack) (fun b => b = a ∨ some b = tr) s.heap h' := by
  rw [show ({ X with pn := X.pn ++ pins, xe := E' } : Cx).stack = X.stack from rfl, hst]
  exact K'
 have I2 := zH7 I1 (fun b hb => T1.new b hb) K2
 obtain ⟨oe, vs, he, hc, hd, h1, hTe, oT, ts, hoT, hdT, h3⟩ := F'
 have Ih : ∀ E, Inv { X with A := X.A.mark (some (.ref a)), calm := false, pn := X.pn ++ pins ++ pins', xe := E } [] σ H { s with heap := h' } := fun E =>
  zFB (X := X) (A' := X.A.mark (some (.ref a))) (pins := pins ++ pins') (zD9 ok I2 (fun p hp => by simpa [QM] using hp)) rfl (fun z => nomatch z) (fun p hp => by simpa [QM] using hp)
 refine wpAny_handleBy_cons (codeAny_handlers_test (zDt (Ih fun _ _ => False) hg hm ?_ hdb)) (by intro q; cases q)
 refine zLf I2.kIn he hc hk hB (codeAny_handlers_suite ?_)
 refine wpAny_setFlight_none he hd h1 hoT hdT (QZ.mp h3).1 ?_
 have other : ∀ b, b ≠ T -> (h'.update T (Obj.mapFields (·.setIfInBounds 3 Value.none))).get? b = h'.get? b := fun b hb => Ye _ _ (Ne.symm hb)
 have I3 := zH7 (h' := h'.update T (Obj.mapFields (·.setIfInBounds 3 Value.none))) (no := (· = T)) (s := { s with heap := h' }) (I2) (fun b hb => by rw [hb]; exact aT) ⟨fun b o hb _ e => (other b hb).trans e, fun b o hb e => ⟨o.slots, (other b hb).trans e⟩⟩
 have I7 : ∀ E, Inv { X with A := X.A.mark (some (.ref a)), calm := false, pn := X.pn ++ pins ++ pins', xe := E } [] σ H _ := fun E =>
  zFB (X := X) (A' := X.A.mark (some (.ref a))) (pins := pins ++ pins') (zD9 ok I3 (fun p hp => by simpa [QM] using hp)) rfl (fun z => nomatch z) (fun p hp => by simpa [QM] using hp)
 refine thn (hh (.ref a) (X.pn ++ pins ++ pins') _ [] _ _ _ { nx := fun _ _ => False, rt := W.rt } (I7 _) ⟨F₀, H₀, _, _, _, E1.thaw S1 (Ext.refl _ _), S1.frz, q, fun F3 H3 v E3 R3 => k F3 H3 v E3 R3⟩) fun f s6 z => ?_
 cases f with
 | next => obtain ⟨_, _, _, z⟩ := z; exact z.elim
 | brk => obtain ⟨_, _, _, z⟩ := z; exact z.elim
 | cont => obtain ⟨_, _, _, z⟩ := z; exact z.elim
 | ret u =>
  obtain ⟨v, σ3, H3, I8, rv, w⟩ := z
  have I9 : Inv X pins σ3 H3 s6 := zD9 ok I8 (fun p hp => by
   rw [QW]
   exact QK _ hp)
  exact ⟨v, _, H3, I9, rv, w⟩
theorem zLb (hb : ∀ pn E, DSs { X with pn := pn, xe := E } body gb) (hh : ∀ e pn E, DSs { X with A := X.A.mark (some e), calm := false, pn := pn, xe := E } (b₀ :: suite) gh) (hex : X.ex = []) (hst : X.stack = X.env :: X.outer) (hfr : X.env.frame = some X.env.locals)
  (hg : Gl X Ln) (hm : X.mg Ln = some (.ref L)) (hB : subIn X.K (.ref L) (.type "BaseException") = some true)
  (hT : ∀ x, cs.contains x = true -> zDf X.K L x) (hdb : (Ln == ("__debug__" : Str)) = false := by decide) : DS X (.Try body [.ExceptHandler (some (.Name Ln np)) none (b₀ :: suite) hp] [] [] pos) (zGa cs gb gh) := by
 intro pins s σ H W I ⟨F₀, H₀, F, ρ, o, E, S, q, k⟩
 obtain ⟨ob, e1, q⟩ := bnd q
 refine wpAny_Try_except ?_
 have back : ∀ {E' σ' H' s'}, Inv { X with pn := X.pn ++ pins, xe := E' } [] σ' H' s' -> Inv X pins σ' H' s' := fun {E' σ' H' s'} J => zD9 I.ok J fun p hp => by rw [QW]; exact hp
 have I' : ∀ E', Inv { X with pn := X.pn ++ pins, xe := E' } [] σ H s := fun E' => zFB (A' := X.A) (c' := X.calm) I rfl I.ok.hd fun p hp => by rw [QW] at hp; exact hp
 have fin : ∀ {E' : Value -> Shared -> Prop} {E2 : Value -> Shared -> Prop} f s', SP { X with pn := X.pn ++ pins, xe := E' } [] W f s' -> (match f with | .next => wpAny (model X.prog X.w) X.A (execs [] X.env) (SP X pins W) E2 s' | f => SP X pins W f s') := fun {E' E2} f s' z => by
  cases f with
  | next => obtain ⟨σ', H', J, w⟩ := z; exact Jy ⟨σ', H', back J, w⟩
  | brk => obtain ⟨σ', H', J, w⟩ := z; exact ⟨σ', H', back J, w⟩
  | cont => obtain ⟨σ', H', J, w⟩ := z; exact ⟨σ', H', back J, w⟩
  | ret u => obtain ⟨v, σ', H', J, r, w⟩ := z; exact ⟨v, σ', H', back J, r, w⟩
 refine thn (hb (X.pn ++ pins) _ [] s σ H W (I' _) ⟨F₀, H₀, F, ρ, ob, E, S, e1, ?_⟩) fin
 cases ob with
 | nx ρ' => cases q; exact k
 | rt d => cases q; exact k
 | bk ρ' => cases q; exact k
 | ct ρ' => cases q; exact k
 | ex x ρ' =>
  intro F' H' σ' pins' s' a C tr E1 S1 I1 hC T1
  have q' : (if cs.contains x = true then (gh (ρ'.map frz)).bind (fun o => match o with
   | .rt d => some (Out.rt d)
   | _ => none) else none) = some o := q
  split at q'
  next hc =>
   obtain ⟨oh, e2, q'⟩ := bnd q'
   cases oh with
   | rt d => cases q'; exact zKr I.ok hh hex hst hfr hg hm hdb hB (hT x hc) E1 S1 I1 hC T1 e2 k
   | _ => cases q'
  next => cases q'
end
end EX
namespace My
open PySem PySem.Spec PySem.SeqAt PyProof.Rows L2 CL DL SD ZL SL EL DC EX TX TB TX
def top (i : Nat) : Stmt := PySem.Challenge.pw_lampfloor_k73_whole_hidden.main.body.getD i (.Pass ⟨0, 0, 0, 0⟩)
structure Fo (K : PySem.W.Frag) (mg : Str -> Option Value) (n : Str) (st : Stmt) (ps : List Str) (a : Addr) (d : FuncData) : Prop where
 F : Fun K n n st a d
 m : mg n = some (.ref a)
 b : L2.Binds K d ps []
theorem fsc {N P : List Str} {sc : Scope} (h : (sc.kind, sc.isCoroutine, sc.isGenerator, N.take P.length) = (.function, false, false, P)) (q : N.Nodup /\ (∀ x ∈ P, sc.names.lookup x = some .local ∨ sc.names.lookup x = some .cell) /\ ∀ y ∈ sc.names, y.2 ≠ .free) : zAr N P sc := by
 injection h with h1 h
 injection h with h2 h
 injection h with h3 h4
 exact ⟨h1, h2, h3, q.1, h4, q.2.1, q.2.2⟩
theorem dac {X : Cx} {e : Expr} {es : List Expr} {ga : Rho -> Option D} {gr : Rho -> Option (List D)} (ha : DE X e ga) (hr : DA X es gr) (h : zFY e = true) : DA X (e :: es) (zAb ga gr) := zKL ha hr h
theorem dtp {X : Cx} {es : List Expr} {gr : Rho -> Option (List D)} {x1 pos} (h : DA X es gr) : DE X (.Tuple es x1 pos) (eTup gr) := zKR h
theorem dcl {X : Cx} {e : Expr} {es : List Expr} {gr : Rho -> Option (List D)} {p pos : Pos} {k m n : Nat} {f : Addr} {fd : FuncData} {ps : List Str} {st : Stmt} {x : Str} {G : List D -> Option D} (F : Fo X.K X.mg x st ps f fd) (Gx : FnOk X.prog X.w X.K X.mg X.base CX0 k f fd ps (spD X.K n G)) (hr : Room m X.A) (hg : Gl X x)
  (ha : DA X (e :: es) gr) (hln : ∀ ρ ds, gr ρ = some ds -> ds.length = n) (hkm : k <= m := by decide) (hdb : (x == ("__debug__" : Str)) = false := by decide) (he : starEach (e :: es) X.env = (false, eval e X.env) :: starEach es X.env := by rfl) (hpl : (backTo pos (starEach es X.env)).any (·.1) = false := by rfl) : DE X (.Call (.Name x p) (e :: es) [] pos) (zAf G gr) := zKM Gx (hr.mono hkm) hg F.m F.F.kp F.b ha hln hdb he hpl
theorem ln0 : ∀ (ρ : Rho) (ds : List D), eNil ρ = some ds -> ds.length = 0 := fun _ _ h => zHj h
section
variable {a b c d e f : Rho -> Option D}
theorem ln1 : ∀ (ρ : Rho) (ds : List D), zAb a eNil ρ = some ds -> ds.length = 1 := zBQ ln0
theorem ln2 : ∀ (ρ : Rho) (ds : List D), zAb a (zAb b eNil) ρ = some ds -> ds.length = 2 := zBQ ln1
theorem ln3 : ∀ (ρ : Rho) (ds : List D), zAb a (zAb b (zAb c eNil)) ρ = some ds -> ds.length = 3 := zBQ ln2
theorem ln4 : ∀ (ρ : Rho) (ds : List D), zAb a (zAb b (zAb c (zAb d eNil))) ρ = some ds -> ds.length = 4 := zBQ ln3
end
abbrev s_qo : Stmt := top 6
abbrev s_qj : Stmt := top 12
abbrev s_qt : Stmt := top 14
abbrev s_qq : Stmt := top 16
abbrev s_q3 : Stmt := top 17
abbrev s_qs : Stmt := top 27
abbrev s_qh : Stmt := top 32
abbrev s_qe : Stmt := top 35
abbrev s_qp : Stmt := top 43
abbrev s_q2 : Stmt := top 7
abbrev s_qc : Stmt := top 13
abbrev s_qm : Stmt := top 19
abbrev s_qf : Stmt := top 28
abbrev s_qa : Stmt := top 33
abbrev s_qi : Stmt := top 36
abbrev s_q7 : Stmt := top 38
abbrev s_qr : Stmt := top 8
abbrev s_q5 : Stmt := top 20
abbrev s_qg : Stmt := top 29
abbrev s_qb : Stmt := top 34
abbrev s_q6 : Stmt := top 41
abbrev s_q0 : Stmt := top 9
abbrev s_ql : Stmt := top 10
abbrev s_qu : Stmt := top 21
abbrev s_q1 : Stmt := top 11
abbrev s_q4 : Stmt := top 42
abbrev s_qk : Stmt := top 22
abbrev s_q9 : Stmt := top 23
abbrev s_q8 : Stmt := top 24
abbrev s_qd : Stmt := top 30
abbrev s_qn : Stmt := top 40
abbrev s_qv : Stmt := top 44
def zBr : List (Str × D) := [("n", .tuple [.int 0, .int (-1)]), ("e", .tuple [.int 1, .int 0]), ("s", .tuple [.int 0, .int 1]), ("w", .tuple [.int (-1), .int 0])]
def N_qo : List Str := ["thing"]
theorem sc_qo : zAr N_qo ["thing"] (zAj s_qo) := fsc rfl (by decide +kernel)
def zHO : Rho -> Option Out :=
  (sRet (zBn (eIs "int" (eV 0)) (zHk (eIs "bool" (eV 0)))))
def zCv : List D -> Option D := fnD 1 zHO
def N_qj : List Str := ["floor", "cells", "x"]
theorem zGd : zAr N_qj ["floor"] (zAj s_qj) := fsc rfl (by decide +kernel)
def zGE : List Str := ["y", "x"]
theorem zMu : zGE.Nodup := by decide +kernel
def zFm : Rho -> Option Out :=
  (sSeq (sOwn 1 eNil)
  (sSeq (sFor (zA0 (zAb (eOp dIx (eV 0) (eC (.int 0))) eNil)) (zAo 2) (sExt 1 (eLc (zAJ (zA0 (zAb (eOp dIx (eV 0) (eC (.int 1))) eNil)) (zAo 0) eT (eTup (zAb (eV 1) (zAb (eV 0) eNil))) [none, some 2]))))
  (sRet (eV 1))))
def zC5 : List D -> Option D := fnD 3 zFm
def N_qt : List Str := ["things"]
theorem sc_qt : zAr N_qt ["things"] (zAj s_qt) := fsc rfl (by decide +kernel)
def zGG : List Str := ["thing"]
theorem zMw : zGG.Nodup := by decide +kernel
def zHQ : Rho -> Option Out :=
  (sRet (zAf zET (zAb (eLc (zAJ (iSeq (eV 0)) (zAo 0) eT (eTup (zAb (eV 0) (zAb (eC (.bool true)) eNil))) [none])) eNil)))
def zAV : List D -> Option D := fnD 1 zHQ
def N_qq : List Str := ["one", "other", "far_x", "far_y", "way_x", "way_y", "gone_x", "gone_y", "cells", "border_x", "border_y"]
theorem zBh : zAr N_qq ["one", "other"] (zAj s_qq) := fsc rfl (by decide +kernel)
def zFo : Rho -> Option Out :=
  (sSeq (sSet 2 (zAf dAbs (zAb (eOp dSub (eOp dIx (eV 1) (eC (.int 0))) (eOp dIx (eV 0) (eC (.int 0)))) eNil)))
  (sSeq (sSet 3 (zAf dAbs (zAb (eOp dSub (eOp dIx (eV 1) (eC (.int 1))) (eOp dIx (eV 0) (eC (.int 1)))) eNil)))
  (sSeq (sSet 4 (eIf (eB (eOp dGt (eOp dIx (eV 1) (eC (.int 0))) (eOp dIx (eV 0) (eC (.int 0))))) (eC (.int 1)) (eUn dNeg (eC (.int 1)))))
  (sSeq (sSet 5 (eIf (eB (eOp dGt (eOp dIx (eV 1) (eC (.int 1))) (eOp dIx (eV 0) (eC (.int 1))))) (eC (.int 1)) (eUn dNeg (eC (.int 1)))))
  (sSeq (sSet 6 (eC (.int 0)))
  (sSeq (sSet 7 (eC (.int 0)))
  (sSeq (sOwn 8 (zAb (eV 0) eNil))
  (sSeq (zBt (eOr (eB (eOp dLt (eV 6) (eV 2))) (eB (eOp dLt (eV 7) (eV 3)))) (sSeq (sSet 9 (eOp dMul (eOp zAs (eOp dMul (eC (.int 2)) (eV 6)) (eC (.int 1))) (eV 3)))
  (sSeq (sSet 10 (eOp dMul (eOp zAs (eOp dMul (eC (.int 2)) (eV 7)) (eC (.int 1))) (eV 2)))
  (sSeq (sIf (eB (eOp dLe (eV 9) (eV 10))) (sSet 6 (eOp zAs (eV 6) (eC (.int 1)))) zAu)
  (sSeq (sIf (eB (eOp dLe (eV 10) (eV 9))) (sSet 7 (eOp zAs (eV 7) (eC (.int 1)))) zAu)
  (sApp 8 (eTup (zAb (eOp zAs (eOp dIx (eV 0) (eC (.int 0))) (eOp dMul (eV 4) (eV 6))) (zAb (eOp zAs (eOp dIx (eV 0) (eC (.int 1))) (eOp dMul (eV 5) (eV 7))) eNil)))))))) 900)
  (sRet (eV 8))))))))))
def zC6 : List D -> Option D := fnD 11 zFo
def N_q3 : List Str := ["cells", "couples", "here", "there"]
theorem zEy : zAr N_q3 ["cells"] (zAj s_q3) := fsc rfl (by decide +kernel)
def zFn : Rho -> Option Out :=
  (sSeq (sOwn 1 eNil)
  (sSeq (sFor (iZip (zAb (eV 0) (zAb (eSl2 (eV 0) (oE (eC (.int 1))) oNo) eNil))) (uTup 2 (zBb (zAo 2) (zBb (zAo 3) uNil))) (sIf (eAnd (eB (eOp dNe (eOp dIx (eV 2) (eC (.int 0))) (eOp dIx (eV 3) (eC (.int 0))))) (eB (eOp dNe (eOp dIx (eV 2) (eC (.int 1))) (eOp dIx (eV 3) (eC (.int 1)))))) (sApp 1 (zAf zDT (zAb (zAf zB5 (zAb (eLst (zAb (eTup (zAb (eOp dIx (eV 2) (eC (.int 0))) (zAb (eOp dIx (eV 3) (eC (.int 1))) eNil))) (zAb (eTup (zAb (eOp dIx (eV 3) (eC (.int 0))) (zAb (eOp dIx (eV 2) (eC (.int 1))) eNil))) eNil))) eNil)) eNil))) zAu))
  (sRet (eV 1))))
def zCt : List D -> Option D := fnD 4 zFn
def N_qs : List Str := ["cell", "word"]
theorem sc_qs : zAr N_qs ["cell", "word"] (zAj s_qs) := fsc rfl (by decide +kernel)
def zHL : Rho -> Option Out :=
  (sRet (eTup (zAb (eOp zAs (eOp dIx (eV 0) (eC (.int 0))) (eOp dIx (eTab zBr (eV 1)) (eC (.int 0)))) (zAb (eOp zAs (eOp dIx (eV 0) (eC (.int 1))) (eOp dIx (eTab zBr (eV 1)) (eC (.int 1)))) eNil))))
def zCs : List D -> Option D := fnD 2 zHL
def N_qh : List Str := ["_law_script", "_law_k"]
theorem sc_qh : zAr N_qh ["_law_script", "_law_k"] (zAj s_qh) := fsc rfl (by decide +kernel)
def zHH : Rho -> Option Out :=
  (sSeq (sIf (eB (eOp dEq (eV 0) (eLst eNil))) (sRet (eOp dMul (eC (.int 7)) (eV 1))) zAu)
  (sRet (eOp zAs (eOp dIx (eV 0) (eOp dMod (eV 1) (zAf dLen (zAb (eV 0) eNil)))) (eOp dMul (eC (.int 6553)) (eOp zBC (eV 1) (zAf dLen (zAb (eV 0) eNil)))))))
def zC1 : List D -> Option D := fnD 2 zHH
def N_qe : List Str := ["_law_floor_here"]
theorem sc_qe : zAr N_qe ["_law_floor_here"] (zAj s_qe) := fsc rfl (by decide +kernel)
def zGB : List Str := ["_law_at_here", "_law_floor_here"]
theorem zMr : zGB.Nodup := by decide +kernel
def zHI : Rho -> Option Out :=
  (sRet (eLc (zAJ (zA0 (zAb (eOp dMul (eOp dIx (eV 0) (eC (.int 0))) (eOp dIx (eV 0) (eC (.int 1)))) eNil)) (zAo 0) eT (eTup (zAb (eOp zBC (eV 0) (eOp dIx (eV 1) (eC (.int 1)))) (zAb (eOp dMod (eV 0) (eOp dIx (eV 1) (eC (.int 1)))) eNil))) [none, some 0])))
def zC2 : List D -> Option D := fnD 1 zHI
def N_qp : List Str := ["_law_cell_here", "_law_step"]
theorem sc_qp : zAr N_qp ["_law_cell_here", "_law_step"] (zAj s_qp) := fsc rfl (by decide +kernel)
def zHG : Rho -> Option Out :=
  (sRet (eTup (zAb (eOp zAs (eOp dIx (eV 0) (eC (.int 0))) (eOp dIx (eV 1) (eC (.int 0)))) (zAb (eOp zAs (eOp dIx (eV 0) (eC (.int 1))) (eOp dIx (eV 1) (eC (.int 1)))) eNil))))
def zC0 : List D -> Option D := fnD 2 zHG
def N_q2 : List Str := ["thing"]
theorem sc_q2 : zAr N_q2 ["thing"] (zAj s_q2) := fsc rfl (by decide +kernel)
def zHP : Rho -> Option Out :=
  (sSeq (sIf (eOr (eNot (eB (eIs "tuple" (eV 0)))) (eB (eOp dNe (zAf dLen (zAb (eV 0) eNil)) (eC (.int 2))))) (sRet (eC (.bool false))) zAu)
  (sRet (zBn (zAf zCv (zAb (eOp dIx (eV 0) (eC (.int 0))) eNil)) (zAf zCv (zAb (eOp dIx (eV 0) (eC (.int 1))) eNil)))))
def zC9 : List D -> Option D := fnD 1 zHP
def N_qc : List Str := ["floor"]
theorem sc_qc : zAr N_qc ["floor"] (zAj s_qc) := fsc rfl (by decide +kernel)
def zHS : Rho -> Option Out :=
  (sRet (zE5 (zE4 (eSet (zAb (zAf zC5 (zAb (eV 0) eNil)) eNil)) (eSet (zAb (eOp dIx (eV 0) (eC (.int 2))) eNil)))))
def zAY : List D -> Option D := fnD 1 zHS
def N_qm : List Str := ["solids", "one", "other", "cells", "cell", "first", "second"]
theorem zDG : zAr N_qm ["solids", "one", "other"] (zAj s_qm) := fsc rfl (by decide +kernel)
def zFr : Rho -> Option Out :=
  (sSeq (sSet 3 (zAf zC6 (zAb (eV 1) (zAb (eV 2) eNil))))
  (sSeq (sFor (iSeq (eSl2 (eV 3) oNo (oE (eUn dNeg (eC (.int 1)))))) (zAo 4) (sIf (eB (eOp (dIn2 false) (eV 4) (eV 0))) (sRet (eC (.bool false))) zAu))
  (sSeq (sFor (iSeq (zAf zCt (zAb (eV 3) eNil))) (uTup 2 (zBb (zAo 5) (zBb (zAo 6) uNil))) (sIf (eAnd (eB (eOp (dIn2 false) (eV 5) (eV 0))) (eB (eOp (dIn2 false) (eV 6) (eV 0)))) (sRet (eC (.bool false))) zAu))
  (sRet (eC (.bool true))))))
def zBZ : List D -> Option D := fnD 7 zFr
def N_qf : List Str := ["ground", "cell"]
theorem sc_qf : zAr N_qf ["ground", "cell"] (zAj s_qf) := fsc rfl (by decide +kernel)
def zGC : List Str := ["word", "cell", "ground"]
theorem zMs : zGC.Nodup := by decide +kernel
def zHX : Rho -> Option Out :=
  (sRet (eLc (zAJ (iTab zBr) (zAo 0) (eB (eOp (dIn2 false) (zAf zCs (zAb (eV 1) (zAb (eV 0) eNil))) (eV 2))) (eTup (zAb (eV 0) (zAb (zAf zCs (zAb (eV 1) (zAb (eV 0) eNil))) eNil))) [none, some 1, some 0])))
def zCw : List D -> Option D := fnD 2 zHX
def N_qa : List Str := ["_law_script", "_law_k", "_law_many", "_law_cell_here"]
theorem zGc : zAr N_qa ["_law_script", "_law_k", "_law_many"] (zAj s_qa) := fsc rfl (by decide +kernel)
def zHJ : Rho -> Option Out :=
  (sSeq (sSet 3 (eOp dMod (eOp zAs (eOp dMul (eOp dMod (zAf zC1 (zAb (eV 0) (zAb (eV 1) eNil))) (eC (.int 2147483563))) (eC (.int 69069))) (eOp dMul (eC (.int 104723)) (eOp zAs (eV 1) (eC (.int 1))))) (eC (.int 2147483563))))
  (sSeq (sSet 3 (eOp dMod (eOp zAs (eOp dMul (eV 3) (eV 3)) (eOp zBC (eV 3) (eC (.int 3)))) (eC (.int 2147483399))))
  (sRet (eOp dMod (eOp zBC (eOp dMod (eOp zAs (eOp dMul (eV 3) (eV 3)) (eOp zBC (eV 3) (eC (.int 7)))) (eC (.int 2147483647))) (eC (.int 11))) (eV 2)))))
def zAI : List D -> Option D := fnD 4 zHJ
def N_qi : List Str := ["_law_floor_here"]
theorem sc_qi : zAr N_qi ["_law_floor_here"] (zAj s_qi) := fsc rfl (by decide +kernel)
def zGD : List Str := ["_law_cell_here", "_law_floor_here"]
theorem zMt : zGD.Nodup := by decide +kernel
def zHK : Rho -> Option Out :=
  (sRet (eLc (zAJ (iSeq (zAf zC2 (zAb (eV 0) eNil))) (zAo 0) (eB (eOp (dIn true) (eV 0) (eOp dIx (eV 1) (eC (.int 2))))) (eV 0) [none, some 0])))
def zC3 : List D -> Option D := fnD 1 zHK
def N_q7 : List Str := ["_law_floor_here", "_law_cell_here", "_law_word", "_law_there"]
theorem zJm : zAr N_q7 ["_law_floor_here", "_law_cell_here", "_law_word"] (zAj s_q7) := fsc rfl (by decide +kernel)
def zFh : Rho -> Option Out :=
  (sSeq (sSet 3 (zAf zC0 (zAb (eV 1) (zAb (eTab [("n", .tuple [.int 0, .int (-1)]), ("e", .tuple [.int 1, .int 0]), ("s", .tuple [.int 0, .int 1]), ("w", .tuple [.int (-1), .int 0])] (eV 2)) eNil))))
  (sSeq (sIf (eOr (eB (eOp (dIn false) (eV 3) (eOp dIx (eV 0) (eC (.int 2))))) (eOr (eNot (eB (zBo dLe dLt (eC (.int 0)) (eOp dIx (eV 3) (eC (.int 0))) (eOp dIx (eV 0) (eC (.int 0)))))) (eNot (eB (zBo dLe dLt (eC (.int 0)) (eOp dIx (eV 3) (eC (.int 1))) (eOp dIx (eV 0) (eC (.int 1)))))))) (sRet (eC .none)) zAu)
  (sRet (eV 3))))
def zBu : List D -> Option D := fnD 4 zFh
def N_qr : List Str := ["floor", "thing"]
theorem sc_qr : zAr N_qr ["floor", "thing"] (zAj s_qr) := fsc rfl (by decide +kernel)
def zHM : Rho -> Option Out :=
  (sSeq (sIf (eNot (eB (zAf zC9 (zAb (eV 1) eNil)))) (sRet (eC (.bool false))) zAu)
  (sRet (zBn (zBo dLe dLt (eC (.int 0)) (eOp dIx (eV 1) (eC (.int 0))) (eOp dIx (eV 0) (eC (.int 0)))) (zBo dLe dLt (eC (.int 0)) (eOp dIx (eV 1) (eC (.int 1))) (eOp dIx (eV 0) (eC (.int 1)))))))
def zC7 : List D -> Option D := fnD 2 zHM
def N_q5 : List Str := ["solids", "one", "other"]
theorem sc_q5 : zAr N_q5 ["solids", "one", "other"] (zAj s_q5) := fsc rfl (by decide +kernel)
def zHV : Rho -> Option Out :=
  (sRet (zBn (eOp (dIn2 true) (eV 2) (eV 0)) (zAf zBZ (zAb (eV 0) (zAb (eV 1) (zAb (eV 2) eNil))))))
def zDa : List D -> Option D := fnD 3 zHV
def N_qg : List Str := ["ground", "start", "ways", "reached", "farther", "cell", "word", "there"]
theorem zBT : zAr N_qg ["ground", "start"] (zAj s_qg) := fsc rfl (by decide +kernel)
def zHY : Rho -> Option Out :=
  (sSeq (zJj 2 (eV 1) (eC (.str "")))
  (sSeq (sSet 3 (eLst (zAb (eV 1) eNil)))
  (sSeq (zBt (eB (eOp dNe (eV 3) (eLst eNil))) (sSeq (sOwn 4 eNil)
  (sSeq (sFor (iSeq (eV 3)) (zAo 5) (sFor (iSeq (zAf zCw (zAb (eV 0) (zAb (eV 5) eNil)))) (uTup 2 (zBb (zAo 6) (zBb (zAo 7) uNil))) (sIf (eB (eOp (dIn2 true) (eV 7) (eV 2))) (sSeq (sPut 2 (eV 7) (eOp zB4 (zBw 2 (eV 5)) (eV 6)))
  (sApp 4 (eV 7))) zAu)))
  (sFrz 4 (sSet 3 (eV 4))))) 900)
  (sRet (eV 2)))))
def zCx : List D -> Option D := fnD 8 zHY
def N_qb : List Str := ["_law_script", "_law_at_here", "_law_most", "_law_wide", "_law_high", "_law_rate", "_law_shuts", "_law_x"]
theorem zCX : zAr N_qb ["_law_script", "_law_at_here", "_law_most"] (zAj s_qb) := fsc rfl (by decide +kernel)
def zGz : List Str := ["_law_y", "_law_x", "_law_script", "_law_rate", "_law_at_here"]
theorem zMp : zGz.Nodup := by decide +kernel
def zFi : Rho -> Option Out :=
  (sSeq (sSet 3 (eOp zAs (eC (.int 1)) (zAf zAI (zAb (eV 0) (zAb (eV 1) (zAb (eV 2) eNil))))))
  (sSeq (sSet 4 (eOp zAs (eC (.int 1)) (zAf zAI (zAb (eV 0) (zAb (eOp zAs (eV 1) (eC (.int 1))) (zAb (eV 2) eNil))))))
  (sSeq (sSet 5 (eOp dIx (eLst (zAb (eC (.int 2)) (zAb (eC (.int 3)) (zAb (eC (.int 3)) (zAb (eC (.int 5)) (zAb (eC (.int 9)) eNil)))))) (zAf zAI (zAb (eV 0) (zAb (eOp zAs (eV 1) (eC (.int 2))) (zAb (eC (.int 5)) eNil))))))
  (sSeq (sOwn 6 eNil)
  (sSeq (sFor (zA0 (zAb (eV 3) eNil)) (zAo 7) (sExt 6 (eLc (zAJ (zA0 (zAb (eV 4) eNil)) (zAo 0) (eB (eOp dEq (zAf zAI (zAb (eV 2) (zAb (eOp zAs (eOp zAs (eOp zAs (eV 4) (eC (.int 3))) (eOp dMul (eC (.int 8)) (eV 1))) (eV 0)) (zAb (eV 3) eNil)))) (eC (.int 0)))) (eTup (zAb (eV 1) (zAb (eV 0) eNil))) [none, some 7, some 0, some 5, some 1]))))
  (sRet (eTup (zAb (eV 3) (zAb (eV 4) (zAb (zAf zDT (zAb (eV 6) eNil)) eNil))))))))))
def zCr : List D -> Option D := fnD 8 zFi
def N_q6 : List Str := ["_law_floor_here", "_law_one", "_law_way_here", "_law_found", "_law_word"]
theorem zGb : zAr N_q6 ["_law_floor_here", "_law_one", "_law_way_here"] (zAj s_q6) := fsc rfl (by decide +kernel)
def zFk : Rho -> Option Out :=
  (sSeq (sOwn 3 (zAb (eV 1) eNil))
  (sSeq (sFor (iStr (eV 2)) (zAo 4) (sIf (eB (eOp zBv (eOp dIx (eV 3) (eUn dNeg (eC (.int 1)))) (eC .none))) (zCW 3 (zAf zBu (zAb (eV 0) (zAb (eOp dIx (eV 3) (eUn dNeg (eC (.int 1)))) (zAb (eV 4) eNil))))) zAu))
  (sRet (eV 3))))
def zC4 : List D -> Option D := fnD 5 zFk
def N_q0 : List Str := ["floor", "cell"]
theorem sc_q0 : zAr N_q0 ["floor", "cell"] (zAj s_q0) := fsc rfl (by decide +kernel)
def zHU : Rho -> Option Out :=
  (sIf (eNot (eB (zAf zC7 (zAb (eV 0) (zAb (eV 1) eNil))))) (fun _ => none) zAu)
def zBM : List D -> Option D := fnD 2 zHU
def N_ql : List Str := ["floor", "cell"]
theorem sc_ql : zAr N_ql ["floor", "cell"] (zAj s_ql) := fsc rfl (by decide +kernel)
def zHN : Rho -> Option Out :=
  (sSeq (zBK (zAf zBM (zAb (eV 0) (zAb (eV 1) eNil))))
  (sRet (eOp (dIn false) (eV 1) (eOp dIx (eV 0) (eC (.int 2))))))
def zC8 : List D -> Option D := fnD 2 zHN
def N_qu : List Str := ["floor", "one", "other"]
theorem sc_qu : zAr N_qu ["floor", "one", "other"] (zAj s_qu) := fsc rfl (by decide +kernel)
def zHW : Rho -> Option Out :=
  (sSeq (zBK (zAf zBM (zAb (eV 0) (zAb (eV 1) eNil))))
  (sSeq (zBK (zAf zBM (zAb (eV 0) (zAb (eV 2) eNil))))
  (sRet (zAf zDa (zAb (zAf zAV (zAb (eOp dIx (eV 0) (eC (.int 2))) eNil)) (zAb (eV 1) (zAb (eV 2) eNil)))))))
def zB0 : List D -> Option D := fnD 3 zHW
def N_q1 : List Str := ["floor", "cell"]
theorem sc_q1 : zAr N_q1 ["floor", "cell"] (zAj s_q1) := fsc rfl (by decide +kernel)
def zHT : Rho -> Option Out :=
  (sIf (eB (zAf zC8 (zAb (eV 0) (zAb (eV 1) eNil)))) (fun _ => none) zAu)
def zBL : List D -> Option D := fnD 2 zHT
def N_q4 : List Str := ["_law_floor_here", "_law_watchers", "_law_cells_here", "_law_cell_here"]
theorem zJl : zAr N_q4 ["_law_floor_here", "_law_watchers", "_law_cells_here"] (zAj s_q4) := fsc rfl (by decide +kernel)
def zGw : List Str := ["_law_watcher", "_law_floor_here", "_law_cell_here"]
theorem zMm : zGw.Nodup := by decide +kernel
def zFj : Rho -> Option Out :=
  (sSeq (sFor (iSeq (eV 2)) (zAo 3) (sIf (eB (eOp dNe (eLc (zAJ (iSeq (eV 1)) (zAo 0) (eB (zAf zB0 (zAb (eV 1) (zAb (eV 0) (zAb (eV 2) eNil))))) (eV 0) [none, some 0, some 3])) (eLst eNil))) (sRet (eC (.bool false))) zAu))
  (sRet (eC (.bool true))))
def zBY : List D -> Option D := fnD 4 zFj
def N_qk : List Str := ["floor", "cell", "solids"]
theorem zJo : zAr N_qk ["floor", "cell"] (zAj s_qk) := fsc rfl (by decide +kernel)
def zGF : List Str := ["other", "solids", "cell"]
theorem zMv : zGF.Nodup := by decide +kernel
def zFq : Rho -> Option Out :=
  (sSeq (zBK (zAf zBL (zAb (eV 0) (zAb (eV 1) eNil))))
  (sSeq (sSet 2 (zAf zAV (zAb (eOp dIx (eV 0) (eC (.int 2))) eNil)))
  (sRet (eLc (zAJ (iSeq (zAf zAY (zAb (eV 0) eNil))) (zAo 0) (eB (zAf zBZ (zAb (eV 1) (zAb (eV 2) (zAb (eV 0) eNil))))) (eV 0) [none, some 2, some 1])))))
def zCu : List D -> Option D := fnD 3 zFq
def N_q9 : List Str := ["floor", "cells", "times", "cell", "other"]
theorem zEz : zAr N_q9 ["floor", "cells"] (zAj s_q9) := fsc rfl (by decide +kernel)
def zGy : List Str := ["cell"]
theorem zMo : zGy.Nodup := by decide +kernel
def zFv : Rho -> Option Out :=
  (sSeq (zEw 2 (zAb (eLc (zAJ (iSeq (zAf zAY (zAb (eV 0) eNil))) (zAo 0) eT (eTup (zAb (eV 0) (zAb (eC (.int 0)) eNil))) [none])) eNil))
  (sSeq (sFor (iSeq (eV 1)) (zAo 3) (sFor (iSeq (zAf zCu (zAb (eV 0) (zAb (eV 3) eNil)))) (zAo 4) (sPut 2 (eV 4) (eOp zAs (zBw 2 (eV 4)) (eC (.int 1))))))
  (sRet (eV 2))))
def zDc : List D -> Option D := fnD 5 zFv
def N_q8 : List Str := ["floor", "cells", "times"]
theorem zJn : zAr N_q8 ["floor", "cells"] (zAj s_q8) := fsc rfl (by decide +kernel)
def zGx : List Str := ["cell", "times"]
theorem zMn : zGx.Nodup := by decide +kernel
def zFu : Rho -> Option Out :=
  (sSeq (sSet 2 (zAf zDc (zAb (eV 0) (zAb (eV 1) eNil))))
  (sRet (eLc (zAJ (iKey (eV 2)) (zAo 0) (eB (eOp dGt (eOp dIx2 (eV 1) (eV 0)) (eC (.int 0)))) (eV 0) [none, some 2]))))
def zDb : List D -> Option D := fnD 3 zFu
def N_qd : List Str := ["floor", "watchers", "one", "other", "watched", "hidden", "ways"]
theorem zEA : zAr N_qd ["floor", "watchers", "one", "other"] (zAj s_qd) := fsc rfl (by decide +kernel)
def zGA : List Str := ["cell", "watched"]
theorem zMq : zGA.Nodup := by decide +kernel
def zD6 : Rho -> Option Out :=
  (sSeq (zBK (zAf zBL (zAb (eV 0) (zAb (eV 2) eNil))))
  (sSeq (zBK (zAf zBL (zAb (eV 0) (zAb (eV 3) eNil))))
  (sSeq (sSet 4 (zAf zAV (zAb (zAf zDb (zAb (eV 0) (zAb (eV 1) eNil))) eNil)))
  (sSeq (sSet 5 (zAf zAV (zAb (eLc (zAJ (iSeq (zAf zAY (zAb (eV 0) eNil))) (zAo 0) (eB (eOp (dIn2 true) (eV 0) (eV 1))) (eV 0) [none, some 4])) eNil)))
  (sSeq (sIf (eB (eOp (dIn2 true) (eV 2) (eV 5))) (zDE "NoWay" (okP [(okR (eV 2)), okC])) zAu)
  (sSeq (sSet 6 (zAf zCx (zAb (eV 5) (zAb (eV 2) eNil))))
  (sSeq (sIf (eB (eOp (dIn2 true) (eV 3) (eV 6))) (zDE "NoWay" (okP [okC, (okR (eV 3))])) zAu)
  (sRet (eOp dIx2 (eV 6) (eV 3))))))))))
def zBX : List D -> Option R := fnX 7 zD6
def zGt : List D -> Option D := valX zBX
def N_qn : List Str := ["_law_floor_here", "_law_watchers", "_law_one", "_law_other"]
theorem sc_qn : zAr N_qn ["_law_floor_here", "_law_watchers", "_law_one", "_law_other"] (zAj s_qn) := fsc rfl (by decide +kernel)
def zFl : Rho -> Option Out :=
  (zGa ["NoWay"] (zF9 (zGs zBX (zAb (eV 0) (zAb (eV 1) (zAb (eV 2) (zAb (eV 3) eNil)))))) (sRet (eC .none)))
def zBj : List D -> Option D := fnD 4 zFl
def N_qv : List Str := ["_law_script", "_law_floor_here", "_law_cells_here", "_law_one", "_law_watchers", "_law_more", "_law_drawn_here", "_law_k", "_law_there", "_law_other", "_law_way_here", "_law_is_drawn", "_law_trodden_here", "_law_less"]
theorem zA4 : zAr N_qv ["_law_script"] (zAj s_qv) := fsc rfl (by decide +kernel)
def zGH : List Str := ["_law_k", "_law_cells_here", "_law_script"]
theorem zMx : zGH.Nodup := by decide +kernel
def glaw : Rho -> Option Out :=
  (sSeq (sSet 1 (zAf zCr (zAb (eV 0) (zAb (eC (.int 0)) (zAb (eC (.int 4)) eNil)))))
  (sSeq (sSet 2 (zAf zC3 (zAb (eV 1) eNil)))
  (sSeq (sIf (eB (eOp dEq (eV 2) (eLst eNil))) (sRet (eC (.bool true))) zAu)
  (sSeq (sSet 3 (eOp dIx (eV 2) (zAf zAI (zAb (eV 0) (zAb (eC (.int 61)) (zAb (zAf dLen (zAb (eV 2) eNil)) eNil))))))
  (sSeq (sSet 4 (eLc (zAJ (zA0 (zAb (zAf zAI (zAb (eV 0) (zAb (eC (.int 63)) (zAb (eC (.int 3)) eNil)))) eNil)) (zAo 0) eT (eOp dIx (eV 1) (zAf zAI (zAb (eV 2) (zAb (eOp zAs (eC (.int 64)) (eV 0)) (zAb (zAf dLen (zAb (eV 1) eNil)) eNil))))) [none, some 2, some 0])))
  (sSeq (sSet 5 (eOp zAs (eV 4) (eLst (zAb (eOp dIx (eV 2) (zAf zAI (zAb (eV 0) (zAb (eC (.int 67)) (zAb (zAf dLen (zAb (eV 2) eNil)) eNil))))) eNil))))
  (sSeq (sOwn 6 (zAb (eV 3) eNil))
  (sSeq (sFor (zA0 (zAb (zAf zEU (zAb (eC (.int 1)) (zAb (zAf zEV (zAb (eC (.int 12)) (zAb (zAf dLen (zAb (eV 0) eNil)) eNil))) eNil))) eNil)) (zAo 7) (sSeq (zDF 8 (zAf zBu (zAb (eV 1) (zAb (eOp dIx (eV 6) (eUn dNeg (eC (.int 1)))) (zAb (eOp dIxS (eC (.str "nesw")) (zAf zAI (zAb (eV 0) (zAb (eOp zAs (eC (.int 70)) (eV 7)) (zAb (eC (.int 4)) eNil))))) eNil)))))
  (sIf (eB (eOp zBv (eV 8) (eC .none))) (sApp 6 (eV 8)) zAu)))
  (sFrz 6 (sSeq (sFor (iSeq (eTup (zAb (eOp dIx (eV 6) (eUn dNeg (eC (.int 1)))) (zAb (eOp dIx (eV 2) (zAf zAI (zAb (eV 0) (zAb (eC (.int 62)) (zAb (zAf dLen (zAb (eV 2) eNil)) eNil))))) eNil)))) (zAo 9) (sSeq (sSet 10 (zAf zBj (zAb (eV 1) (zAb (eV 4) (zAb (eV 3) (zAb (eV 9) eNil))))))
  (sFrz 6 (sSeq (sSet 11 (zBn (eOp dEq (eV 9) (eOp dIx (eV 6) (eUn dNeg (eC (.int 1))))) (zAf zBY (zAb (eV 1) (zAb (eV 4) (zAb (eV 6) eNil))))))
  (sIf (eB (eOp dIsN (eV 10) (eC .none))) (sSeq (sIf (eOr (eB (eV 11)) (eB (eOp zBv (zAf zBj (zAb (eV 1) (zAb (eV 5) (zAb (eV 3) (zAb (eV 9) eNil))))) (eC .none)))) (sRet (eC (.bool false))) zAu)
  (sIf (eB (eOp zBv (zAf zBj (zAb (eV 1) (zAb (eV 4) (zAb (eV 9) (zAb (eV 3) eNil))))) (eC .none))) (sRet (eC (.bool false))) zAu)) (sSeq (sSet 12 (zAf zC4 (zAb (eV 1) (zAb (eV 3) (zAb (eV 10) eNil)))))
  (sSeq (sIf (eOr (eB (eOp dNe (eOp dIx (eV 12) (eUn dNeg (eC (.int 1)))) (eV 9))) (eNot (eB (zAf zBY (zAb (eV 1) (zAb (eV 4) (zAb (eV 12) eNil))))))) (sRet (eC (.bool false))) zAu)
  (sSeq (sIf (eOr (eAnd (eB (eV 11)) (eB (eOp dGt (zAf zBe (zAb (eV 10) eNil)) (eOp dSub (zAf dLen (zAb (eV 6) eNil)) (eC (.int 1)))))) (eB (eOp dNe (zAf zBe (zAb (eOrS (zAf zBj (zAb (eV 1) (zAb (eV 4) (zAb (eV 9) (zAb (eV 3) eNil))))) (eC (.str ""))) eNil)) (zAf zBe (zAb (eV 10) eNil))))) (sRet (eC (.bool false))) zAu)
  (sSeq (sSet 13 (zAf zBj (zAb (eV 1) (zAb (eV 5) (zAb (eV 3) (zAb (eV 9) eNil))))))
  (sIf (eAnd (eB (eOp zBv (eV 13) (eC .none))) (eB (eOp dLt (zAf zBe (zAb (eV 13) eNil)) (zAf zBe (zAb (eV 10) eNil))))) (sRet (eC (.bool false))) zAu))))))))))
  (sRet (eC (.bool true)))))))))))))
def Glaw : List D -> Option D := fnD 14 glaw
structure Txt (K : PySem.W.Frag) (mg : Str -> Option Value) (a : Nat -> Addr) (d : Nat -> FuncData) (w : World) (ta : Nat -> Addr) (e_NoWay : Addr) : Prop where
 F_qo : Fo K mg "is_whole" s_qo ["thing"] (a 0) (d 0)
 F_qj : Fo K mg "all_cells" s_qj ["floor"] (a 1) (d 1)
 F_qt : Fo K mg "marked" s_qt ["things"] (a 2) (d 2)
 F_qq : Fo K mg "crossed" s_qq ["one", "other"] (a 3) (d 3)
 F_q3 : Fo K mg "couples_beside" s_q3 ["cells"] (a 4) (d 4)
 F_qs : Fo K mg "beside" s_qs ["cell", "word"] (a 5) (d 5)
 F_qh : Fo K mg "_law_cell" s_qh ["_law_script", "_law_k"] (a 6) (d 6)
 F_qe : Fo K mg "_law_cells" s_qe ["_law_floor_here"] (a 7) (d 7)
 F_qp : Fo K mg "_law_at" s_qp ["_law_cell_here", "_law_step"] (a 8) (d 8)
 F_q2 : Fo K mg "is_whole_couple" s_q2 ["thing"] (a 9) (d 9)
 F_qc : Fo K mg "open_cells" s_qc ["floor"] (a 10) (d 10)
 F_qm : Fo K mg "lets_see" s_qm ["solids", "one", "other"] (a 11) (d 11)
 F_qf : Fo K mg "steps_over" s_qf ["ground", "cell"] (a 12) (d 12)
 F_qa : Fo K mg "_law_drawn" s_qa ["_law_script", "_law_k", "_law_many"] (a 13) (d 13)
 F_qi : Fo K mg "_law_open" s_qi ["_law_floor_here"] (a 14) (d 14)
 F_q7 : Fo K mg "_law_beside" s_q7 ["_law_floor_here", "_law_cell_here", "_law_word"] (a 15) (d 15)
 F_qr : Fo K mg "is_cell" s_qr ["floor", "thing"] (a 16) (d 16)
 F_q5 : Fo K mg "see_each_other" s_q5 ["solids", "one", "other"] (a 17) (d 17)
 F_qg : Fo K mg "ways_over" s_qg ["ground", "start"] (a 18) (d 18)
 F_qb : Fo K mg "_law_floor" s_qb ["_law_script", "_law_at_here", "_law_most"] (a 19) (d 19)
 F_q6 : Fo K mg "_law_trodden" s_q6 ["_law_floor_here", "_law_one", "_law_way_here"] (a 20) (d 20)
 F_q0 : Fo K mg "refuse_off_floor" s_q0 ["floor", "cell"] (a 21) (d 21)
 F_ql : Fo K mg "is_solid" s_ql ["floor", "cell"] (a 22) (d 22)
 F_qu : Fo K mg "sees" s_qu ["floor", "one", "other"] (a 23) (d 23)
 F_q1 : Fo K mg "refuse_not_open" s_q1 ["floor", "cell"] (a 24) (d 24)
 F_q4 : Fo K mg "_law_is_hidden" s_q4 ["_law_floor_here", "_law_watchers", "_law_cells_here"] (a 25) (d 25)
 F_qk : Fo K mg "field_of" s_qk ["floor", "cell"] (a 26) (d 26)
 F_q9 : Fo K mg "times_seen" s_q9 ["floor", "cells"] (a 27) (d 27)
 F_q8 : Fo K mg "seen_by_any" s_q8 ["floor", "cells"] (a 28) (d 28)
 F_qd : Fo K mg "hidden_way" s_qd ["floor", "watchers", "one", "other"] (a 29) (d 29)
 F_qn : Fo K mg "_law_way" s_qn ["_law_floor_here", "_law_watchers", "_law_one", "_law_other"] (a 30) (d 30)
 F_qv : Fo K mg "law" s_qv ["_law_script"] (a 31) (d 31)
 z_isinstance : mg "isinstance" = none
 z_int : mg "int" = none
 z_bool : mg "bool" = none
 z_range : mg "range" = none
 z_dict : mg "dict" = none
 z_abs : mg "abs" = none
 z_zip : mg "zip" = none
 z_sorted : mg "sorted" = none
 z_tuple : mg "tuple" = none
 z_len : mg "len" = none
 z_set : mg "set" = none
 z_min : mg "min" = none
 z_max : mg "max" = none
 tm_STEPS : mg "STEPS" = some (.ref (ta 0))
 tt_STEPS : Tab K w (ta 0) zBr
 tl_STEPS : (ta 0 == sysModules) = false
 xn_NoWay : PySem.W.nsIn K mainGlobals "NoWay" = some (some (.ref e_NoWay))
 xe_NoWay : PySem.W.excIn K e_NoWay [.type "ValueError", .type "Exception", .type "BaseException", .type "object"] "ValueError.__new__" = true
 xm_NoWay : mg "NoWay" = some (.ref e_NoWay)
 xt_NoWay_NoWay : PySem.W.subIn K (.ref e_NoWay) (.ref e_NoWay) = some true
 xb_NoWay : PySem.W.subIn K (.ref e_NoWay) (.type "BaseException") = some true
section
variable {P : Program} {w : World} {K : PySem.W.Frag} {mg : Str -> Option Value} {base : Heap} {a : Nat -> Addr} {d : Nat -> FuncData} {ta : Nat -> Addr} {e_NoWay : Addr} (T : Txt K mg a d w ta e_NoWay)
include T
theorem ok_qo  : FnOk P w K mg base CX0 1 (a 0) (d 0) ["thing"] (spD K 1 zCv) := by
 refine zAx (g := zHO) (G := zCv) (N := N_qo) (k := 0) rfl rfl rfl T.F_qo.F sc_qo fun cdv A outer s H E hr => ?_
 exact (zAh (zAq (zDi (zEY (T := "int") (.inr (.inr (.inl rfl))) rfl T.z_isinstance rfl T.z_int boot_int (by decide) (zAc 0)) (zDj (zKO (zEY (T := "bool") (.inr (.inr (.inr (.inl rfl)))) rfl T.z_isinstance rfl T.z_bool boot_bool (by decide) (zAc 0)))))))
theorem ok_qj  : FnOk P w K mg base CX0 1 (a 1) (d 1) ["floor"] (spD K 1 zC5) := by
 refine zAx (g := zFm) (G := zC5) (N := N_qj) (k := 0) rfl rfl rfl T.F_qj.F zGd fun cdv A outer s H E hr => ?_
 exact (zAi (zB9 (i := 1) zGd.nd zAd)
  (zAi (zA6 Q6 rfl (zB6 rfl T.z_range (dac (zAl ixd (zAc 0) zAe) zAd rfl)) (zAA (i := 2) zGd.nd) (zAh (zHd (i := 1) (zBk rfl (zBd (N' := zGE) (inner := [none, some 2]) (zAj s_qj) N_qj rfl rfl (by decide +kernel)) (zBg 0) (zB6 rfl T.z_range (dac (zAl ixd (zAc 0) zAe) zAd rfl)) (fun _ _ _ _ _ => (zAA (i := 0) zMu)) (fun _ _ _ _ _ => zDk) (fun _ _ _ _ _ => (dtp (dac (zAc 1) (dac (zAc 0) zAd rfl) rfl)))))))
  (zAh (zAq (zAc 1)))))
theorem ok_qt  : FnOk P w K mg base CX0 1 (a 2) (d 2) ["things"] (spD K 1 zAV) := by
 refine zAx (g := zHQ) (G := zAV) (N := N_qt) (k := 0) rfl rfl rfl T.F_qt.F sc_qt fun cdv A outer s H E hr => ?_
 exact (zAh (zAq (zEW (zKs rfl (u66 hr)) rfl T.z_dict DC.boot_dict (dac (zBk rfl (zBd (N' := zGG) (inner := [none]) (zAj s_qt) N_qt rfl rfl (by decide +kernel)) (zBg 0) (zAZ (zAc 0)) (fun _ _ _ _ _ => (zAA (i := 0) zMw)) (fun _ _ _ _ _ => zDk) (fun _ _ _ _ _ => (dtp (dac (zAc 0) (dac zAW zAd rfl) rfl)))) zAd rfl))))
theorem ok_qq  : FnOk P w K mg base CX0 1 (a 3) (d 3) ["one", "other"] (spD K 2 zC6) := by
 refine zAx (g := zFo) (G := zC6) (N := N_qq) (k := 0) rfl rfl rfl T.F_qq.F zBh fun cdv A outer s H E hr => ?_
 exact (zAi (zAw (i := 2) zBh.nd (zAO zGQ rfl T.z_abs boot_abs (dac (zAn zFT (zAl ixd (zAc 1) zAe) (zAl ixd (zAc 0) zAe)) zAd rfl)))
  (zAi (zAw (i := 3) zBh.nd (zAO zGQ rfl T.z_abs boot_abs (dac (zAn zFT (zAl ixd (zAc 1) zAe) (zAl ixd (zAc 0) zAe)) zAd rfl)))
  (zAi (zAw (i := 4) zBh.nd (zG2 (zAt zEk (zAl ixd (zAc 1) zAe) (zAl ixd (zAc 0) zAe) (zAC _)) zAe (zBl zBs zAe)))
  (zAi (zAw (i := 5) zBh.nd (zG2 (zAt zEk (zAl ixd (zAc 1) zAe) (zAl ixd (zAc 0) zAe) (zAC _)) zAe (zBl zBs zAe)))
  (zAi (zAw (i := 6) zBh.nd zAe)
  (zAi (zAw (i := 7) zBh.nd zAe)
  (zAi (zB9 (i := 8) zBh.nd (dac (zAc 0) zAd rfl))
  (zAi (zHg 900 Q6 (dw_t (zCb (zAt zCg (zAc 6) (zAc 2) (zAC _)) (zCG (zAt zCg (zAc 7) (zAc 3) (zAC _))))) (zAi (zAw (i := 9) zBh.nd (zAn zA3 (zAn zAD (zAn zA3 zAe (zAc 6)) zAe) (zAc 3)))
  (zAi (zAw (i := 10) zBh.nd (zAn zA3 (zAn zAD (zAn zA3 zAe (zAc 7)) zAe) (zAc 2)))
  (zAi (zAE (zAt zCO (zAc 9) (zAc 10) (zAC _)) (zAh (zAw (i := 6) zBh.nd (zAn zAD (zAc 6) zAe))) zAF)
  (zAi (zAE (zAt zCO (zAc 10) (zAc 9) (zAC _)) (zAh (zAw (i := 7) zBh.nd (zAn zAD (zAc 7) zAe))) zAF)
  (zAh (zDW (i := 8) (dtp (dac (zAn zAD (zAl ixd (zAc 0) zAe) (zAn zA3 (zAc 4) (zAc 6))) (dac (zAn zAD (zAl ixd (zAc 0) zAe) (zAn zA3 (zAc 5) (zAc 7))) zAd rfl) rfl)))))))))
  (zAh (zAq (zAc 8)))))))))))
theorem ok_q3  : FnOk P w K mg base CX0 1 (a 4) (d 4) ["cells"] (spD K 1 zCt) := by
 refine zAx (g := zFn) (G := zCt) (N := N_q3) (k := 0) rfl rfl rfl T.F_q3.F zEy fun cdv A outer s H E hr => ?_
 exact (zAi (zB9 (i := 1) zEy.nd zAd)
  (zAi (zA6 Q6 rfl (zKW rfl T.z_zip (dac (zAc 0) (dac (zG4 (zAc 0) (zHa zAe) zG9) zAd rfl) rfl)) (zE1 rfl (zCD (zAA (i := 2) zEy.nd) (zCD (zAA (i := 3) zEy.nd) zE2))) (zAh (zAE (dw_t (zDX (zAt (zCi (u64 hr)) (zAl ixd (zAc 2) zAe) (zAl ixd (zAc 3) zAe) (zAC _)) (zDY (zAt (zCi (u64 hr)) (zAl ixd (zAc 2) zAe) (zAl ixd (zAc 3) zAe) (zAC _))))) (zAh (zDW (i := 1) (zEW zGR rfl T.z_tuple boot_tuple (dac (zAO (zKv (u66 hr)) rfl T.z_sorted boot_sorted (dac (@zBO _ _ _ _ (dac (dtp (dac (zAl ixd (zAc 2) zAe) (dac (zAl ixd (zAc 3) zAe) zAd rfl) rfl)) (dac (dtp (dac (zAl ixd (zAc 3) zAe) (dac (zAl ixd (zAc 2) zAe) zAd rfl) rfl)) zAd rfl) rfl)) zAd rfl)) zAd rfl)))) zAF)))
  (zAh (zAq (zAc 1)))))
theorem ok_qs  : FnOk P w K mg base CX0 1 (a 5) (d 5) ["cell", "word"] (spD K 2 zCs) := by
 refine zAx (g := zHL) (G := zCs) (N := N_qs) (k := 0) rfl rfl rfl T.F_qs.F sc_qs fun cdv A outer s H E hr => ?_
 exact (zAh (zAq (dtp (dac (zAn zAD (zAl ixd (zAc 0) zAe) (zAl ixd (zG5 rfl T.tm_STEPS T.tt_STEPS (zAc 1)) zAe)) (dac (zAn zAD (zAl ixd (zAc 0) zAe) (zAl ixd (zG5 rfl T.tm_STEPS T.tt_STEPS (zAc 1)) zAe)) zAd rfl) rfl))))
theorem ok_qh  : FnOk P w K mg base CX0 1 (a 6) (d 6) ["_law_script", "_law_k"] (spD K 2 zC1) := by
 refine zAx (g := zHH) (G := zC1) (N := N_qh) (k := 0) rfl rfl rfl T.F_qh.F sc_qh fun cdv A outer s H E hr => ?_
 exact (zAi (zAE (zAt (zEj (u64 hr)) (zAc 0) (@zBO _ _ _ _ zAd) (zAC _)) (zAh (zAq (zAn zA3 zAe (zAc 1)))) zAF)
  (zAh (zAq (zAn zAD (zAl ixd (zAc 0) (zAn zCh (zAc 1) (zAO zBB rfl T.z_len PySem.boot_len (dac (zAc 0) zAd rfl)))) (zAn zA3 zAe (zAn zDx (zAc 1) (zAO zBB rfl T.z_len PySem.boot_len (dac (zAc 0) zAd rfl))))))))
theorem ok_qe  : FnOk P w K mg base CX0 1 (a 7) (d 7) ["_law_floor_here"] (spD K 1 zC2) := by
 refine zAx (g := zHI) (G := zC2) (N := N_qe) (k := 0) rfl rfl rfl T.F_qe.F sc_qe fun cdv A outer s H E hr => ?_
 exact (zAh (zAq (zBk rfl (zBd (N' := zGB) (inner := [none, some 0]) (zAj s_qe) N_qe rfl rfl (by decide +kernel)) (zBg 0) (zB6 rfl T.z_range (dac (zAn zA3 (zAl ixd (zAc 0) zAe) (zAl ixd (zAc 0) zAe)) zAd rfl)) (fun _ _ _ _ _ => (zAA (i := 0) zMr)) (fun _ _ _ _ _ => zDk) (fun _ _ _ _ _ => (dtp (dac (zAn zDx (zAc 0) (zAl ixd (zAc 1) zAe)) (dac (zAn zCh (zAc 0) (zAl ixd (zAc 1) zAe)) zAd rfl) rfl))))))
theorem ok_qp  : FnOk P w K mg base CX0 1 (a 8) (d 8) ["_law_cell_here", "_law_step"] (spD K 2 zC0) := by
 refine zAx (g := zHG) (G := zC0) (N := N_qp) (k := 0) rfl rfl rfl T.F_qp.F sc_qp fun cdv A outer s H E hr => ?_
 exact (zAh (zAq (dtp (dac (zAn zAD (zAl ixd (zAc 0) zAe) (zAl ixd (zAc 1) zAe)) (dac (zAn zAD (zAl ixd (zAc 0) zAe) (zAl ixd (zAc 1) zAe)) zAd rfl) rfl))))
theorem ok_q2 (G_qo : FnOk P w K mg base CX0 1 (a 0) (d 0) ["thing"] (spD K 1 zCv)) : FnOk P w K mg base CX0 2 (a 9) (d 9) ["thing"] (spD K 1 zC9) := by
 refine zAx (g := zHP) (G := zC9) (N := N_q2) (k := 1) rfl rfl rfl T.F_q2.F sc_q2 fun cdv A outer s H E hr => ?_
 exact (zAi (zAE (dw_t (zCb (zCF (zBE (zEY (T := "tuple") (.inr (.inl rfl)) rfl T.z_isinstance rfl T.z_tuple boot_tuple (by decide) (zAc 0)))) (zCG (zAt (zCi (u64 hr)) (zAO zBB rfl T.z_len PySem.boot_len (dac (zAc 0) zAd rfl)) zAe (zAC _))))) (zAh (zAq zAW)) zAF)
  (zAh (zAq (zDi (dcl T.F_qo G_qo hr rfl (dac (zAl ixd (zAc 0) zAe) zAd rfl) ln1) (zDj (dcl T.F_qo G_qo hr rfl (dac (zAl ixd (zAc 0) zAe) zAd rfl) ln1))))))
theorem ok_qc (G_qj : FnOk P w K mg base CX0 1 (a 1) (d 1) ["floor"] (spD K 1 zC5)) : FnOk P w K mg base CX0 2 (a 10) (d 10) ["floor"] (spD K 1 zAY) := by
 refine zAx (g := zHS) (G := zAY) (N := N_qc) (k := 1) rfl rfl rfl T.F_qc.F sc_qc fun cdv A outer s H E hr => ?_
 exact (zAh (zAq (zKQ rfl (u66 hr) rfl T.z_sorted boot_sorted (zLc rfl (u66 hr) (zHh rfl (u64 hr) rfl T.z_set boot_set (dac (dcl T.F_qj G_qj hr rfl (dac (zAc 0) zAd rfl) ln1) zAd rfl)) (zHh rfl (u64 hr) rfl T.z_set boot_set (dac (zAl ixd (zAc 0) zAe) zAd rfl))))))
theorem ok_qm (G_qq : FnOk P w K mg base CX0 1 (a 3) (d 3) ["one", "other"] (spD K 2 zC6)) (G_q3 : FnOk P w K mg base CX0 1 (a 4) (d 4) ["cells"] (spD K 1 zCt)) : FnOk P w K mg base CX0 2 (a 11) (d 11) ["solids", "one", "other"] (spD K 3 zBZ) := by
 refine zAx (g := zFr) (G := zBZ) (N := N_qm) (k := 1) rfl rfl rfl T.F_qm.F zDG fun cdv A outer s H E hr => ?_
 exact (zAi (zAw (i := 3) zDG.nd (dcl T.F_qq G_qq hr rfl (dac (zAc 1) (dac (zAc 2) zAd rfl) rfl) ln2))
  (zAi (zA6 Q6 rfl (zAZ (zG4 (zAc 3) zG9 (zHa (zBl zBs zAe)))) (zAA (i := 4) zDG.nd) (zAh (zAE (zAt (zEm (u65 hr)) (zAc 4) (zAc 0) (by with_unfolding_all rfl)) (zAh (zAq zAW)) zAF)))
  (zAi (zA6 Q6 rfl (zAZ (dcl T.F_q3 G_q3 hr rfl (dac (zAc 3) zAd rfl) ln1)) (zE1 rfl (zCD (zAA (i := 5) zDG.nd) (zCD (zAA (i := 6) zDG.nd) zE2))) (zAh (zAE (dw_t (zDX (zAt (zEm (u65 hr)) (zAc 5) (zAc 0) (by with_unfolding_all rfl)) (zDY (zAt (zEm (u65 hr)) (zAc 6) (zAc 0) (by with_unfolding_all rfl))))) (zAh (zAq zAW)) zAF)))
  (zAh (zAq zAW)))))
theorem ok_qf (G_qs : FnOk P w K mg base CX0 1 (a 5) (d 5) ["cell", "word"] (spD K 2 zCs)) : FnOk P w K mg base CX0 2 (a 12) (d 12) ["ground", "cell"] (spD K 2 zCw) := by
 refine zAx (g := zHX) (G := zCw) (N := N_qf) (k := 1) rfl rfl rfl T.F_qf.F sc_qf fun cdv A outer s H E hr => ?_
 exact (zAh (zAq (zBk rfl (zBd (N' := zGC) (inner := [none, some 1, some 0]) (zAj s_qf) N_qf rfl rfl (by decide +kernel)) (zBg 0) (zKV rfl T.tm_STEPS T.tt_STEPS T.tl_STEPS) (fun _ _ _ _ _ => (zAA (i := 0) zMs)) (fun _ _ _ _ _ => (zCa (zAt (zEm (u65 hr)) (dcl T.F_qs G_qs hr rfl (dac (zAc 1) (dac (zAc 0) zAd rfl) rfl) ln2) (zAc 2) (by with_unfolding_all rfl)))) (fun _ _ _ _ _ => (dtp (dac (zAc 0) (dac (dcl T.F_qs G_qs hr rfl (dac (zAc 1) (dac (zAc 0) zAd rfl) rfl) ln2) zAd rfl) rfl))))))
theorem ok_qa (G_qh : FnOk P w K mg base CX0 1 (a 6) (d 6) ["_law_script", "_law_k"] (spD K 2 zC1)) : FnOk P w K mg base CX0 2 (a 13) (d 13) ["_law_script", "_law_k", "_law_many"] (spD K 3 zAI) := by
 refine zAx (g := zHJ) (G := zAI) (N := N_qa) (k := 1) rfl rfl rfl T.F_qa.F zGc fun cdv A outer s H E hr => ?_
 exact (zAi (zAw (i := 3) zGc.nd (zAn zCh (zAn zAD (zAn zA3 (zAn zCh (dcl T.F_qh G_qh hr rfl (dac (zAc 0) (dac (zAc 1) zAd rfl) rfl) ln2) zAe) zAe) (zAn zA3 zAe (zAn zAD (zAc 1) zAe))) zAe))
  (zAi (zAw (i := 3) zGc.nd (zAn zCh (zAn zAD (zAn zA3 (zAc 3) (zAc 3)) (zAn zDx (zAc 3) zAe)) zAe))
  (zAh (zAq (zAn zCh (zAn zDx (zAn zCh (zAn zAD (zAn zA3 (zAc 3) (zAc 3)) (zAn zDx (zAc 3) zAe)) zAe) zAe) (zAc 2))))))
theorem ok_qi (G_qe : FnOk P w K mg base CX0 1 (a 7) (d 7) ["_law_floor_here"] (spD K 1 zC2)) : FnOk P w K mg base CX0 2 (a 14) (d 14) ["_law_floor_here"] (spD K 1 zC3) := by
 refine zAx (g := zHK) (G := zC3) (N := N_qi) (k := 1) rfl rfl rfl T.F_qi.F sc_qi fun cdv A outer s H E hr => ?_
 exact (zAh (zAq (zBk rfl (zBd (N' := zGD) (inner := [none, some 0]) (zAj s_qi) N_qi rfl rfl (by decide +kernel)) (zBg 0) (zAZ (dcl T.F_qe G_qe hr rfl (dac (zAc 0) zAd rfl) ln1)) (fun _ _ _ _ _ => (zAA (i := 0) zMt)) (fun _ _ _ _ _ => (zCa (zAt (zFS (u65 hr)) (zAc 0) (zAl ixd (zAc 1) zAe) (by with_unfolding_all rfl)))) (fun _ _ _ _ _ => (zAc 0)))))
theorem ok_q7 (G_qp : FnOk P w K mg base CX0 1 (a 8) (d 8) ["_law_cell_here", "_law_step"] (spD K 2 zC0)) : FnOk P w K mg base CX0 2 (a 15) (d 15) ["_law_floor_here", "_law_cell_here", "_law_word"] (spD K 3 zBu) := by
 refine zAx (g := zFh) (G := zBu) (N := N_q7) (k := 1) rfl rfl rfl T.F_q7.F zJm fun cdv A outer s H E hr => ?_
 exact (zAi (zAw (i := 3) zJm.nd (dcl T.F_qp G_qp hr rfl (dac (zAc 1) (dac (zKN (tb := [("n", .tuple [.int 0, .int (-1)]), ("e", .tuple [.int 1, .int 0]), ("s", .tuple [.int 0, .int 1]), ("w", .tuple [.int (-1), .int 0])]) (.cons (dtp (dac zAe (dac (zBl zBs zAe) zAd rfl) rfl)) (fun _ => rfl) (.cons (dtp (dac zAe (dac zAe zAd rfl) rfl)) (fun _ => rfl) (.cons (dtp (dac zAe (dac zAe zAd rfl) rfl)) (fun _ => rfl) (.cons (dtp (dac (zBl zBs zAe) (dac zAe zAd rfl) rfl)) (fun _ => rfl) .nil)))) (zAc 2)) zAd rfl) rfl) ln2))
  (zAi (zAE (dw_t (zCb (zAt (zEl (u65 hr)) (zAc 3) (zAl ixd (zAc 0) zAe) (by with_unfolding_all rfl)) (zCb (zCF (zHi zCO zCg zAe (zAl ixd (zAc 3) zAe) (zAl ixd (zAc 0) zAe))) (zCG (zCF (zHi zCO zCg zAe (zAl ixd (zAc 3) zAe) (zAl ixd (zAc 0) zAe))))))) (zAh (zAq zBP)) zAF)
  (zAh (zAq (zAc 3)))))
theorem ok_qr (G_q2 : FnOk P w K mg base CX0 2 (a 9) (d 9) ["thing"] (spD K 1 zC9)) : FnOk P w K mg base CX0 3 (a 16) (d 16) ["floor", "thing"] (spD K 2 zC7) := by
 refine zAx (g := zHM) (G := zC7) (N := N_qr) (k := 2) rfl rfl rfl T.F_qr.F sc_qr fun cdv A outer s H E hr => ?_
 exact (zAi (zAE (zCF (zBE (dcl T.F_q2 G_q2 hr rfl (dac (zAc 1) zAd rfl) ln1))) (zAh (zAq zAW)) zAF)
  (zAh (zAq (zDi (zG1 zCO zCg zAe (zAl ixd (zAc 1) zAe) (zAl ixd (zAc 0) zAe)) (zDj (zG1 zCO zCg zAe (zAl ixd (zAc 1) zAe) (zAl ixd (zAc 0) zAe)))))))
theorem ok_q5 (G_qm : FnOk P w K mg base CX0 2 (a 11) (d 11) ["solids", "one", "other"] (spD K 3 zBZ)) : FnOk P w K mg base CX0 3 (a 17) (d 17) ["solids", "one", "other"] (spD K 3 zDa) := by
 refine zAx (g := zHV) (G := zDa) (N := N_q5) (k := 2) rfl rfl rfl T.F_q5.F sc_q5 fun cdv A outer s H E hr => ?_
 exact (zAh (zAq (zDi (zEX (zDz (u65 hr)) (zAc 2) (zAc 0) (by with_unfolding_all rfl)) (zDj (dcl T.F_qm G_qm hr rfl (dac (zAc 0) (dac (zAc 1) (dac (zAc 2) zAd rfl) rfl) rfl) ln3)))))
theorem ok_qg (G_qf : FnOk P w K mg base CX0 2 (a 12) (d 12) ["ground", "cell"] (spD K 2 zCw)) : FnOk P w K mg base CX0 3 (a 18) (d 18) ["ground", "start"] (spD K 2 zCx) := by
 refine zAx (g := zHY) (G := zCx) (N := N_qg) (k := 2) rfl rfl rfl T.F_qg.F zBT fun cdv A outer s H E hr => ?_
 exact (zAi (zK8 (i := 2) zBT.nd (u65 hr) (zAc 1) zEZ)
  (zAi (zAw (i := 3) zBT.nd (@zBO _ _ _ _ (dac (zAc 1) zAd rfl)))
  (zAi (zHg 900 Q6 (zAt (zCi (u64 hr)) (zAc 3) (@zBO _ _ _ _ zAd) (zAC _)) (zAi (zB9 (i := 4) zBT.nd zAd)
  (zAi (zA6 Q6 rfl (zAZ (zAc 3)) (zAA (i := 5) zBT.nd) (zAh (zA6 Q6 rfl (zAZ (dcl T.F_qf G_qf hr rfl (dac (zAc 0) (dac (zAc 5) zAd rfl) rfl) ln2)) (zE1 rfl (zCD (zAA (i := 6) zBT.nd) (zCD (zAA (i := 7) zBT.nd) zE2))) (zAh (zAE (zAt (zDz (u65 hr)) (zAc 7) (zAc 2) (by with_unfolding_all rfl)) (zAi (zHc (i := 2) (u65 hr) (zAc 7) (zAn zMS (zG3 (i := 2) (u65 hr) (zAc 5)) (zAc 6)))
  (zAh (zDW (i := 4) (zAc 7)))) zAF)))))
  (zE3 4 (zAh (zAw (i := 3) zBT.nd (zAc 4)))))))
  (zAh (zAq (zAc 2))))))
theorem ok_qb (G_qa : FnOk P w K mg base CX0 2 (a 13) (d 13) ["_law_script", "_law_k", "_law_many"] (spD K 3 zAI)) : FnOk P w K mg base CX0 3 (a 19) (d 19) ["_law_script", "_law_at_here", "_law_most"] (spD K 3 zCr) := by
 refine zAx (g := zFi) (G := zCr) (N := N_qb) (k := 2) rfl rfl rfl T.F_qb.F zCX fun cdv A outer s H E hr => ?_
 exact (zAi (zAw (i := 3) zCX.nd (zAn zAD zAe (dcl T.F_qa G_qa hr rfl (dac (zAc 0) (dac (zAc 1) (dac (zAc 2) zAd rfl) rfl) rfl) ln3)))
  (zAi (zAw (i := 4) zCX.nd (zAn zAD zAe (dcl T.F_qa G_qa hr rfl (dac (zAc 0) (dac (zAn zAD (zAc 1) zAe) (dac (zAc 2) zAd rfl) rfl) rfl) ln3)))
  (zAi (zAw (i := 5) zCX.nd (zAl ixd (@zBO _ _ _ _ (dac zAe (dac zAe (dac zAe (dac zAe (dac zAe zAd rfl) rfl) rfl) rfl) rfl)) (dcl T.F_qa G_qa hr rfl (dac (zAc 0) (dac (zAn zAD (zAc 1) zAe) (dac zAe zAd rfl) rfl) rfl) ln3)))
  (zAi (zB9 (i := 6) zCX.nd zAd)
  (zAi (zA6 Q6 rfl (zB6 rfl T.z_range (dac (zAc 3) zAd rfl)) (zAA (i := 7) zCX.nd) (zAh (zHd (i := 6) (zBk rfl (zBd (N' := zGz) (inner := [none, some 7, some 0, some 5, some 1]) (zAj s_qb) N_qb rfl rfl (by decide +kernel)) (zBg 0) (zB6 rfl T.z_range (dac (zAc 4) zAd rfl)) (fun _ _ _ _ _ => (zAA (i := 0) zMp)) (fun _ _ _ _ _ => (zCa (zAt (zEj (u64 hr)) (dcl T.F_qa G_qa hr rfl (dac (zAc 2) (dac (zAn zAD (zAn zAD (zAn zAD (zAc 4) zAe) (zAn zA3 zAe (zAc 1))) (zAc 0)) (dac (zAc 3) zAd rfl) rfl) rfl) ln3) zAe (zAC _)))) (fun _ _ _ _ _ => (dtp (dac (zAc 1) (dac (zAc 0) zAd rfl) rfl)))))))
  (zAh (zAq (dtp (dac (zAc 3) (dac (zAc 4) (dac (zEW zGR rfl T.z_tuple boot_tuple (dac (zAc 6) zAd rfl)) zAd rfl) rfl) rfl)))))))))
theorem ok_q6 (G_q7 : FnOk P w K mg base CX0 2 (a 15) (d 15) ["_law_floor_here", "_law_cell_here", "_law_word"] (spD K 3 zBu)) : FnOk P w K mg base CX0 3 (a 20) (d 20) ["_law_floor_here", "_law_one", "_law_way_here"] (spD K 3 zC4) := by
 refine zAx (g := zFk) (G := zC4) (N := N_q6) (k := 2) rfl rfl rfl T.F_q6.F zGb fun cdv A outer s H E hr => ?_
 exact (zAi (zB9 (i := 3) zGb.nd (dac (zAc 1) zAd rfl))
  (zAi (zA6 Q6 rfl (zKU (zAc 2)) (zAA (i := 4) zGb.nd) (zAh (zAE (zAt zDy (zAl ixd (zAc 3) (zBl zBs zAe)) zBP (zAC _)) (zAh (zK5 (i := 3) (dcl T.F_q7 G_q7 hr rfl (dac (zAc 0) (dac (zAl ixd (zAc 3) (zBl zBs zAe)) (dac (zAc 4) zAd rfl) rfl) rfl) ln3))) zAF)))
  (zAh (zAq (zAc 3)))))
theorem ok_q0 (G_qr : FnOk P w K mg base CX0 3 (a 16) (d 16) ["floor", "thing"] (spD K 2 zC7)) : FnOk P w K mg base CX0 4 (a 21) (d 21) ["floor", "cell"] (spD K 2 zBM) := by
 refine zAx (g := zHU) (G := zBM) (N := N_q0) (k := 3) rfl rfl rfl T.F_q0.F sc_q0 fun cdv A outer s H E hr => ?_
 exact (zAh (zAE (zCF (zBE (dcl T.F_qr G_qr hr rfl (dac (zAc 0) (dac (zAc 1) zAd rfl) rfl) ln2))) (zAh zHe) zAF))
theorem ok_ql (G_q0 : FnOk P w K mg base CX0 4 (a 21) (d 21) ["floor", "cell"] (spD K 2 zBM)) : FnOk P w K mg base CX0 5 (a 22) (d 22) ["floor", "cell"] (spD K 2 zC8) := by
 refine zAx (g := zHN) (G := zC8) (N := N_ql) (k := 4) rfl rfl rfl T.F_ql.F sc_ql fun cdv A outer s H E hr => ?_
 exact (zAi (zCE (dcl T.F_q0 G_q0 hr rfl (dac (zAc 0) (dac (zAc 1) zAd rfl) rfl) ln2))
  (zAh (zAq (zEX (zEl (u65 hr)) (zAc 1) (zAl ixd (zAc 0) zAe) (by with_unfolding_all rfl)))))
theorem ok_qu (G_q0 : FnOk P w K mg base CX0 4 (a 21) (d 21) ["floor", "cell"] (spD K 2 zBM)) (G_q5 : FnOk P w K mg base CX0 3 (a 17) (d 17) ["solids", "one", "other"] (spD K 3 zDa)) (G_qt : FnOk P w K mg base CX0 1 (a 2) (d 2) ["things"] (spD K 1 zAV)) : FnOk P w K mg base CX0 5 (a 23) (d 23) ["floor", "one", "other"] (spD K 3 zB0) := by
 refine zAx (g := zHW) (G := zB0) (N := N_qu) (k := 4) rfl rfl rfl T.F_qu.F sc_qu fun cdv A outer s H E hr => ?_
 exact (zAi (zCE (dcl T.F_q0 G_q0 hr rfl (dac (zAc 0) (dac (zAc 1) zAd rfl) rfl) ln2))
  (zAi (zCE (dcl T.F_q0 G_q0 hr rfl (dac (zAc 0) (dac (zAc 2) zAd rfl) rfl) ln2))
  (zAh (zAq (dcl T.F_q5 G_q5 hr rfl (dac (dcl T.F_qt G_qt hr rfl (dac (zAl ixd (zAc 0) zAe) zAd rfl) ln1) (dac (zAc 1) (dac (zAc 2) zAd rfl) rfl) rfl) ln3)))))
theorem ok_q1 (G_ql : FnOk P w K mg base CX0 5 (a 22) (d 22) ["floor", "cell"] (spD K 2 zC8)) : FnOk P w K mg base CX0 6 (a 24) (d 24) ["floor", "cell"] (spD K 2 zBL) := by
 refine zAx (g := zHT) (G := zBL) (N := N_q1) (k := 5) rfl rfl rfl T.F_q1.F sc_q1 fun cdv A outer s H E hr => ?_
 exact (zAh (zAE (zBE (dcl T.F_ql G_ql hr rfl (dac (zAc 0) (dac (zAc 1) zAd rfl) rfl) ln2)) (zAh zHe) zAF))
theorem ok_q4 (G_qu : FnOk P w K mg base CX0 5 (a 23) (d 23) ["floor", "one", "other"] (spD K 3 zB0)) : FnOk P w K mg base CX0 6 (a 25) (d 25) ["_law_floor_here", "_law_watchers", "_law_cells_here"] (spD K 3 zBY) := by
 refine zAx (g := zFj) (G := zBY) (N := N_q4) (k := 5) rfl rfl rfl T.F_q4.F zJl fun cdv A outer s H E hr => ?_
 exact (zAi (zA6 Q6 rfl (zAZ (zAc 2)) (zAA (i := 3) zJl.nd) (zAh (zAE (zAt (zCi (u64 hr)) (zBk rfl (zBd (N' := zGw) (inner := [none, some 0, some 3]) (zAj s_q4) N_q4 rfl rfl (by decide +kernel)) (zBg 0) (zAZ (zAc 1)) (fun _ _ _ _ _ => (zAA (i := 0) zMm)) (fun _ _ _ _ _ => (zCa (zBE (dcl T.F_qu G_qu hr rfl (dac (zAc 1) (dac (zAc 0) (dac (zAc 2) zAd rfl) rfl) rfl) ln3)))) (fun _ _ _ _ _ => (zAc 0))) (@zBO _ _ _ _ zAd) (zAC _)) (zAh (zAq zAW)) zAF)))
  (zAh (zAq zAW)))
theorem ok_qk (G_q1 : FnOk P w K mg base CX0 6 (a 24) (d 24) ["floor", "cell"] (spD K 2 zBL)) (G_qt : FnOk P w K mg base CX0 1 (a 2) (d 2) ["things"] (spD K 1 zAV)) (G_qc : FnOk P w K mg base CX0 2 (a 10) (d 10) ["floor"] (spD K 1 zAY)) (G_qm : FnOk P w K mg base CX0 2 (a 11) (d 11) ["solids", "one", "other"] (spD K 3 zBZ)) : FnOk P w K mg base CX0 7 (a 26) (d 26) ["floor", "cell"] (spD K 2 zCu) := by
 refine zAx (g := zFq) (G := zCu) (N := N_qk) (k := 6) rfl rfl rfl T.F_qk.F zJo fun cdv A outer s H E hr => ?_
 exact (zAi (zCE (dcl T.F_q1 G_q1 hr rfl (dac (zAc 0) (dac (zAc 1) zAd rfl) rfl) ln2))
  (zAi (zAw (i := 2) zJo.nd (dcl T.F_qt G_qt hr rfl (dac (zAl ixd (zAc 0) zAe) zAd rfl) ln1))
  (zAh (zAq (zBk rfl (zBd (N' := zGF) (inner := [none, some 2, some 1]) (zAj s_qk) N_qk rfl rfl (by decide +kernel)) (zBg 0) (zAZ (dcl T.F_qc G_qc hr rfl (dac (zAc 0) zAd rfl) ln1)) (fun _ _ _ _ _ => (zAA (i := 0) zMv)) (fun _ _ _ _ _ => (zCa (zBE (dcl T.F_qm G_qm hr rfl (dac (zAc 1) (dac (zAc 2) (dac (zAc 0) zAd rfl) rfl) rfl) ln3)))) (fun _ _ _ _ _ => (zAc 0)))))))
theorem ok_q9 (G_qk : FnOk P w K mg base CX0 7 (a 26) (d 26) ["floor", "cell"] (spD K 2 zCu)) (G_qc : FnOk P w K mg base CX0 2 (a 10) (d 10) ["floor"] (spD K 1 zAY)) : FnOk P w K mg base CX0 8 (a 27) (d 27) ["floor", "cells"] (spD K 2 zDc) := by
 refine zAx (g := zFv) (G := zDc) (N := N_q9) (k := 7) rfl rfl rfl T.F_q9.F zEz fun cdv A outer s H E hr => ?_
 exact (zAi (zK7 (i := 2) zEz.nd rfl (u66 hr) rfl T.z_dict DC.boot_dict (dac (zBk rfl (zBd (N' := zGy) (inner := [none]) (zAj s_q9) N_q9 rfl rfl (by decide +kernel)) (zBg 0) (zAZ (dcl T.F_qc G_qc hr rfl (dac (zAc 0) zAd rfl) ln1)) (fun _ _ _ _ _ => (zAA (i := 0) zMo)) (fun _ _ _ _ _ => zDk) (fun _ _ _ _ _ => (dtp (dac (zAc 0) (dac zAe zAd rfl) rfl)))) zAd rfl))
  (zAi (zA6 Q6 rfl (zAZ (zAc 1)) (zAA (i := 3) zEz.nd) (zAh (zA6 Q6 rfl (zAZ (dcl T.F_qk G_qk hr rfl (dac (zAc 0) (dac (zAc 3) zAd rfl) rfl) ln2)) (zAA (i := 4) zEz.nd) (zAh (zHc (i := 2) (u65 hr) (zAc 4) (zAn zAD (zG3 (i := 2) (u65 hr) (zAc 4)) zAe))))))
  (zAh (zAq (zAc 2)))))
theorem ok_q8 (G_q9 : FnOk P w K mg base CX0 8 (a 27) (d 27) ["floor", "cells"] (spD K 2 zDc)) : FnOk P w K mg base CX0 9 (a 28) (d 28) ["floor", "cells"] (spD K 2 zDb) := by
 refine zAx (g := zFu) (G := zDb) (N := N_q8) (k := 8) rfl rfl rfl T.F_q8.F zJn fun cdv A outer s H E hr => ?_
 exact (zAi (zAw (i := 2) zJn.nd (dcl T.F_q9 G_q9 hr rfl (dac (zAc 0) (dac (zAc 1) zAd rfl) rfl) ln2))
  (zAh (zAq (zBk rfl (zBd (N' := zGx) (inner := [none, some 2]) (zAj s_q8) N_q8 rfl rfl (by decide +kernel)) (zBg 0) (zKT (zAc 2)) (fun _ _ _ _ _ => (zAA (i := 0) zMn)) (fun _ _ _ _ _ => (zCa (zAt zEk (zAl (ixd2 (u65 hr)) (zAc 1) (zAc 0)) zAe (zAC _)))) (fun _ _ _ _ _ => (zAc 0))))))
theorem zMH (G_q1 : FnOk P w K mg base CX0 6 (a 24) (d 24) ["floor", "cell"] (spD K 2 zBL)) (G_qt : FnOk P w K mg base CX0 1 (a 2) (d 2) ["things"] (spD K 1 zAV)) (G_qg : FnOk P w K mg base CX0 3 (a 18) (d 18) ["ground", "start"] (spD K 2 zCx)) (G_q8 : FnOk P w K mg base CX0 9 (a 28) (d 28) ["floor", "cells"] (spD K 2 zDb)) (G_qc : FnOk P w K mg base CX0 2 (a 10) (d 10) ["floor"] (spD K 1 zAY)) : FnOk P w K mg base (CX1 P w) 10 (a 29) (d 29) ["floor", "watchers", "one", "other"] (spX K 4 zBX) := by
 refine fn_X (g := zD6) (G := zBX) (N := N_qd) (k := 9) rfl rfl rfl T.F_qd.F zEA fun cdv A outer s H E hr => ?_
 exact (zAi (zCE (dcl T.F_q1 G_q1 hr rfl (dac (zAc 0) (dac (zAc 2) zAd rfl) rfl) ln2))
  (zAi (zCE (dcl T.F_q1 G_q1 hr rfl (dac (zAc 0) (dac (zAc 3) zAd rfl) rfl) ln2))
  (zAi (zAw (i := 4) zEA.nd (dcl T.F_qt G_qt hr rfl (dac (dcl T.F_q8 G_q8 hr rfl (dac (zAc 0) (dac (zAc 1) zAd rfl) rfl) ln2) zAd rfl) ln1))
  (zAi (zAw (i := 5) zEA.nd (dcl T.F_qt G_qt hr rfl (dac (zBk rfl (zBd (N' := zGA) (inner := [none, some 4]) (zAj s_qd) N_qd rfl rfl (by decide +kernel)) (zBg 0) (zAZ (dcl T.F_qc G_qc hr rfl (dac (zAc 0) zAd rfl) ln1)) (fun _ _ _ _ _ => (zAA (i := 0) zMq)) (fun _ _ _ _ _ => (zCa (zAt (zDz (u65 hr)) (zAc 0) (zAc 1) (by with_unfolding_all rfl)))) (fun _ _ _ _ _ => (zAc 0))) zAd rfl) ln1))
  (zAi (zAE (zAt (zDz (u65 hr)) (zAc 2) (zAc 5) (by with_unfolding_all rfl)) (zAh (zHf PySem.F.excBase_ValueError hr.hd rfl T.xn_NoWay T.xe_NoWay rfl T.xm_NoWay (zIU (.cons (zI1 hr.gd (u66 hr) (zAc 2)) (.cons (zI2 (by decide)) .nil)) (by decide)))) zAF)
  (zAi (zAw (i := 6) zEA.nd (dcl T.F_qg G_qg hr rfl (dac (zAc 5) (dac (zAc 2) zAd rfl) rfl) ln2))
  (zAi (zAE (zAt (zDz (u65 hr)) (zAc 3) (zAc 6) (by with_unfolding_all rfl)) (zAh (zHf PySem.F.excBase_ValueError hr.hd rfl T.xn_NoWay T.xe_NoWay rfl T.xm_NoWay (zIU (.cons (zI2 (by decide)) (.cons (zI1 hr.gd (u66 hr) (zAc 3)) .nil)) (by decide)))) zAF)
  (zAh (zAq (zAl (ixd2 (u65 hr)) (zAc 6) (zAc 3)))))))))))
theorem ok_qn (G_qd : FnOk P w K mg base CX0 10 (a 29) (d 29) ["floor", "watchers", "one", "other"] (spD K 4 zGt)) (GX_hidden_way : FnOk P w K mg base (CX1 P w) 10 (a 29) (d 29) ["floor", "watchers", "one", "other"] (spX K 4 zBX)) : FnOk P w K mg base CX0 11 (a 30) (d 30) ["_law_floor_here", "_law_watchers", "_law_one", "_law_other"] (spD K 4 zBj) := by
 refine zAx (g := zFl) (G := zBj) (N := N_qn) (k := 10) rfl rfl rfl T.F_qn.F sc_qn fun cdv A outer s H E hr => ?_
 exact (zAh (zLb (fun _ _ => (zAh (zK9 (zLd GX_hidden_way (hr.mono (by decide)) rfl T.F_qd.m T.F_qd.F.kp T.F_qd.b rfl (dac (zAc 0) (dac (zAc 1) (dac (zAc 2) (dac (zAc 3) zAd rfl) rfl) rfl) rfl) (zBQ (zBQ (zBQ (zBQ (fun _ _ h => zHj h))))))))) (fun _ _ _ => (zAh (zAq zBP))) rfl rfl rfl rfl T.xm_NoWay T.xb_NoWay (zOv T.xn_NoWay (zKA T.xe_NoWay T.xt_NoWay_NoWay) zOw)))
theorem ok_qv (G_qb : FnOk P w K mg base CX0 3 (a 19) (d 19) ["_law_script", "_law_at_here", "_law_most"] (spD K 3 zCr)) (G_qi : FnOk P w K mg base CX0 2 (a 14) (d 14) ["_law_floor_here"] (spD K 1 zC3)) (G_qa : FnOk P w K mg base CX0 2 (a 13) (d 13) ["_law_script", "_law_k", "_law_many"] (spD K 3 zAI)) (G_q7 : FnOk P w K mg base CX0 2 (a 15) (d 15) ["_law_floor_here", "_law_cell_here", "_law_word"] (spD K 3 zBu)) (G_qn : FnOk P w K mg base CX0 11 (a 30) (d 30) ["_law_floor_here", "_law_watchers", "_law_one", "_law_other"] (spD K 4 zBj)) (G_q4 : FnOk P w K mg base CX0 6 (a 25) (d 25) ["_law_floor_here", "_law_watchers", "_law_cells_here"] (spD K 3 zBY)) (G_q6 : FnOk P w K mg base CX0 3 (a 20) (d 20) ["_law_floor_here", "_law_one", "_law_way_here"] (spD K 3 zC4)) : FnOk P w K mg base CX0 12 (a 31) (d 31) ["_law_script"] (spD K 1 Glaw) := by
 refine zAx (g := glaw) (G := Glaw) (N := N_qv) (k := 11) rfl rfl rfl T.F_qv.F zA4 fun cdv A outer s H E hr => ?_
 exact (zAi (zAw (i := 1) zA4.nd (dcl T.F_qb G_qb hr rfl (dac (zAc 0) (dac zAe (dac zAe zAd rfl) rfl) rfl) ln3))
  (zAi (zAw (i := 2) zA4.nd (dcl T.F_qi G_qi hr rfl (dac (zAc 1) zAd rfl) ln1))
  (zAi (zAE (zAt (zEj (u64 hr)) (zAc 2) (@zBO _ _ _ _ zAd) (zAC _)) (zAh (zAq zAW)) zAF)
  (zAi (zAw (i := 3) zA4.nd (zAl ixd (zAc 2) (dcl T.F_qa G_qa hr rfl (dac (zAc 0) (dac zAe (dac (zAO zBB rfl T.z_len PySem.boot_len (dac (zAc 2) zAd rfl)) zAd rfl) rfl) rfl) ln3)))
  (zAi (zK6 (i := 4) zA4.nd rfl (zBd (N' := zGH) (inner := [none, some 2, some 0]) (zAj s_qv) N_qv rfl rfl (by decide +kernel)) (zBg 0) (zB6 rfl T.z_range (dac (dcl T.F_qa G_qa hr rfl (dac (zAc 0) (dac zAe (dac zAe zAd rfl) rfl) rfl) ln3) zAd rfl)) (fun _ _ _ _ _ => (zAA (i := 0) zMx)) (fun _ _ _ _ _ => zDk) (fun _ _ _ _ _ => (zAl ixd (zAc 1) (dcl T.F_qa G_qa hr rfl (dac (zAc 2) (dac (zAn zAD zAe (zAc 0)) (dac (zAO zBB rfl T.z_len PySem.boot_len (dac (zAc 1) zAd rfl)) zAd rfl) rfl) rfl) ln3))))
  (zAi (zAw (i := 5) zA4.nd (zAn zAD (zAc 4) (@zBO _ _ _ _ (dac (zAl ixd (zAc 2) (dcl T.F_qa G_qa hr rfl (dac (zAc 0) (dac zAe (dac (zAO zBB rfl T.z_len PySem.boot_len (dac (zAc 2) zAd rfl)) zAd rfl) rfl) rfl) ln3)) zAd rfl))))
  (zAi (zB9 (i := 6) zA4.nd (dac (zAc 3) zAd rfl))
  (zAi (zA6 Q6 rfl (zB6 rfl T.z_range (dac (zAO (zKt rfl) rfl T.z_max boot_max (dac zAe (dac (zAO (zKu rfl) rfl T.z_min boot_min (dac zAe (dac (zAO zBB rfl T.z_len PySem.boot_len (dac (zAc 0) zAd rfl)) zAd rfl) rfl)) zAd rfl) rfl)) zAd rfl)) (zAA (i := 7) zA4.nd) (zAi (zLa (i := 8) zA4.nd (dcl T.F_q7 G_q7 hr rfl (dac (zAc 1) (dac (zAl ixd (zAc 6) (zBl zBs zAe)) (dac (zAl ixdS zEZ (dcl T.F_qa G_qa hr rfl (dac (zAc 0) (dac (zAn zAD zAe (zAc 7)) (dac zAe zAd rfl) rfl) rfl) ln3)) zAd rfl) rfl) rfl) ln3))
  (zAh (zAE (zAt zDy (zAc 8) zBP (zAC _)) (zAh (zDW (i := 6) (zAc 8))) zAF))))
  (zE3 6 (zAi (zA6 Q6 rfl (zAZ (dtp (dac (zAl ixd (zAc 6) (zBl zBs zAe)) (dac (zAl ixd (zAc 2) (dcl T.F_qa G_qa hr rfl (dac (zAc 0) (dac zAe (dac (zAO zBB rfl T.z_len PySem.boot_len (dac (zAc 2) zAd rfl)) zAd rfl) rfl) rfl) ln3)) zAd rfl) rfl))) (zAA (i := 9) zA4.nd) (zAi (zAw (i := 10) zA4.nd (dcl T.F_qn G_qn hr rfl (dac (zAc 1) (dac (zAc 4) (dac (zAc 3) (dac (zAc 9) zAd rfl) rfl) rfl) rfl) ln4))
  (zE3 6 (zAi (zAw (i := 11) zA4.nd (zDi (zEX (zEj (u64 hr)) (zAc 9) (zAl ixd (zAc 6) (zBl zBs zAe)) (zAC _)) (zDj (dcl T.F_q4 G_q4 hr rfl (dac (zAc 1) (dac (zAc 4) (dac (zAc 6) zAd rfl) rfl) rfl) ln3))))
  (zAh (zAE (zAt zMT (zAc 10) zBP (zAC _)) (zAi (zAE (dw_t (zCb (zBE (zAc 11)) (zCG (zAt zDy (dcl T.F_qn G_qn hr rfl (dac (zAc 1) (dac (zAc 5) (dac (zAc 3) (dac (zAc 9) zAd rfl) rfl) rfl) rfl) ln4) zBP (zAC _))))) (zAh (zAq zAW)) zAF)
  (zAh (zAE (zAt zDy (dcl T.F_qn G_qn hr rfl (dac (zAc 1) (dac (zAc 4) (dac (zAc 9) (dac (zAc 3) zAd rfl) rfl) rfl) rfl) ln4) zBP (zAC _)) (zAh (zAq zAW)) zAF))) (zAi (zAw (i := 12) zA4.nd (dcl T.F_q6 G_q6 hr rfl (dac (zAc 1) (dac (zAc 3) (dac (zAc 10) zAd rfl) rfl) rfl) ln3))
  (zAi (zAE (dw_t (zCb (zAt (zCi (u64 hr)) (zAl ixd (zAc 12) (zBl zBs zAe)) (zAc 9) (zAC _)) (zCG (zCF (zBE (dcl T.F_q4 G_q4 hr rfl (dac (zAc 1) (dac (zAc 4) (dac (zAc 12) zAd rfl) rfl) rfl) ln3)))))) (zAh (zAq zAW)) zAF)
  (zAi (zAE (dw_t (zCb (dw_t (zDX (zBE (zAc 11)) (zDY (zAt zEk (zAO zDg rfl T.z_len PySem.boot_len (dac (zAc 10) zAd rfl)) (zAn zFT (zAO zBB rfl T.z_len PySem.boot_len (dac (zAc 6) zAd rfl)) zAe) (zAC _))))) (zCG (zAt (zCi (u64 hr)) (zAO zDg rfl T.z_len PySem.boot_len (dac (zKP (dcl T.F_qn G_qn hr rfl (dac (zAc 1) (dac (zAc 4) (dac (zAc 9) (dac (zAc 3) zAd rfl) rfl) rfl) rfl) ln4) zEZ) zAd rfl)) (zAO zDg rfl T.z_len PySem.boot_len (dac (zAc 10) zAd rfl)) (zAC _))))) (zAh (zAq zAW)) zAF)
  (zAi (zAw (i := 13) zA4.nd (dcl T.F_qn G_qn hr rfl (dac (zAc 1) (dac (zAc 5) (dac (zAc 3) (dac (zAc 9) zAd rfl) rfl) rfl) rfl) ln4))
  (zAh (zAE (dw_t (zDX (zAt zDy (zAc 13) zBP (zAC _)) (zDY (zAt zCg (zAO zDg rfl T.z_len PySem.boot_len (dac (zAc 13) zAd rfl)) (zAO zDg rfl T.z_len PySem.boot_len (dac (zAc 10) zAd rfl)) (zAC _))))) (zAh (zAq zAW)) zAF))))))))))))
  (zAh (zAq zAW))))))))))))
end
end My
namespace My
open PySem PySem.SeqAt L2 DL SD SL EL DC
abbrev C := Int × Int
def zAa (c : C) : D := .tuple [.int c.1, .int c.2]
theorem add_i (i j : Int) : zAs (.int i) (.int j) = some (.int (i + j)) := id rfl
theorem ne_i (i j : Int) : dNe (.int i) (.int j) = some (.bool (!(i == j))) := id rfl
theorem zEd (l : List D) : dLen [.list l] = some (.int l.length) := id rfl
theorem zBz {i j : Int} (h : zBS i j = true) : dMul (.int i) (.int j) = some (.int (i * j)) := by
 show (if zBS i j = true then _ else _) = _
 rw [if_pos h]
theorem zFa {i j : Int} (h : zCN i j = true) : zBC (.int i) (.int j) = some (.int (i / j)) := by
 show (if zCN i j = true then _ else _) = _
 rw [if_pos h]
theorem zCe {i j : Int} (h : 0 < j) : dMod (.int i) (.int j) = some (.int (i % j)) := by
 show (if decide (0 < j) = true then _ else _) = _
 rw [if_pos (decide_eq_true h)]
theorem okS {i j : Int} (h1 : -18446744073709551616 < i) (h2 : i < 18446744073709551616) : zBS i j = true := by
 unfold zBS
 rw [decide_eq_true h1, decide_eq_true h2]
 rfl
theorem okT {i j : Int} (h1 : -18446744073709551616 < j) (h2 : j < 18446744073709551616) : zBS i j = true := by
 unfold zBS
 rw [decide_eq_true h1, decide_eq_true h2]
 simp
theorem okD {i j : Int} (h1 : 0 < j) (h2 : j < 1073741824) : zCN i j = true := by
 unfold zCN
 rw [decide_eq_true h1, decide_eq_true h2]
 rfl
section
variable {α β : Type}
theorem zDh {s : D -> Rho -> Option Rho} {t : Rho -> Option Bool} {ge : Rho -> Option D} (item : α -> D) (p : α -> Bool) (f : α -> D) (I : Rho -> Prop) : ∀ {xs : List α} {ρ : Rho}, I ρ ->
  (∀ a ∈ xs, ∀ ρ, I ρ -> ∃ ρ', s (item a) ρ = some ρ' /\ I ρ' /\ t ρ' = some (p a) /\ (p a = true -> ge ρ' = some (f a))) -> zCB s t ge (xs.map item) ρ = some ((xs.filter p).map f)
 | [], _, _, _ => rfl
 | x :: xs, ρ, h0, h => by
  obtain ⟨ρ', e1, i1, e2, e3⟩ := h x Qf ρ h0
  have ih := zDh item p f I i1 fun y hy => h y (Qe _ hy)
  rw [Qo]
  unfold zCB
  rw [e1, Qi, e2, Qi]
  cases q : p x with
  | true => rw [if_pos rfl, e3 q, Qi, ih, List.filter_cons_of_pos q]; rfl
  | false => rw [if_neg Qw, ih, List.filter_cons_of_neg (by rw [q]; exact Qw)]
theorem zIh {gi : Rho -> Option (List D)} {s : D -> Rho -> Option Rho} {t : Rho -> Option Bool} {ge : Rho -> Option D} {inner : List (Option Nat)} {ρ : Rho} {xs : List α} (item : α -> D) (p : α -> Bool) (f : α -> D) (I : Rho -> Prop) (h1 : gi ρ = some (xs.map item)) (hl : xs.length <= 1000) (h0 : I (zBx inner ρ))
  (h : ∀ a ∈ xs, ∀ ρ, I ρ -> ∃ ρ', s (item a) ρ = some ρ' /\ I ρ' /\ t ρ' = some (p a) /\ (p a = true -> ge ρ' = some (f a))) : eLc (zAJ gi s t ge inner) ρ = some (.list ((xs.filter p).map f)) := by
 have q := zDh item p f I h0 h
 unfold eLc zAJ
 rw [h1, Qi, q, Qi, if_pos (by rw [Qj]; exact Qx (Q2 _ _) hl)]
 rfl
theorem zBq {gi : Rho -> Option (List D)} {s : D -> Rho -> Option Rho} {t : Rho -> Option Bool} {ge : Rho -> Option D} {inner : List (Option Nat)} {ρ : Rho} {xs : List α} {out : List D} (item : α -> D) (p : α -> Bool) (f : α -> D) (I : Rho -> Prop) (h1 : gi ρ = some (xs.map item)) (hl : xs.length <= 1000) (h0 : I (zBx inner ρ))
  (h : ∀ a ∈ xs, ∀ ρ, I ρ -> ∃ ρ', s (item a) ρ = some ρ' /\ I ρ' /\ t ρ' = some (p a) /\ (p a = true -> ge ρ' = some (f a))) (ho : (xs.filter p).map f = out) : eLc (zAJ gi s t ge inner) ρ = some (.list out) := by
 rw [<- ho]
 exact zIh item p f I h1 hl h0 h
theorem zDn (l : List α) : l.filter (fun _ => true) = l := by induction l with
 | nil => rfl
 | cons a l ih => simp [ih]
theorem zCI {s : D -> Rho -> Option Rho} {g : Rho -> Option Out} (item : α -> D) (env : β -> Rho) (step : β -> α -> β) (P : Nat -> β -> Prop) (n : Nat) : ∀ (xs : List α) (i : Nat) (b : β), i + xs.length <= n -> P i b ->
  (∀ a ∈ xs, ∀ i b, i < n -> P i b -> (∃ ρ1, s (item a) (env b) = some ρ1 /\ g ρ1 = some (.nx (env (step b a)))) /\ P (i + 1) (step b a)) -> forN s g (xs.map item) (env b) = some (.nx (env (xs.foldl step b)))
 | [], _, b, _, _, _ => rfl
 | x :: xs, i, b, hi, hp, h => by
  rw [QV] at hi
  obtain ⟨⟨ρ1, e1, e2⟩, p2⟩ := h x Qf i b (by lia) hp
  rw [Qo]
  unfold forN
  rw [e1, Qi, e2, Qi]
  exact zCI item env step P n xs (i + 1) _ (by lia) p2 fun a ha => h a (Qe _ ha)
theorem zD3 {s : D -> Rho -> Option Rho} {g : Rho -> Option Out} (item : α -> D) (I : Rho -> Prop) (p : α -> Bool) (d : D) : ∀ (xs : List α) (ρ : Rho), I ρ ->
  (∀ a ∈ xs, ∀ ρ, I ρ -> ∃ ρ1, s (item a) ρ = some ρ1 /\ if p a = true then g ρ1 = some (.rt d) else ∃ ρ2, g ρ1 = some (.nx ρ2) /\ I ρ2) ->
  if xs.any p = true then forN s g (xs.map item) ρ = some (.rt d) else ∃ ρ', forN s g (xs.map item) ρ = some (.nx ρ') /\ I ρ'
 | [], ρ, h0, _ => by rw [if_neg (by simp)]; exact ⟨ρ, rfl, h0⟩
 | x :: xs, ρ, h0, h => by
  obtain ⟨ρ1, e1, e2⟩ := h x Qf ρ h0
  rw [Qo, Jm]
  unfold forN
  rw [e1, Qi]
  cases q : p x with
  | true =>
   rw [q, if_pos rfl] at e2
   rw [Bool.true_or, if_pos rfl, e2]
   rfl
  | false =>
   rw [q, if_neg Qw] at e2
   obtain ⟨ρ2, e2, i2⟩ := e2
   rw [Bool.false_or, e2, Qi]
   exact zD3 item I p d xs ρ2 i2 fun a ha => h a (Qe _ ha)
theorem zHC {s : D -> Rho -> Option Rho} {g : Rho -> Option Out} (item : α -> D) (I : Rho -> Prop) : ∀ (xs : List α) (ρ : Rho), I ρ ->
  (∀ a ∈ xs, ∀ ρ, I ρ -> ∃ ρ1 ρ2, s (item a) ρ = some ρ1 /\ g ρ1 = some (.nx ρ2) /\ I ρ2) -> ∃ ρ', forN s g (xs.map item) ρ = some (.nx ρ') /\ I ρ'
 | [], ρ, h0, _ => ⟨ρ, rfl, h0⟩
 | x :: xs, ρ, h0, h => by
  obtain ⟨ρ1, ρ2, e1, e2, i2⟩ := h x Qf ρ h0
  rw [Qo]
  unfold forN
  rw [e1, Qi, e2, Qi]
  exact zHC item I xs ρ2 i2 fun a ha => h a (Qe _ ha)
end
theorem zJc (h : Nat) (h2 : h < 1000) : rng1 [.int h] = some ((List.range h).map fun (k : Nat) => .int (k : Int)) := by
 show (if -4611686018427387904 <= (h : Int) /\ (h : Int) < 4611686018427387904 then some ((List.range (h : Int).toNat).map fun (k : Nat) => PyData.int (0 + (k : Int))) else none) = _
 rw [if_pos ⟨by lia, by lia⟩, Jo]
 congr 2
 funext k
 rw [Int.zero_add]
section
variable {g g1 g2 : Rho -> Option Out} {t u : Rho -> Option Bool} {ga gb gc : Rho -> Option D} {gr : Rho -> Option (List D)} {ρ : Rho} {d : D}
theorem ap_C : eC d ρ = some d := id rfl
theorem ap_op (f : D -> D -> Option D) : eOp f ga gb ρ = (ga ρ).bind fun x => (gb ρ).bind fun y => f x y := id rfl
theorem zJ3 : eLst gr ρ = (gr ρ).bind fun xs => if xs.length <= 1000 then some (.list xs) else none := id rfl
theorem zGL : eOr t u ρ = (t ρ).bind fun b => if b = true then some true else u ρ := id rfl
end
section
variable {α β : Type} (a : α) (l m : List α) (n : Nat) (f : α -> β)
theorem O_bs (k : α -> Option β) : (some a).bind k = k a := id rfl
end
def zDs {β : Type} (cond : β -> Bool) (step : β -> β) : Nat -> β -> Option β
 | 0, _ => none
 | n + 1, b => if cond b = true then zDs cond step n (step b) else some b
theorem zJU {β : Type} {t : Rho -> Option Bool} {g : Rho -> Option Out} (env : β -> Rho) (cond : β -> Bool) (step : β -> β) (P : Nat -> β -> Prop) (hT : ∀ n b, P n b -> t ((env b).map frz) = some (cond b))
  (hB : ∀ n b, P (n + 1) b -> cond b = true -> g (env b) = some (.nx (env (step b))) /\ P n (step b)) : ∀ n b b', P n b -> zDs cond step n b = some b' -> zBt t g n (env b) = some (.nx (env b'))
 | 0, _, _, _, h => by cases h
 | n + 1, b, b', p, h => by
  unfold zDs at h
  unfold zBt
  rw [hT _ b p, Qi]
  by_cases c : cond b = true
  ·rw [if_pos c] at h ⊢
   obtain ⟨h1, h2⟩ := hB n b p c
   rw [h1, Qi]
   exact zJU env cond step P hT hB n _ b' h2 h
  ·rw [if_neg c] at h ⊢
   cases h
   rfl
theorem zAk {g1 g2 : Rho -> Option Out} {ρ ρ' : Rho} {r : Option Out} (h : g1 ρ = some (.nx ρ')) (h2 : g2 ρ' = r) : sSeq g1 g2 ρ = r := by
 unfold sSeq
 rw [h]
 exact h2
theorem zCV {g1 g2 : Rho -> Option Out} {ρ : Rho} {d : D} (h : g1 ρ = some (.rt d)) : sSeq g1 g2 ρ = some (.rt d) := by
 unfold sSeq
 rw [h]
 rfl
theorem zAy {n : Nat} {g : Rho -> Option Out} {ds : List D} {d : D} (h : g (zAB n ds) = some (.rt d)) : fnD n g ds = some d := by
 unfold fnD
 rw [h]
theorem zA9 {gi : Rho -> Option (List D)} {s : D -> Rho -> Option Rho} {g : Rho -> Option Out} {ρ : Rho} {xs : List D} {r : Option Out} (h1 : gi ρ = some xs) (h2 : forN s g xs ρ = r) : sFor gi s g ρ = r := by
 unfold sFor
 rw [h1]
 exact h2
theorem zN2 {i : Nat} {g : Rho -> Option Out} {ρ : Rho} {r : Option Out} (h : g (zFg i ρ) = r) : sFrz i g ρ = r := h
theorem zAU {t : Rho -> Option Bool} {g1 g2 : Rho -> Option Out} {ρ : Rho} {b : Bool} {r : Option Out} (h : t (ρ.map frz) = some b) (h1 : b = true -> g1 ρ = r) (h2 : b = false -> g2 ρ = r) : sIf t g1 g2 ρ = r := by
 unfold sIf
 rw [h]
 cases b with
 | true => exact h1 rfl
 | false => exact h2 rfl
theorem zAv {ga : Rho -> Option D} {ρ : Rho} {d : D} (h : ga (ρ.map frz) = some d) : sRet ga ρ = some (.rt d) := by
 unfold sRet
 rw [h]
 rfl
theorem zAz {i : Nat} {ga : Rho -> Option D} {ρ : Rho} {d : D} (h : ga ρ = some d) : sSet i ga ρ = some (.nx (ρ.set i (.dat d))) := by
 unfold sSet
 rw [h]
 rfl
theorem zAg {G : List D -> Option D} {gr : Rho -> Option (List D)} {ρ : Rho} {ds : List D} {r : Option D} (h : gr ρ = some ds) (h2 : G ds = r) : zAf G gr ρ = r := by
 unfold zAf
 rw [h]
 exact h2
theorem zF8 {gr : Rho -> Option (List D)} {s : D -> Rho -> Option Rho} {g : Rho -> Option Out} {ρ : Rho} {n : Nat} {r : Option Out} (h1 : gr ρ = some [.int (n : Nat)]) (hn : n < 1000) (h2 : forN s g ((List.range n).map fun (k : Nat) => .int (k : Int)) ρ = r) : sFor (zA0 gr) s g ρ = r := by
 show ((gr ρ).bind rng1).bind (fun xs => forN s g xs ρ) = r
 rw [h1, Qi, zJc n hn, Qi]
 exact h2
theorem zEb {gr : Rho -> Option (List D)} {ρ : Rho} {n : Nat} (h1 : gr ρ = some [.int (n : Nat)]) (hn : n < 1000) : zA0 gr ρ = some ((List.range n).map fun (k : Nat) => .int (k : Int)) := by
 show (gr ρ).bind rng1 = _
 rw [h1, Qi, zJc n hn]
theorem oo {f : D -> D -> Option D} {ga gb : Rho -> Option D} {ρ : Rho} {x y : D} {r : Option D} (h1 : ga ρ = some x) (h2 : gb ρ = some y) (h3 : f x y = r) : eOp f ga gb ρ = r := by
 unfold eOp
 rw [h1, Qi, h2]
 exact h3
theorem oB {ga : Rho -> Option D} {ρ : Rho} {b : Bool} (h : ga ρ = some (.bool b)) : eB ga ρ = some b := by
 unfold eB
 rw [h]
 rfl
theorem zEu {i : Nat} {ga : Rho -> Option D} {ρ : Rho} {ds : List D} {d : D} (h1 : ρ[i]? = some (.own ds)) (h2 : ga ρ = some d) (h3 : ds.length < 1000) : sApp i ga ρ = some (.nx (ρ.set i (.own (ds ++ [d])))) := by
 unfold sApp
 rw [h1]
 show (ga ρ).bind _ = _
 rw [h2, Qi, if_pos h3]
theorem zCU {ga : Rho -> Option D} {ρ : Rho} {d : D} (h : ga ρ = some d) : zBK ga ρ = some (.nx ρ) := by
 unfold zBK
 rw [h]
 rfl
theorem zAp {ga : Rho -> Option D} {gr : Rho -> Option (List D)} {ρ : Rho} {d : D} {ds : List D} (h : ga ρ = some d) (h2 : gr ρ = some ds) : zAb ga gr ρ = some (d :: ds) := by
 unfold zAb
 rw [h, Qi, h2]
 rfl
theorem zAM {t : Rho -> Option Bool} {g1 : Rho -> Option Out} {ρ : Rho} (h : t (ρ.map frz) = some false) : sIf t g1 zAu ρ = some (.nx ρ) := by
 unfold sIf
 rw [h]
 rfl
theorem oN {t : Rho -> Option Bool} {ρ : Rho} {b : Bool} (h : t ρ = some b) : eNot t ρ = some (!b) := by
 unfold eNot
 rw [h]
 rfl
theorem oA1 {t u : Rho -> Option Bool} {ρ : Rho} {r : Option Bool} (h : t ρ = some true) (h2 : u ρ = r) : eAnd t u ρ = r := by
 unfold eAnd
 rw [h]
 exact h2
theorem oA0 {t u : Rho -> Option Bool} {ρ : Rho} (h : t ρ = some false) : eAnd t u ρ = some false := by
 unfold eAnd
 rw [h]
 rfl
theorem zHy {n : Nat} {g : Rho -> Option Out} {ds : List D} {ρ : Rho} (h : g (zAB n ds) = some (.nx ρ)) : fnD n g ds = some .none := by
 unfold fnD
 rw [h]
theorem oAV {ga gb : Rho -> Option D} {ρ : Rho} {r : Option D} (h : ga ρ = some (.bool true)) (h2 : gb ρ = r) : zBn ga gb ρ = r := by
 unfold zBn
 rw [h]
 exact h2
theorem oT2 {ga gb : Rho -> Option D} {ρ : Rho} {x y : D} (h1 : ga ρ = some x) (h2 : gb ρ = some y) : eTup (zAb ga (zAb gb eNil)) ρ = some (.tuple [x, y]) := by
 unfold eTup
 rw [zAp h1 (zAp h2 rfl)]
 rfl
theorem oO0 {t u : Rho -> Option Bool} {ρ : Rho} {r : Option Bool} (h : t ρ = some false) (h2 : u ρ = r) : eOr t u ρ = r := by
 unfold eOr
 rw [h]
 exact h2
theorem oAV0 {ga gb : Rho -> Option D} {ρ : Rho} (h : ga ρ = some (.bool false)) : zBn ga gb ρ = some (.bool false) := by
 unfold zBn
 rw [h]
 rfl
theorem zA1 {ga : Rho -> Option D} {ρ : Rho} {d : D} {l : List D} (h1 : ga ρ = some d) (h2 : seqD d = some l) : iSeq ga ρ = some l := by
 show (ga ρ).bind seqD = _
 rw [h1, Qi, h2]
end My
namespace My
open PySem PySem.SeqAt L2 DL SD SL EL DC
abbrev Row := List Int
def insL (p : Row) : List Row -> List Row
 | [] => [p]
 | q :: r => if HT.lexLt q p = true then q :: insL p r else p :: q :: r
def zBa : List Row -> List Row
 | [] => []
 | p :: r => insL p (zBa r)
def fK (k : Row) : KD := (k, tupI k)
theorem zH3 (p : Row) : ∀ l : List Row, insK (fK p) (l.map fK) = (insL p l).map fK
 | [] => rfl
 | q :: r => by
  show (if HT.lexLt q p = true then fK q :: insK (fK p) (r.map fK) else fK p :: fK q :: r.map fK) = (if HT.lexLt q p = true then q :: insL p r else p :: q :: r).map fK
  split
  ·rw [zH3 p r]; rfl
  ·rfl
theorem zGf : ∀ l : List Row, zAQ (l.map fK) = (zBa l).map fK
 | [] => rfl
 | p :: r => by
  show insK (fK p) (zAQ (r.map fK)) = (insL p (zBa r)).map fK
  rw [zGf r, zH3]
theorem zH4 (p : Row) : ∀ l : List Row, (insL p l).Perm (p :: l)
 | [] => .refl _
 | q :: r => by
  unfold insL
  split
  ·exact ((zH4 p r).cons q).trans (.swap _ _ _)
  ·exact .refl _
theorem zGg : ∀ l : List Row, (zBa l).Perm l
 | [] => .refl _
 | p :: r => (zH4 p (zBa r)).trans ((zGg r).cons p)
theorem zOi (l : List Row) : (zBa l).Pairwise fun a b => HT.lexLt b a = false := by
 have := zDI (l.map fK)
 rw [zGf, Q5] at this
 exact this
theorem zG0 : ∀ l : List Row, l.Nodup -> dd l = l
 | [], _ => rfl
 | k :: r, h => by
  obtain ⟨h1, h2⟩ := Yl.mp h
  unfold dd
  rw [if_neg h1, zG0 r h2]
theorem zIm : ∀ {k m : Row}, k.length = m.length -> zA2 (k.map PyData.int) (m.map PyData.int) = true
 | [], [], _ => rfl
 | x :: k, y :: m, h => by
  show (zA7 (.int x) (.int y) && zA2 (k.map PyData.int) (m.map PyData.int)) = true
  rw [zIm (by simpa using h)]
  rfl
 | [], _ :: _, h => by cases h
 | _ :: _, [], h => by cases h
theorem zHw : ∀ k : Row, zBf (k.map PyData.int) = some k
 | [] => rfl
 | x :: k => by
  have := zHw k
  show (some [x]).bind (fun a => (zBf (k.map PyData.int)).bind fun b => some (a ++ b)) = _
  rw [this]
  rfl
theorem zJf {d0 : Row} (h0 : d0 ≠ []) : ∀ {l : List Row}, (∀ k ∈ l, k.length = d0.length) -> zAT (d0.map PyData.int) (l.map tupI) = some (l.map fK)
 | [], _ => rfl
 | k :: l, h => by
  have hk := h k Qf
  have e1 : rowK (d0.map PyData.int) (tupI k) = some k := by
   cases k with
   | nil => exact absurd (Jh hk.symm) h0
   | cons x k =>
    show (if zA2 (d0.map PyData.int) ((x :: k).map PyData.int) = true then zBf ((x :: k).map PyData.int) else none) = _
    rw [if_pos (zIm hk.symm), zHw]
  show (rowK (d0.map PyData.int) (tupI k)).bind _ = _
  rw [e1, Qi, zJf h0 fun k hk => h k (Qe _ hk)]
  rfl
theorem zDJ {l : List Row} (h : ∀ k ∈ l, k.length = 2) (hl : l.length <= 63) : zB5 [.list (l.map tupI)] = some (.list ((zBa l).map tupI)) := by
 cases l with
 | nil => rfl
 | cons k0 kr =>
  have h0 : k0.length = 2 := h k0 Qf
  have e2 := zJf (d0 := k0) (fun q => by rw [q] at h0; cases h0) (l := k0 :: kr) fun k hk => (h k hk).trans h0.symm
  show (if (kr.map tupI).length < 63 then (zAT (k0.map PyData.int) ((k0 :: kr).map tupI)).bind fun l => some (PyData.list ((zAQ l).map (·.2))) else none) = _
  rw [if_pos (by rw [Qj]; simp only [QV] at hl; lia), e2]
  show some (PyData.list ((zAQ ((k0 :: kr).map fK)).map (·.2))) = _
  rw [zGf, Yg]
  rfl
def row (c : C) : Row := [c.1, c.2]
def ltC (a b : C) : Bool := HT.lexLt (row a) (row b)
theorem zCM (a b : C) : ltC a b = true ↔ a.1 < b.1 ∨ (a.1 = b.1 /\ a.2 < b.2) := by
 unfold ltC row
 rw [HT.lexLt_cons]
 by_cases h : a.1 = b.1
 ·rw [if_pos h, HT.lexLt_cons]
  by_cases h' : a.2 = b.2
  ·rw [if_pos h']; simp [HT.lexLt]; lia
  ·rw [if_neg h']; simp; lia
 ·rw [if_neg h]; simp; lia
def Up (l : List C) : Prop := l.Pairwise fun a b => ltC a b = true
theorem zGn : ∀ {l m : List C}, Up l -> Up m -> (∀ c, c ∈ l ↔ c ∈ m) -> l = m
 | [], [], _, _, _ => rfl
 | [], b :: m, _, _, h => nomatch (h b).mpr Qf
 | a :: l, [], _, _, h => nomatch (h a).mp Qf
 | a :: l, b :: m, h1, h2, h => by
  obtain ⟨a1, a2⟩ := Yb.mp h1
  obtain ⟨b1, b2⟩ := Yb.mp h2
  have irr : ∀ c : C, ltC c c = true -> False := fun c q => by rw [zCM] at q; lia
  have e : a = b := by
   rcases Qk.mp ((h a).mp Qf) with q | q
   ·exact q
   ·rcases Qk.mp ((h b).mpr Qf) with r | r
    ·exact r.symm
    ·have x := b1 a q
     have y := a1 b r
     rw [zCM] at x y
     lia
  subst e
  congr 1
  refine zGn a2 b2 fun c => ⟨fun q => ?_, fun q => ?_⟩
  ·rcases Qk.mp ((h c).mp (Qe _ q)) with r | r
   ·subst r; exact (irr _ (a1 _ q)).elim
   ·exact r
  ·rcases Qk.mp ((h c).mpr (Qe _ q)) with r | r
   ·subst r; exact (irr _ (b1 _ q)).elim
   ·exact r
theorem zCp {l : List C} (h : Up l) : l.Nodup := h.imp fun {a b} q e => by subst e; rw [zCM] at q; lia
theorem zOh {l : List C} (hn : l.Nodup) : ∃ m : List C, zBa (l.map row) = m.map row /\ Up m /\ ∀ c, c ∈ m ↔ c ∈ l := by
 obtain ⟨m, hm⟩ : ∃ m : List C, m = (zBa (l.map row)).map fun r => (r.getD 0 0, r.getD 1 0) := ⟨_, rfl⟩
 have mem : ∀ r, r ∈ zBa (l.map row) ↔ r ∈ l.map row := fun r => (zGg _).mem_iff
 have e : zBa (l.map row) = m.map row := by
  rw [hm, Yg]
  conv => lhs; rw [<- List.map_id (zBa (l.map row))]
  refine Jw fun r hr => ?_
  obtain ⟨c, _, rfl⟩ := QJ.mp ((mem r).mp hr)
  rfl
 have inj : ∀ a b : C, row a = row b -> a = b := fun a b q => by
  unfold row at q
  injection q with q1 q2
  injection q2 with q2 _
  exact Jk q1 q2
 have mm : ∀ c, c ∈ m ↔ c ∈ l := fun c => by
  constructor
  ·intro h
   have : row c ∈ l.map row := (mem _).mp (by rw [e]; exact List.mem_map_of_mem h)
   obtain ⟨d, hd, q⟩ := QJ.mp this
   rw [<- inj _ _ q]; exact hd
  ·intro h
   have : row c ∈ m.map row := by rw [<- e]; exact (mem _).mpr (List.mem_map_of_mem h)
   obtain ⟨d, hd, q⟩ := QJ.mp this
   rw [<- inj _ _ q]; exact hd
 refine ⟨m, e, ?_, mm⟩
 have s := zOi (l.map row)
 have n : (zBa (l.map row)).Nodup := (zGg _).nodup_iff.mpr (by
  rw [List.Nodup, Q5]
  exact hn.imp fun {a b} q r => q (inj _ _ r))
 rw [e] at s n
 rw [Q5] at s
 rw [List.Nodup, Q5] at n
 refine (s.and n).imp fun {a b} h => ?_
 cases q : ltC a b with
 | true => rfl
 | false => exact absurd (zDu _ _ q h.1) h.2
theorem zF6 (l : List C) : (l.map row).map tupI = l.map zAa := by rw [Yg]; rfl
theorem zOl {l m : List C} (hn : l.Nodup) (hl : l.length <= 63) (hm : Up m) (h : ∀ c, c ∈ m ↔ c ∈ l) : zB5 [.list (l.map zAa)] = some (.list (m.map zAa)) := by
 rw [<- zF6 l, zDJ (fun k hk => by obtain ⟨c, _, rfl⟩ := QJ.mp hk; rfl) (by rw [Qj]; exact hl)]
 obtain ⟨m', e1, e2, e3⟩ := zOh hn
 rw [e1, zF6, zGn e2 hm fun c => (e3 c).trans (h c).symm]
def cells (w h : Nat) : List C := (List.range w).flatMap fun (x : Nat) => (List.range h).map fun (y : Nat) => ((x : Int), (y : Int))
def inR (w h : Nat) (c : C) : Bool := decide (0 <= c.1) && decide (c.1 < w) && decide (0 <= c.2) && decide (c.2 < h)
theorem zDq {w h : Nat} {c : C} : inR w h c = true ↔ 0 <= c.1 /\ c.1 < w /\ 0 <= c.2 /\ c.2 < h := by
 unfold inR
 simp only [QH, decide_eq_true_eq]
 constructor
 ·intro q; exact ⟨q.1.1.1, q.1.1.2, q.1.2, q.2⟩
 ·intro q; exact ⟨⟨⟨q.1, q.2.1⟩, q.2.2.1⟩, q.2.2.2⟩
theorem zBI {w h : Nat} {c : C} : c ∈ cells w h ↔ inR w h c = true := by
 unfold cells
 rw [List.mem_flatMap, zDq]
 constructor
 ·rintro ⟨x, hx, hc⟩
  obtain ⟨y, hy, rfl⟩ := QJ.mp hc
  exact ⟨YU _, Y6.mpr (QO.mp hx), YU _, Y6.mpr (QO.mp hy)⟩
 ·rintro ⟨q1, q2, q3, q4⟩
  exact ⟨c.1.toNat, QO.mpr ((Int.toNat_lt q1).mpr q2), QJ.mpr ⟨c.2.toNat, QO.mpr ((Int.toNat_lt q3).mpr q4), Jk (Jx q1) (Jx q3)⟩⟩
theorem zOT (h : Nat) (x : Nat) : Up ((List.range h).map fun (y : Nat) => ((x : Int), (y : Int))) := by
 unfold Up
 rw [Q5]
 refine List.pairwise_lt_range.imp fun {a b} q => ?_
 rw [zCM]
 dsimp only
 lia
theorem zDL (w h : Nat) : Up (cells w h) := by
 unfold Up cells
 rw [List.pairwise_flatMap]
 refine ⟨fun x _ => zOT h x, List.pairwise_lt_range.imp fun {a b} q c hc d hd => ?_⟩
 obtain ⟨y, _, rfl⟩ := QJ.mp hc
 obtain ⟨z, _, rfl⟩ := QJ.mp hd
 rw [zCM]
 dsimp only
 lia
theorem zCZ {l : List C} (h : Up l) (p : C -> Bool) : Up (l.filter p) := List.Pairwise.filter p h
theorem zJD (h : Nat) : ∀ l : List Nat, (l.map fun _ => h).sum = l.length * h
 | [] => by simp
 | _ :: l => by rw [Qo, List.sum_cons, zJD h l, QV, Nat.succ_mul, Nat.add_comm]
theorem zCA (w h : Nat) : (cells w h).length = w * h := by
 unfold cells
 rw [List.length_flatMap]
 simp only [Qj, QR]
 rw [zJD, QR]
end My
namespace My
open PySem PySem.SeqAt L2 DL SD SL EL DC
def zEL (fx fy : Int) : Nat -> Int -> Int -> Option (List C)
 | 0, _, _ => none
 | n + 1, gx, gy => if gx < fx ∨ gy < fy then
   (zEL fx fy n (if (2 * gx + 1) * fy <= (2 * gy + 1) * fx then gx + 1 else gx) (if (2 * gy + 1) * fx <= (2 * gx + 1) * fy then gy + 1 else gy)).bind fun r =>
    some ((if (2 * gx + 1) * fy <= (2 * gy + 1) * fx then gx + 1 else gx, if (2 * gy + 1) * fx <= (2 * gx + 1) * fy then gy + 1 else gy) :: r)
  else some []
def iabs (i : Int) : Int := if i < 0 then -i else i
def sgn (a : Int) : Int := if 0 < a then 1 else -1
def rel (a b : Int) : Option (List C) := (zEL (iabs a) (iabs b) 900 0 0).bind fun st => some ((0, 0) :: st.map fun g => (sgn a * g.1, sgn b * g.2))
def relT (a b : Int) : List C := (rel a b).getD []
def sub (d : C) (g : C) : C := (g.1 - d.1, g.2 - d.2)
def add (d : C) (g : C) : C := (d.1 + g.1, d.2 + g.2)
def eqL : List C -> List C -> Bool
 | [], [] => true
 | a :: l, b :: m => a.1 == b.1 && a.2 == b.2 && eqL l m
 | _, _ => false
theorem zDl : ∀ {l m : List C}, eqL l m = true -> l = m
 | [], [], _ => rfl
 | a :: l, b :: m, h => by
  unfold eqL at h
  simp only [QH, beq_iff_eq] at h
  rw [zDl h.2, Jk h.1.1 h.1.2]
 | [], _ :: _, h => by cases h
 | _ :: _, [], h => by cases h
def chk (a b : Int) : Bool := match rel a b with
 | some ((0, 0) :: st) => decide (st.length <= 8) && eqL (relT (-a) (-b)) ((((0, 0) :: st).reverse).map (sub (a, b))) && eqL (relT (-a) b) (((0, 0) :: st).map fun g => (-g.1, g.2)) && eqL (relT b a) (((0, 0) :: st).map fun g => (g.2, g.1))
   && eqL ((((0, 0) :: st).dropLast ++ [(a, b)])) ((0, 0) :: st) && ((0, 0) :: st).all (fun g => decide (0 <= sgn a * g.1) && decide (sgn a * g.1 <= iabs a) && decide (0 <= sgn b * g.2) && decide (sgn b * g.2 <= iabs b))
 | _ => false
def rng4 : List Int := [-4, -3, -2, -1, 0, 1, 2, 3, 4]
theorem zKy : (rng4.all fun a => rng4.all fun b => chk a b) = true := by decide +kernel
theorem zIu {a : Int} (h : -4 <= a) (h' : a <= 4) : a ∈ rng4 := by
 have k : ∀ n : Fin 9, ((n.val : Int) - 4) ∈ rng4 := by decide
 have e : (((a + 4).toNat : Nat) : Int) - 4 = a := by lia
 have := k ⟨(a + 4).toNat, by lia⟩
 rw [e] at this
 exact this
structure zGv (a b : Int) : Prop where
 some : rel a b = some (relT a b)
 len : (relT a b).length <= 9
 first : ∃ st, relT a b = (0, 0) :: st
 back : relT (-a) (-b) = (relT a b).reverse.map (sub (a, b))
 mir : relT (-a) b = (relT a b).map fun g => (-g.1, g.2)
 flip : relT b a = (relT a b).map fun g => (g.2, g.1)
 last : (relT a b).dropLast ++ [(a, b)] = relT a b
 box : ∀ g ∈ relT a b, 0 <= sgn a * g.1 /\ sgn a * g.1 <= iabs a /\ 0 <= sgn b * g.2 /\ sgn b * g.2 <= iabs b
theorem zMh {a b : Int} (ha : -4 <= a) (ha' : a <= 4) (hb : -4 <= b) (hb' : b <= 4) : zGv a b := by
 have c := QS.mp (QS.mp zKy a (zIu ha ha')) b (zIu hb hb')
 unfold chk at c
 split at c
 ·rename_i st e
  have r : relT a b = (0, 0) :: st := by unfold relT; rw [e]; rfl
  simp only [QH, decide_eq_true_eq] at c
  obtain ⟨⟨⟨⟨⟨c1, c2⟩, c3⟩, c4⟩, c5⟩, c6⟩ := c
  refine ⟨by rw [e, r], by rw [r, QV]; lia, ⟨st, r⟩, by rw [r]; exact zDl c2, by rw [r]; exact zDl c3, by rw [r]; exact zDl c4, by rw [r]; exact zDl c5, fun g hg => ?_⟩
  rw [r] at hg
  have := QS.mp c6 g hg
  simp only [QH, decide_eq_true_eq] at this
  exact ⟨this.1.1.1, this.1.1.2, this.1.2, this.2⟩
 ·cases c
def diag (g h : C) : Bool := !(g.1 == h.1) && !(g.2 == h.2)
def zDB (S : C -> Bool) : List C -> Bool
 | g :: h :: r => (!diag g h || !(S (g.1, h.2) && S (h.1, g.2))) && zDB S (h :: r)
 | _ => true
theorem zNo (S : C -> Bool) (g h : C) (r : List C) : zDB S (g :: h :: r) = ((!diag g h || !(S (g.1, h.2) && S (h.1, g.2))) && zDB S (h :: r)) := rfl
def line (a b : C) : List C := (relT (b.1 - a.1) (b.2 - a.2)).map (add a)
def clear (S : C -> Bool) (a b : C) : Bool := (line a b).dropLast.all (fun c => !S c) && zDB S (line a b)
def seeB (S : C -> Bool) (a b : C) : Bool := !S b && clear S a b
structure Near (a b : C) : Prop where
 x0 : -4 <= b.1 - a.1
 x1 : b.1 - a.1 <= 4
 y0 : -4 <= b.2 - a.2
 y1 : b.2 - a.2 <= 4
theorem Near.ok {a b : C} (n : Near a b) : zGv (b.1 - a.1) (b.2 - a.2) := zMh n.x0 n.x1 n.y0 n.y1
end My
namespace My
open PySem PySem.SeqAt L2 DL SD SL EL DC
def scr (ns : List Int) : D := .list (ns.map PyData.int)
theorem zEc : ∀ ns : List Int, PyData.canLayAll0 (ns.map PyData.int) = true /\ PyData.depthAll (ns.map PyData.int) = 0
 | [] => ⟨rfl, rfl⟩
 | _ :: r => ⟨by simp [PyData.canLayAll0, PyData.canLay0, (zEc r).1], by simp [PyData.depthAll, PyData.depth, (zEc r).2]⟩
theorem zN9 (ns : List Int) : SeqAt.shaped (scr ns) = true := by
 simp [SeqAt.shaped, scr, PyData.canLay0, PyData.depth, (zEc ns).1, (zEc ns).2]
theorem zJ5 {ns : List Int} {i : Int} (h0 : 0 <= i) (h1 : i < ns.length) : ∃ r, dIx (scr ns) (.int i) = some (.int r) := by
 show ∃ r, L2.atI (ns.map PyData.int) i = some (.int r)
 unfold L2.atI L2.ixN
 rw [Qj, if_pos h0, if_pos h1]
 have : i.toNat < ns.length := by lia
 exact ⟨ns[i.toNat], by simp [this]⟩
theorem zKx (ns : List Int) (hn : ns.length <= 63) (k : Int) : ∃ r, zC1 [scr ns, .int k] = some (.int r) := by
 cases ns with
 | nil =>
  have e : dEq (scr []) (.list []) = some (.bool true) := rfl
  have m : dMul (.int 7) (.int k) = some (.int (7 * k)) := zBz (okS (by decide) (by decide))
  exact ⟨7 * k, zAy (zCV (zAU (b := true) rfl (fun _ => zAv (oo rfl rfl m)) fun z => by cases z))⟩
 | cons n ns =>
  have hl : (0 : Int) < ((n :: ns).length : Int) := by rw [QV]; lia
  have e : dEq (scr (n :: ns)) (.list []) = some (.bool false) := by
   unfold dEq
   rw [zN9]
   rfl
  have ln : dLen [scr (n :: ns)] = some (.int ((n :: ns).length : Int)) := by
   show some (PyData.int (((n :: ns).map PyData.int).length : Int)) = _
   rw [Qj]
  obtain ⟨r, hr⟩ := zJ5 (ns := n :: ns) (i := k % ((n :: ns).length : Int)) (Int.emod_nonneg _ (by lia)) (Ji _ hl)
  have hl' : ((n :: ns).length : Int) < 1073741824 := by lia
  generalize ((n :: ns).length : Int) = L at *
  generalize scr (n :: ns) = S at *
  have m1 := zCe (i := k) hl
  have m2 := zFa (i := k) (okD hl hl')
  have m3 : dMul (.int 6553) (.int (k / L)) = some (.int (6553 * (k / L))) := zBz (okS (by decide) (by decide))
  exact ⟨r + 6553 * (k / L), zAy (zAk (zAM (oB (oo rfl rfl e))) (zAv (oo (oo rfl (oo rfl (zAg rfl ln) m1) hr) (oo rfl (oo rfl (zAg rfl ln) m2) m3) rfl)))⟩
def dr (ns : List Int) (k m : Int) : Int := match zAI [scr ns, .int k, .int m] with
 | some (.int r) => r
 | _ => 0
theorem zBm (ns : List Int) (hn : ns.length <= 63) (k m : Int) (hm : 0 < m) : zAI [scr ns, .int k, .int m] = some (.int (dr ns k m)) /\ 0 <= dr ns k m /\ dr ns k m < m := by
 have key : ∃ r, zAI [scr ns, .int k, .int m] = some (.int r) /\ 0 <= r /\ r < m := by
  obtain ⟨c, hc⟩ := zKx ns hn k
  obtain ⟨u, hu⟩ : ∃ u, u = ((c % 2147483563) * 69069 + 104723 * (k + 1)) % 2147483563 := ⟨_, rfl⟩
  have u0 : 0 <= u := by rw [hu]; exact Int.emod_nonneg _ (by decide)
  have u1 : u < 2147483563 := by rw [hu]; exact Ji _ (by decide)
  obtain ⟨v, hv⟩ : ∃ v, v = (u * u + u / 3) % 2147483399 := ⟨_, rfl⟩
  have v0 : 0 <= v := by rw [hv]; exact Int.emod_nonneg _ (by decide)
  have v1 : v < 2147483399 := by rw [hv]; exact Ji _ (by decide)
  have a1 : dMod (.int ((c % 2147483563) * 69069 + 104723 * (k + 1))) (.int 2147483563) = some (.int u) := by rw [hu]; exact zCe (by decide)
  have a0 : dMod (.int c) (.int 2147483563) = some (.int (c % 2147483563)) := zCe (by decide)
  have a2 : dMul (.int (c % 2147483563)) (.int 69069) = some (.int (c % 2147483563 * 69069)) := zBz (okT (by decide) (by decide))
  have a3 : dMul (.int 104723) (.int (k + 1)) = some (.int (104723 * (k + 1))) := zBz (okS (by decide) (by decide))
  have a4 : dMul (.int u) (.int u) = some (.int (u * u)) := zBz (okS (Int.lt_of_lt_of_le (by decide) u0) (Int.lt_trans u1 (by decide)))
  have a5 : ∀ i j : Int, 0 < j -> j < 1073741824 -> zBC (.int i) (.int j) = some (.int (i / j)) := fun i j h h2 => zFa (okD h h2)
  have a6 : dMod (.int (u * u + u / 3)) (.int 2147483399) = some (.int v) := by rw [hv]; exact zCe (by decide)
  have a7 : dMul (.int v) (.int v) = some (.int (v * v)) := zBz (okS (Int.lt_of_lt_of_le (by decide) v0) (Int.lt_trans v1 (by decide)))
  refine ⟨(v * v + v / 7) % 2147483647 / 11 % m, ?_, Int.emod_nonneg _ (Int.ne_of_gt hm), Ji _ hm⟩
  exact zAy (zAk (zAz (oo (oo (oo (oo (zAg rfl hc) rfl a0) rfl a2) (oo rfl rfl a3) rfl) rfl a1)) (zAk (zAz (oo (oo (oo rfl rfl a4) (oo rfl rfl (a5 _ _ (by decide) (by decide))) rfl) rfl a6)) (zAv (oo (oo (oo (oo (oo rfl rfl a7) (oo rfl rfl (a5 _ _ (by decide) (by decide))) rfl) rfl (zCe (by decide))) rfl (a5 _ _ (by decide) (by decide))) rfl (zCe hm)))))
 obtain ⟨r, h1, h2, h3⟩ := key
 have : dr ns k m = r := by unfold dr; rw [h1]
 rw [this]
 exact ⟨h1, h2, h3⟩
def zBV (w h : Nat) (W : C -> Bool) : D := .tuple (((cells w h).filter W).map zAa)
def flD (w h : Nat) (W : C -> Bool) : D := .tuple [.int w, .int h, zBV w h W]
theorem zLl (w h : Nat) (p : Nat -> Nat -> Bool) : ((List.range w).flatMap fun (x : Nat) => ((List.range h).filter (p x)).map fun (y : Nat) => ((x : Int), (y : Int))) = (cells w h).filter fun c => p c.1.toNat c.2.toNat := by
 unfold cells
 rw [List.filter_flatMap]
 congr 1
 funext x
 rw [List.filter_map]
 rfl
theorem zHp {i : Nat} {ga : Rho -> Option D} {ρ : Rho} {ds es : List D} (h1 : ρ[i]? = some (.own ds)) (h2 : ga ρ = some (.list es)) (h3 : ds.length + es.length <= 1000) : sExt i ga ρ = some (.nx (ρ.set i (.own (ds ++ es)))) := by
 unfold sExt
 rw [h1]
 show (ga ρ).bind _ = _
 rw [h2]
 show (if ds.length + es.length <= 1000 then _ else _) = _
 rw [if_pos h3]
theorem zFc {α : Type} (f : Nat -> List α) : ∀ (l : List Nat) (acc : List α), l.foldl (fun a x => a ++ f x) acc = acc ++ l.flatMap f
 | [], acc => by simp
 | x :: l, acc => by rw [Yv, zFc f l, List.flatMap_cons, QM]
theorem zFd {α : Type} (f : Nat -> List α) (g : Nat -> Sl) : ∀ (l : List Nat) (acc : List α) (s : Sl), l.foldl (fun (b : List α × Sl) x => (b.1 ++ f x, g x)) (acc, s) = (l.foldl (fun a x => a ++ f x) acc, l.foldl (fun _ x => g x) s)
 | [], acc, s => rfl
 | x :: l, acc, s => by rw [Yv, Yv, Yv]; exact zFd f g l _ _
def zF1 (q : Int) : Int := if q = 0 then 2 else if q = 1 then 3 else if q = 2 then 3 else if q = 3 then 5 else 9
theorem zNR (q : Int) (h0 : 0 <= q) (h1 : q < 5) : dIx (.list [.int 2, .int 3, .int 3, .int 5, .int 9]) (.int q) = some (.int (zF1 q)) /\ 0 < zF1 q := by
 obtain ⟨n, rfl⟩ := Int.eq_ofNat_of_zero_le h0
 rcases n with _ | _ | _ | _ | _ | n
 ·exact ⟨rfl, by decide⟩
 ·exact ⟨rfl, by decide⟩
 ·exact ⟨rfl, by decide⟩
 ·exact ⟨rfl, by decide⟩
 ·exact ⟨rfl, by decide⟩
 ·exact absurd h1 (by lia)
theorem zLp (ns : List Int) (hn : ns.length <= 63) (at' : Int) (m : Nat) (hm : 0 < m) (hm' : m <= 5) : ∃ (w h : Nat) (W : C -> Bool), zCr [scr ns, .int at', .int m] = some (flD w h W) /\ 1 <= w /\ w <= m /\ 1 <= h /\ h <= m := by
 have mp : (0 : Int) < m := Y6.mpr hm
 obtain ⟨e1, w0, w1⟩ := zBm ns hn at' m mp
 obtain ⟨e2, h0, h1⟩ := zBm ns hn (at' + 1) m mp
 obtain ⟨e3, q0, q1⟩ := zBm ns hn (at' + 2) 5 (by decide)
 obtain ⟨e4, r0⟩ := zNR _ q0 q1
 generalize dr ns at' m = dw at *
 generalize dr ns (at' + 1) m = dh at *
 generalize zF1 (dr ns (at' + 2) 5) = rate at *
 have one : ∀ {x : Int}, 0 <= x -> x < m -> ∃ w : Nat, 1 + x = w /\ 1 <= w /\ w <= m := fun {x} g1 g2 => ⟨(1 + x).toNat, by lia, by lia, by lia⟩
 obtain ⟨w, hw, w2, w3⟩ := one w0 w1
 obtain ⟨h, hh, h2, h3⟩ := one h0 h1
 clear one
 have w5 : w <= 5 := Qx w3 hm'
 have h5 : h <= 5 := Qx h3 hm'
 refine ⟨w, h, fun c => dr ns (at' + 3 + 8 * (c.1.toNat : Int) + (c.2.toNat : Int)) rate == 0, ?_, w2, w3, h2, h3⟩
 refine zAy ?_
 unfold zFi
 rw [show zAB 8 [scr ns, .int at', .int m] = [.dat (scr ns), .dat (.int at'), .dat (.int m), .no, .no, .no, .no, .no] from rfl]
 refine zAk (zAz (d := .int (w : Int)) (oo rfl (zAg rfl e1) (by rw [<- hw]; rfl))) (zAk (zAz (d := .int (h : Int)) (oo rfl (zAg rfl e2) (by rw [<- hh]; rfl))) (zAk (zAz (oo rfl (zAg rfl e3) e4)) (zAk (ρ' := [.dat (scr ns), .dat (.int at'), .dat (.int m), .dat (.int w), .dat (.int h), .dat (.int rate), .own [], .no]) rfl ?_)))
 obtain ⟨f, hf⟩ : ∃ f : Nat -> List C, f = fun (x : Nat) => ((List.range h).filter fun (y : Nat) => dr ns (at' + 3 + 8 * (x : Int) + (y : Int)) rate == 0).map fun (y : Nat) => ((x : Int), (y : Int)) := ⟨_, rfl⟩
 have fl : ∀ x, (f x).length <= 5 := fun x => by
  rw [hf, Qj]
  refine Qx (Q2 _ _) ?_
  rw [QR]; exact h5
 refine zAk (zF8 (n := w) rfl (Yf w5 (by decide)) (zCI (fun (k : Nat) => .int (k : Int)) (fun (b : List C × Sl) => [.dat (scr ns), .dat (.int at'), .dat (.int m), .dat (.int w), .dat (.int h), .dat (.int rate), .own (b.1.map zAa), b.2])
  (fun b x => (b.1 ++ f x, .dat (.int (x : Int)))) (fun i b => b.1.length <= 5 * i) 5 (List.range w) 0 ([], .no) (by rw [QR, Nat.zero_add]; exact w5) (Qh _) fun x hx i b hi hp => ?_)) ?_
 ·obtain ⟨acc, s7⟩ := b
  have hp' : acc.length <= 5 * i := hp
  have hfx := fl x
  refine ⟨⟨[.dat (scr ns), .dat (.int at'), .dat (.int m), .dat (.int w), .dat (.int h), .dat (.int rate), .own (acc.map zAa), .dat (.int (x : Int))], rfl, ?_⟩, by show (acc ++ f x).length <= 5 * (i + 1); rw [Ql]; lia⟩
  refine (zHp (ds := acc.map zAa) (es := (f x).map zAa) rfl ?_ (by rw [Qj, Qj]; lia)).trans ?_
  ·have := zIh (gi := zA0 (zAb (eV 4) eNil)) (s := zAo 0) (t := eB (eOp dEq (zAf zAI (zAb (eV 2) (zAb (eOp zAs (eOp zAs (eOp zAs (eV 4) (eC (.int 3))) (eOp dMul (eC (.int 8)) (eV 1))) (eV 0)) (zAb (eV 3) eNil)))) (eC (.int 0))))
    (ge := eTup (zAb (eV 1) (zAb (eV 0) eNil))) (inner := [none, some 7, some 0, some 5, some 1]) (xs := List.range h) (ρ := [.dat (scr ns), .dat (.int at'), .dat (.int m), .dat (.int w), .dat (.int h), .dat (.int rate), .own (acc.map zAa), .dat (.int (x : Int))])
    (fun (k : Nat) => .int (k : Int)) (fun (y : Nat) => dr ns (at' + 3 + 8 * (x : Int) + (y : Int)) rate == 0) (fun (y : Nat) => zAa ((x : Int), (y : Int)))
    (fun ρ => ∃ s0, ρ = [s0, .dat (.int (x : Int)), .dat (scr ns), .dat (.int rate), .dat (.int at')]) (zEb (n := h) rfl (Yf h5 (by decide))) (by rw [QR]; exact Qx h5 (by decide)) ⟨.no, rfl⟩ (by
     rintro y hy ρ ⟨s0, rfl⟩
     have e := (zBm ns hn (at' + 3 + 8 * (x : Int) + (y : Int)) rate r0).1
     have m8 : dMul (.int 8) (.int (x : Int)) = some (.int (8 * (x : Int))) := zBz (okS (by decide) (by decide))
     exact ⟨[.dat (.int (y : Int)), .dat (.int (x : Int)), .dat (scr ns), .dat (.int rate), .dat (.int at')], rfl, ⟨_, rfl⟩, oB (oo (zAg (zAp rfl (zAp (oo (oo rfl (oo rfl rfl m8) rfl) rfl rfl) rfl)) e) rfl rfl), fun _ => rfl⟩)
   refine this.trans ?_
   rw [hf, Yg]
   rfl
  ·show some (Out.nx _) = some (Out.nx _)
   rw [Ya]
   rfl
 ·refine zAv ?_
  rw [zFd, zFc]
  have ff : (List.range w).flatMap f = (cells w h).filter fun c => dr ns (at' + 3 + 8 * (c.1.toNat : Int) + (c.2.toNat : Int)) rate == 0 := by
   rw [hf]
   exact zLl w h fun x y => dr ns (at' + 3 + 8 * (x : Int) + (y : Int)) rate == 0
  rw [YM, ff]
  rfl
end My
namespace My
open PySem PySem.SeqAt L2 DL SD SL EL DC
theorem zFF : ∀ l : List C, PyData.canLayAll0 (l.map zAa) = true /\ PyData.depthAll (l.map zAa) <= 1
 | [] => ⟨rfl, QU _⟩
 | c :: l => by
  obtain ⟨h1, h2⟩ := zFF l
  refine ⟨by rw [Qo, PyData.canLayAll0, h1]; rfl, ?_⟩
  rw [Qo, PyData.depthAll]
  exact Nat.max_le.mpr ⟨Qh _, h2⟩
theorem zEB (l : List C) : SeqAt.shaped (.list (l.map zAa)) = true := by
 obtain ⟨h1, h2⟩ := zFF l
 have : PyData.depth (.list (l.map zAa)) <= 64 := by show PyData.depthAll (l.map zAa) + 1 <= 64; lia
 simp [SeqAt.shaped, PyData.canLay0, h1, this]
theorem zN8 (l : List C) : SeqAt.shaped (.tuple (l.map zAa)) = true := by
 obtain ⟨h1, h2⟩ := zFF l
 have : PyData.depth (.tuple (l.map zAa)) <= 64 := by show PyData.depthAll (l.map zAa) + 1 <= 64; lia
 simp [SeqAt.shaped, PyData.canLay0, h1, this]
theorem zDH (c : C) : SeqAt.shaped (zAa c) = true := id rfl
theorem zD0 (a b : C) : PyData.eqv (zAa a) (zAa b) = (a == b) := by
 show ((a.1 == b.1) && ((a.2 == b.2) && true)) = _
 rw [Bool.and_true]
 obtain ⟨x, y⟩ := a
 obtain ⟨u, v⟩ := b
 rfl
theorem zE6 : ∀ l m : List C, PyData.eqvAll (l.map zAa) (m.map zAa) = decide (l = m)
 | [], [] => rfl
 | [], _ :: _ => rfl
 | _ :: _, [] => rfl
 | a :: l, b :: m => by
  show (PyData.eqv (zAa a) (zAa b) && PyData.eqvAll (l.map zAa) (m.map zAa)) = _
  rw [zE6 l m, zD0]
  by_cases h1 : a = b <;> by_cases h2 : l = m <;> simp [h1, h2]
theorem eq_Ls (l m : List C) : dEq (.list (l.map zAa)) (.list (m.map zAa)) = some (.bool (decide (l = m))) := by
 unfold dEq
 rw [zEB, zEB]
 show some (PyData.bool (PyData.eqvAll (l.map zAa) (m.map zAa))) = _
 rw [zE6]
theorem zIx (l m : List C) : dNe (.list (l.map zAa)) (.list (m.map zAa)) = some (.bool (!decide (l = m))) := by
 unfold dNe
 rw [zEB, zEB]
 show some (PyData.bool (!PyData.eqvAll (l.map zAa) (m.map zAa))) = _
 rw [zE6]
theorem any_c (l : List C) (c : C) : ((l.map zAa).any fun y => PyData.eqv y (zAa c)) = l.contains c := by
 induction l with
 | nil => rfl
 | cons a l ih => rw [Qo, Jm, ih, zD0, List.contains_cons, Bool.beq_comm]
theorem in_T (neg : Bool) (c : C) (l : List C) : dIn neg (zAa c) (.tuple (l.map zAa)) = some (.bool (if neg then !l.contains c else l.contains c)) := by
 show (if (SeqAt.shaped (zAa c) && SeqAt.shaped (.tuple (l.map zAa))) = true then _ else _) = _
 rw [zDH, zN8, Bool.and_self, if_pos rfl, any_c]
def sol (w h : Nat) (W : C -> Bool) (c : C) : Bool := inR w h c && W c
theorem zFy (w h : Nat) (W : C -> Bool) (c : C) : ((cells w h).filter W).contains c = sol w h W c := by
 rw [YN, QA, QY, zBI]
 unfold sol
 rw [QH]
theorem in_W (neg : Bool) (c : C) (w h : Nat) (W : C -> Bool) : dIn neg (zAa c) (zBV w h W) = some (.bool (if neg then !sol w h W c else sol w h W c)) := by
 unfold zBV
 rw [in_T, zFy]
theorem zJV (i : Int) : zCv [.int i] = some (.bool true) := zAy (zAv rfl)
theorem zKD (c : C) : zC9 [zAa c] = some (.bool true) := zAy (zAk (zAM rfl) (zAv (oAV (zAg rfl (zJV c.1)) (zAg rfl (zJV c.2)))))
theorem zKw (w h : Nat) (W : C -> Bool) (c : C) : zC7 [flD w h W, zAa c] = some (.bool (inR w h c)) := by
 refine zAy (zAk (zAM (oN (oB (zAg rfl (zKD c))))) (zAv ?_))
 show ((if decide (0 <= c.1) = true then some (PyData.bool (decide (c.1 < w))) else some (.bool false)).bind fun x => (asB x).bind fun k => if k = true then (if decide (0 <= c.2) = true then some (PyData.bool (decide (c.2 < h))) else some (.bool false)) else some (.bool false)) = _
 unfold inR
 cases decide (0 <= c.1) <;> cases decide (c.1 < w) <;> cases decide (0 <= c.2) <;> cases decide (c.2 < h) <;> rfl
theorem zF3 {w h : Nat} {W : C -> Bool} {c : C} (hc : inR w h c = true) : zBM [flD w h W, zAa c] = some .none := by
 have q := zKw w h W c
 rw [hc] at q
 exact zHy (zAM (oN (oB (zAg rfl q))))
theorem zOf {w h : Nat} {W : C -> Bool} {c : C} (hc : inR w h c = true) : zC8 [flD w h W, zAa c] = some (.bool (W c)) := by
 have q := in_W false c w h W
 unfold sol at q
 rw [hc, Bool.true_and] at q
 exact zAy (zAk (zCU (zAg rfl (zF3 hc))) (zAv (oo rfl rfl q)))
theorem zFV {w h : Nat} {W : C -> Bool} {c : C} (hc : inR w h c = true) (ho : W c = false) : zBL [flD w h W, zAa c] = some .none := by
 have q := zOf (W := W) hc
 rw [ho] at q
 exact zHy (zAM (oB (zAg rfl q)))
end My
namespace My
open PySem PySem.SeqAt L2 DL SD SL EL DC
theorem zNP (w h : Nat) (hh : 0 < h) : ((List.range (w * h)).map fun (i : Nat) => (((i / h : Nat) : Int), ((i % h : Nat) : Int))) = cells w h := by
 refine zGn ?_ (zDL w h) fun c => ?_
 ·unfold Up
  rw [Q5]
  refine List.pairwise_lt_range.imp fun {a b} q => ?_
  rw [zCM]
  dsimp only
  have h1 : a / h <= b / h := Nat.div_le_div_right (YA q)
  rcases Nat.lt_or_eq_of_le h1 with h2 | h2
  ·exact .inl (Y6.mpr h2)
  ·right
   have ea := Nat.div_add_mod a h
   have eb := Nat.div_add_mod b h
   rw [h2] at ea
   exact ⟨by rw [h2], Y6.mpr (by lia)⟩
 ·rw [zBI, zDq, QJ]
  constructor
  ·rintro ⟨i, hi, rfl⟩
   have := QO.mp hi
   have h1 : i / h < w := (Nat.div_lt_iff_lt_mul hh).mpr this
   have h2 : i % h < h := Nat.mod_lt _ hh
   exact ⟨YU _, Y6.mpr h1, YU _, Y6.mpr h2⟩
  ·rintro ⟨q1, q2, q3, q4⟩
   refine ⟨c.1.toNat * h + c.2.toNat, QO.mpr ?_, ?_⟩
   ·have this : c.1.toNat + 1 <= w := (Int.toNat_lt q1).mpr q2
    have h3 := Nat.mul_le_mul_right h this
    rw [Nat.succ_mul] at h3
    exact QB (Nat.add_lt_add_left ((Int.toNat_lt q3).mpr q4) _) h3
   ·have h2 : c.2.toNat < h := (Int.toNat_lt q3).mpr q4
    have d : (c.1.toNat * h + c.2.toNat) / h = c.1.toNat := by
     rw [Nat.mul_comm, Nat.mul_add_div hh, Nat.div_eq_of_lt h2, Nat.add_zero]
    have m : (c.1.toNat * h + c.2.toNat) % h = c.2.toNat := by
     rw [Nat.mul_comm, Nat.mul_add_mod, Nat.mod_eq_of_lt h2]
    rw [d, m]
    exact Jk (Jx q1) (Jx q3)
theorem zL9 {w h : Nat} {W : C -> Bool} (hw : w <= 5) (hh : 0 < h) (hh' : h <= 5) : zC2 [flD w h W] = some (.list ((cells w h).map zAa)) := by
 have hwh : w * h <= 25 := Jf hw hh'
 have m : dMul (.int w) (.int h) = some (.int ((w * h : Nat) : Int)) := by rw [zBz (okS (Int.lt_of_lt_of_le (by decide) (YU _)) (Int.lt_of_le_of_lt (Int.ofNat_le.mpr hw) (by decide)))]; rfl
 refine zAy (zAv (zBq (xs := List.range (w * h)) (fun (k : Nat) => .int (k : Int)) (fun _ => true) (fun (i : Nat) => zAa (((i / h : Nat) : Int), ((i % h : Nat) : Int))) (fun ρ => ∃ s0, ρ = [s0, .dat (flD w h W)]) (zEb (n := w * h) ?_ (Yf hwh (by decide))) (by rw [QR]; exact Qx hwh (by decide)) ⟨_, rfl⟩ ?_ ?_))
 ·exact zAp (oo rfl rfl m) rfl
 ·rintro i _ ρ ⟨s0, rfl⟩
  have d : zBC (.int (i : Int)) (.int h) = some (.int ((i / h : Nat) : Int)) := by rw [zFa (okD (Y6.mpr hh) (Int.lt_of_le_of_lt (Int.ofNat_le.mpr hh') (by decide)))]; rfl
  have q : dMod (.int (i : Int)) (.int h) = some (.int ((i % h : Nat) : Int)) := by rw [zCe (Y6.mpr hh)]; rfl
  exact ⟨[.dat (.int (i : Int)), .dat (flD w h W)], rfl, ⟨_, rfl⟩, rfl, fun _ => oT2 (oo rfl rfl d) (oo rfl rfl q)⟩
 ·rw [zDn, <- zNP w h hh, Yg]
  rfl
theorem zJZ {w h : Nat} {W : C -> Bool} (hw : w <= 5) (hh' : h <= 5) : zC5 [flD w h W] = some (.list ((cells w h).map zAa)) := by
 obtain ⟨f, hf⟩ : ∃ f : Nat -> List C, f = fun (x : Nat) => (List.range h).map fun (y : Nat) => ((x : Int), (y : Int)) := ⟨_, rfl⟩
 refine zAy ?_
 unfold zFm
 rw [show zAB 3 [flD w h W] = [.dat (flD w h W), .no, .no] from rfl]
 refine zAk (ρ' := [.dat (flD w h W), .own [], .no]) rfl ?_
 refine zAk (zF8 (n := w) rfl (Yf hw (by decide)) (zCI (fun (k : Nat) => .int (k : Int)) (fun (b : List C × Sl) => [.dat (flD w h W), .own (b.1.map zAa), b.2])
  (fun b x => (b.1 ++ f x, .dat (.int (x : Int)))) (fun i b => b.1.length <= 5 * i) 5 (List.range w) 0 ([], .no) (by rw [QR, Nat.zero_add]; exact hw) (Qh _) fun x hx i b hi hp => ?_)) ?_
 ·obtain ⟨acc, s7⟩ := b
  have hp' : acc.length <= 5 * i := hp
  have hfx : (f x).length <= 5 := by rw [hf, Qj, QR]; exact hh'
  refine ⟨⟨[.dat (flD w h W), .own (acc.map zAa), .dat (.int (x : Int))], rfl, ?_⟩, by show (acc ++ f x).length <= 5 * (i + 1); rw [Ql]; exact Nat.add_le_add hp' hfx⟩
  refine (zHp (ds := acc.map zAa) (es := (f x).map zAa) rfl (zBq (xs := List.range h) (fun (k : Nat) => .int (k : Int)) (fun _ => true) (fun (y : Nat) => zAa ((x : Int), (y : Int))) (fun ρ => ∃ s0, ρ = [s0, .dat (.int (x : Int))]) (zEb (n := h) rfl (Yf hh' (by decide))) (by rw [QR]; exact Qx hh' (by decide)) ⟨.no, rfl⟩ ?_ ?_) (by rw [Qj, Qj]; lia)).trans ?_
  ·rintro y hy ρ ⟨s0, rfl⟩
   exact ⟨[.dat (.int (y : Int)), .dat (.int (x : Int))], rfl, ⟨_, rfl⟩, rfl, fun _ => rfl⟩
  ·rw [zDn, hf, Yg]
   rfl
  ·show some (Out.nx _) = some (Out.nx _)
   rw [Ya]
   rfl
 ·refine zAv ?_
  rw [zFd, zFc, YM, hf]
  rfl
theorem zF5 : ∀ l : List C, zCT (l.map zAa) = some (l.map row)
 | [] => rfl
 | c :: l => by
  show (zBy [.int c.1, .int c.2]).bind (fun is => (zCT (l.map zAa)).bind fun rs => some (is :: rs)) = _
  rw [zF5 l]
  rfl
theorem zCn {a b : C} (q : row a = row b) : a = b := by
 unfold row at q
 injection q with q1 q2
 injection q2 with q2 _
 exact Jk q1 q2
theorem zMC {l : List C} (h : l.Nodup) : (l.map row).Nodup := by
 rw [List.Nodup, Q5]
 exact h.imp fun {a b} q r => q (zCn r)
theorem zLv (l : List C) (c : C) : (l.map row).contains (row c) = l.contains c := by
 rw [YN, QA, QA, QJ]
 constructor
 ·rintro ⟨d, hd, e⟩; rw [<- zCn e]; exact hd
 ·intro h; exact ⟨c, h, rfl⟩
theorem zFU {w h : Nat} {W : C -> Bool} (hw : w <= 5) (hh' : h <= 5) : zAY [flD w h W] = some (.list (((cells w h).filter fun c => !W c).map zAa)) := by
 have hwh : (cells w h).length <= 25 := by rw [zCA]; exact Jf hw hh'
 have lf := Q2 W (cells w h)
 have lg := Q2 (fun c => !W c) (cells w h)
 have s1 : setD [.list ((cells w h).map zAa)] = some ((cells w h).map row) := by
  show (if _ then _ else _) = _
  rw [if_pos (by rw [Qj]; lia), zF5]
 have s2 : setD [zBV w h W] = some (((cells w h).filter W).map row) := by
  show (if _ then _ else _) = _
  rw [if_pos (by rw [Qj]; lia), zF5]
 have fe : ((cells w h).map row).filter (fun k => !(((cells w h).filter W).map row).contains k) = ((cells w h).filter fun c => !W c).map row := by
  rw [List.filter_map]
  congr 1
  refine Jp fun c hc => ?_
  show (!(((cells w h).filter W).map row).contains (row c)) = _
  rw [zLv, zFy]
  unfold sol
  rw [zBI.mp hc, Bool.true_and]
 have up := zCZ (zDL w h) fun c => !W c
 refine zAy (zAv ?_)
 unfold zE5 zE4 eSet
 rw [zAp (zAg rfl (zJZ (W := W) hw hh')) rfl, Qi, s1, Qi, show zAb (eOp dIx (eV 0) (eC (.int 2))) eNil (List.map frz (zAB 1 [flD w h W])) = some [zBV w h W] from rfl, Qi, s2, Qi]
 rw [if_pos (by rw [Qj]; lia), Qi, fe, zG0 _ (zMC (zCp up)), zF6]
 exact zOl (zCp up) (by lia) up fun c => Iff.rfl
def mkD (l : List C) : D := .dict (l.map fun c => (zAa c, .bool true))
theorem zBD (c : C) : decT (zAa c) = some (row c) := id rfl
theorem zHZ (l : List C) (c : C) : hasD (l.map fun c => (zAa c, PyData.bool true)) (row c) = l.contains c := by
 unfold hasD
 rw [List.any_map]
 induction l with
 | nil => rfl
 | cons a l ih =>
  rw [Jm, ih, List.contains_cons]
  congr 1
  show (decT (zAa a) == some (row c)) = _
  rw [zBD, YN, beq_iff_eq, beq_iff_eq]
  constructor
  ·intro q; exact (zCn (QG q)).symm
  ·intro q; rw [q]
theorem zLm (l : List C) : zAG (l.map fun c => (zAa c, PyData.bool true)) = true := by
 unfold zAG
 rw [List.all_map, QS]
 intro c _
 rfl
theorem zD7 (neg : Bool) (c : C) (l : List C) : dIn2 neg (zAa c) (mkD l) = some (.bool (if neg then !l.contains c else l.contains c)) := by
 show (decT (zAa c)).bind (fun k => if zAG (l.map fun c => (zAa c, PyData.bool true)) = true then some (PyData.bool (if neg then !hasD (l.map fun c => (zAa c, PyData.bool true)) k else hasD (l.map fun c => (zAa c, PyData.bool true)) k)) else none) = _
 rw [zBD, Qi, zLm, if_pos rfl, zHZ]
theorem zIO : ∀ l : List C, zBJ (l.map fun c => PyData.tuple [zAa c, .bool true]) = some (l.map fun c => (row c, .bool true))
 | [] => rfl
 | c :: l => by
  show (zDA (.tuple [zAa c, .bool true])).bind (fun p => (zBJ (l.map fun c => PyData.tuple [zAa c, .bool true])).bind fun ps => some (p :: ps)) = _
  rw [zIO l]
  rfl
theorem zNI (l : List C) (c : C) (h : c ∉ l) : putD (l.map fun c => (zAa c, PyData.bool true)) (row c) (.bool true) = (l ++ [c]).map fun c => (zAa c, PyData.bool true) := by
 unfold putD
 rw [zHZ, if_neg (by rw [QA]; exact h), Ya]
 rfl
theorem zG8 : ∀ (l acc : List C), (acc ++ l).Nodup -> (l.map fun c => (row c, PyData.bool true)).foldl (fun kvs p => putD kvs p.1 p.2) (acc.map fun c => (zAa c, PyData.bool true)) = (acc ++ l).map fun c => (zAa c, PyData.bool true)
 | [], acc, _ => by rw [QW]; rfl
 | c :: l, acc, h => by
  have hc : c ∉ acc := by
   rw [List.nodup_append] at h
   exact fun q => h.2.2 c q c Qf rfl
  rw [Qo, Yv]
  show (l.map _).foldl _ (putD _ (row c) (.bool true)) = _
  rw [zNI acc c hc, zG8 l (acc ++ [c]) (by rw [QM]; exact h), QM]
  rfl
theorem zFK {l : List C} {d : D} (hd : seqD d = some (l.map zAa)) (hl : l.length <= 1000) (hn : l.Nodup) : zAV [d] = some (mkD l) := by
 refine zAy (zAv (zAg (ds := [.list (l.map fun c => PyData.tuple [zAa c, .bool true])]) ?_ ?_))
 ·have lc := zBq (gi := iSeq (eV 0)) (s := zAo 0) (t := eT) (ge := eTup (zAb (eV 0) (zAb (eC (.bool true)) eNil))) (inner := [none]) (ρ := (zAB 1 [d]).map frz) (xs := l) zAa (fun _ => true) (fun c => PyData.tuple [zAa c, .bool true]) (fun ρ => ∃ s0, ρ = [s0]) (zA1 rfl hd) hl ⟨_, rfl⟩ (by
   rintro c _ ρ ⟨s0, rfl⟩
   exact ⟨[.dat (zAa c)], rfl, ⟨_, rfl⟩, rfl, fun _ => rfl⟩) (by rw [zDn])
  exact zAp lc rfl
 ·show (if _ then _ else _) = _
  rw [if_pos (by rw [Qj]; exact hl), zIO, Qi]
  have := zG8 l [] (by simpa using hn)
  rw [YM] at this
  unfold zB7 mkD
  rw [<- this]
  rfl
theorem zIq {w h : Nat} {W : C -> Bool} (hw : w <= 5) (hh' : h <= 5) : zAV [zBV w h W] = some (mkD ((cells w h).filter W)) := by
 have hwh : (cells w h).length <= 25 := by rw [zCA]; exact Jf hw hh'
 have lf := Q2 W (cells w h)
 exact zFK rfl (by lia) (zCp (zCZ (zDL w h) W))
def solD (w h : Nat) (W : C -> Bool) : D := mkD ((cells w h).filter W)
theorem zH2 (neg : Bool) (c : C) (w h : Nat) (W : C -> Bool) : dIn2 neg (zAa c) (solD w h W) = some (.bool (if neg then !sol w h W c else sol w h W c)) := by
 unfold solD
 rw [zD7, zFy]
end My
namespace My
open PySem PySem.SeqAt L2 DL SD SL EL DC
structure WS where
 gx : Int
 gy : Int
 cs : List C
 s9 : Sl
 s10 : Sl
def envC (a b : C) (fx fy wx wy : Int) (s : WS) : Rho := [.dat (zAa a), .dat (zAa b), .dat (.int fx), .dat (.int fy), .dat (.int wx), .dat (.int wy), .dat (.int s.gx), .dat (.int s.gy), .own (s.cs.map zAa), s.s9, s.s10]
def zDR (fx fy : Int) (s : WS) : Bool := decide (s.gx < fx) || decide (s.gy < fy)
def nxX (fx fy : Int) (s : WS) : Int := if (2 * s.gx + 1) * fy <= (2 * s.gy + 1) * fx then s.gx + 1 else s.gx
def nxY (fx fy : Int) (s : WS) : Int := if (2 * s.gy + 1) * fx <= (2 * s.gx + 1) * fy then s.gy + 1 else s.gy
def zEH (a : C) (fx fy wx wy : Int) (s : WS) : WS := ⟨nxX fx fy s, nxY fx fy s, s.cs ++ [(a.1 + wx * nxX fx fy s, a.2 + wy * nxY fx fy s)], .dat (.int ((2 * s.gx + 1) * fy)), .dat (.int ((2 * s.gy + 1) * fx))⟩
theorem zIa (a : C) (fx fy wx wy : Int) : ∀ (n : Nat) (s : WS) (st : List C), zEL fx fy n s.gx s.gy = some st -> ∃ s', zDs (zDR fx fy) (zEH a fx fy wx wy) n s = some s' /\ s'.cs = s.cs ++ st.map fun g => (a.1 + wx * g.1, a.2 + wy * g.2)
 | 0, _, _, h => by cases h
 | n + 1, s, st, h => by
  unfold zEL at h
  unfold zDs
  by_cases c : s.gx < fx ∨ s.gy < fy
  ·rw [if_pos c] at h
   obtain ⟨r, e, h⟩ := bnd h
   cases h
   rw [if_pos (by unfold zDR; rw [Bool.or_eq_true, decide_eq_true_eq, decide_eq_true_eq]; exact c)]
   obtain ⟨s', e1, e2⟩ := zIa a fx fy wx wy n (zEH a fx fy wx wy s) r e
   refine ⟨s', e1, ?_⟩
   rw [e2]
   show (s.cs ++ [_]) ++ _ = _
   rw [QM]
   rfl
  ·rw [if_neg c] at h
   cases h
   rw [if_neg (by unfold zDR; rw [Bool.or_eq_true, decide_eq_true_eq, decide_eq_true_eq]; exact c)]
   exact ⟨s, rfl, by simp⟩
theorem zKE {a b : C} (n : Near a b) : zC6 [zAa a, zAa b] = some (.list ((line a b).map zAa)) := by
 have O := n.ok
 obtain ⟨st, e, h⟩ := bnd O.some
 have sg : ∀ x, -100 < sgn x /\ sgn x < 100 := fun x => by unfold sgn; split <;> decide
 have sa := sg (b.1 - a.1)
 have sb := sg (b.2 - a.2)
 clear sg
 obtain ⟨n1, n2, n3, n4⟩ := n
 have ab : ∀ x, -4 <= x -> x <= 4 -> 0 <= iabs x /\ iabs x < 100 := fun x h h2 => by unfold iabs; split <;> lia
 have ia := ab _ n1 n2
 have ib := ab _ n3 n4
 clear ab
 have hlen : st.length <= 8 := by
  have := O.len
  rw [<- QG h, QV, Qj] at this
  lia
 have ii : ∀ x y : Int, (if decide (x < y) = true then some (PyData.int 1) else some (.int (-1))) = some (.int (sgn (y - x))) := fun x y => by
  unfold sgn
  by_cases c : x < y
  ·rw [if_pos (decide_eq_true c), if_pos (by lia)]
  ·rw [if_neg (by simpa using c), if_neg (by lia)]
 have i1 := ii a.1 b.1
 have i2 := ii a.2 b.2
 clear ii
 obtain ⟨s', it, cs'⟩ := zIa a (iabs (b.1 - a.1)) (iabs (b.2 - a.2)) (sgn (b.1 - a.1)) (sgn (b.2 - a.2)) 900 ⟨0, 0, [a], .no, .no⟩ st e
 have hline : line a b = s'.cs := by
  rw [cs']
  unfold line
  rw [<- QG h, Qo, Yg]
  show _ :: _ = _ :: _
  congr 1
  exact Jk (by show a.1 + 0 = a.1; lia) (by show a.2 + 0 = a.2; lia)
 rw [hline]
 refine zAy ?_
 unfold zFo
 refine zAk (zAz (d := .int (iabs (b.1 - a.1))) rfl) (zAk (zAz (d := .int (iabs (b.2 - a.2))) rfl) (zAk (zAz i1) (zAk (zAz i2) (zAk (zAz rfl) (zAk (zAz rfl) (zAk (ρ' := envC a b (iabs (b.1 - a.1)) (iabs (b.2 - a.2)) (sgn (b.1 - a.1)) (sgn (b.2 - a.2)) ⟨0, 0, [a], .no, .no⟩) rfl ?_))))))
 generalize iabs (b.1 - a.1) = fx at *
 generalize iabs (b.2 - a.2) = fy at *
 generalize sgn (b.1 - a.1) = wx at *
 generalize sgn (b.2 - a.2) = wy at *
 clear i1 i2
 have mS : ∀ k, -100 < k /\ k < 100 -> ∀ i : Int, dMul (.int k) (.int i) = some (.int (k * i)) := fun k h i => zBz (okS (by lia) (by lia))
 have mT : ∀ k, 0 <= k /\ k < 100 -> ∀ i : Int, dMul (.int i) (.int k) = some (.int (i * k)) := fun k h i => zBz (okT (by lia) (by lia))
 refine zAk (zJU (envC a b fx fy wx wy) (zDR fx fy) (zEH a fx fy wx wy) (fun n s => s.cs.length + n <= 901) (fun n s hp => ?_) (fun n s hp hc => ⟨?_, ?_⟩) 900 ⟨0, 0, [a], .no, .no⟩ s' (by show 1 + 900 <= 901; decide) it) (zAv rfl)
 ·show (if decide (s.gx < fx) = true then some true else some (decide (s.gy < fy))) = some (decide (s.gx < fx) || decide (s.gy < fy))
  cases decide (s.gx < fx) <;> rfl
 ·have hl : (s.cs.map zAa).length < 1000 := by rw [Qj]; lia
  refine zAk (zAz (oo (oo (oo rfl rfl (mS 2 (by decide) s.gx)) rfl rfl) rfl (mT fy ib _))) (zAk (zAz (oo (oo (oo rfl rfl (mS 2 (by decide) s.gy)) rfl rfl) rfl (mT fx ia _))) ?_)
  refine zAk (ρ' := [.dat (zAa a), .dat (zAa b), .dat (.int fx), .dat (.int fy), .dat (.int wx), .dat (.int wy), .dat (.int (nxX fx fy s)), .dat (.int s.gy), .own (s.cs.map zAa), .dat (.int ((2 * s.gx + 1) * fy)), .dat (.int ((2 * s.gy + 1) * fx))]) ?_ ?_
  ·unfold nxX
   by_cases c : (2 * s.gx + 1) * fy <= (2 * s.gy + 1) * fx
   ·rw [if_pos c]
    exact zAU (b := true) (congrArg some (decide_eq_true c)) (fun _ => rfl) fun z => by cases z
   ·rw [if_neg c]
    exact zAM (congrArg some (decide_eq_false c))
  refine zAk (ρ' := [.dat (zAa a), .dat (zAa b), .dat (.int fx), .dat (.int fy), .dat (.int wx), .dat (.int wy), .dat (.int (nxX fx fy s)), .dat (.int (nxY fx fy s)), .own (s.cs.map zAa), .dat (.int ((2 * s.gx + 1) * fy)), .dat (.int ((2 * s.gy + 1) * fx))]) ?_ ?_
  ·unfold nxY
   by_cases c : (2 * s.gy + 1) * fx <= (2 * s.gx + 1) * fy
   ·rw [if_pos c]
    exact zAU (b := true) (congrArg some (decide_eq_true c)) (fun _ => rfl) fun z => by cases z
   ·rw [if_neg c]
    exact zAM (congrArg some (decide_eq_false c))
  refine (zEu (ds := s.cs.map zAa) (d := zAa (a.1 + wx * nxX fx fy s, a.2 + wy * nxY fx fy s)) rfl ?_ hl).trans ?_
  ·unfold eTup
   rw [zAp (oo rfl (oo rfl rfl (mS wx sa _)) rfl) (zAp (oo rfl (oo rfl rfl (mS wy sb _)) rfl) rfl)]
   rfl
  ·unfold envC zEH
   rw [Ya]
   rfl
 ·show (s.cs ++ [_]).length + n <= 901
  rw [Ql, QT]
  lia
end My
namespace My
open PySem PySem.SeqAt L2 DL SD SL EL DC
abbrev Cp := C × C
def cpD (p : Cp) : D := .tuple [zAa p.1, zAa p.2]
def two (p q : C) : Cp := if ltC q p = true then (q, p) else (p, q)
def pinC (p : Cp) : Cp := two (p.1.1, p.2.2) (p.2.1, p.1.2)
def prs (l : List C) : List Cp := ((l.zip l.tail).filter fun p => diag p.1 p.2).map pinC
theorem zOO (S : C -> Bool) (p q : C) : (S (two p q).1 && S (two p q).2) = (S p && S q) := by
 unfold two
 split
 ·exact Bool.and_comm _ _
 ·rfl
theorem zI4 (S : C -> Bool) : ∀ l : List C, (prs l).all (fun p => !(S p.1 && S p.2)) = zDB S l
 | [] => rfl
 | [a] => rfl
 | a :: b :: l => by
  have ih := zI4 S (b :: l)
  unfold prs at ih ⊢
  rw [zNo]
  show ((((a, b) :: (b :: l).zip (b :: l).tail).filter fun p => diag p.1 p.2).map pinC).all _ = _
  rw [Jg]
  dsimp only
  cases diag a b with
  | true =>
   rw [if_pos rfl, Qo, List.all_cons, ih]
   congr 1
   show (!(S (two (a.1, b.2) (b.1, a.2)).1 && S (two (a.1, b.2) (b.1, a.2)).2)) = _
   rw [zOO]
   rfl
  | false => rw [if_neg Qw, ih]; rfl
theorem zOk (p q : C) : zB5 [.list [zAa p, zAa q]] = some (.list [zAa (two p q).1, zAa (two p q).2]) := by
 have := zDJ (l := [row p, row q]) (by intro k hk; rcases Qk.mp hk with rfl | hk; rfl; rcases Qk.mp hk with rfl | hk; rfl; cases hk) (by show 2 <= 63; decide)
 refine this.trans ?_
 show some (PyData.list ((if HT.lexLt (row q) (row p) = true then [row q, row p] else [row p, row q]).map tupI)) = _
 unfold two ltC
 split <;> rfl
theorem zJW : ∀ l m : List C, List.zipWith (fun x y => PyData.tuple [x, y]) (l.map zAa) (m.map zAa) = (l.zip m).map cpD
 | [], _ => rfl
 | _ :: _, [] => rfl
 | a :: l, b :: m => by rw [Qo, Qo, List.zipWith_cons_cons, zJW l m]; rfl
theorem zKH (l : List C) : cutD (l.map zAa) (some 1) none = l.tail.map zAa := by
 cases l with
 | nil => rfl
 | cons a l =>
  unfold DL.cutD
  have e1 : HT.sIx ((a :: l).map zAa).length 0 (some 1) = 1 := by
   have := HT.sIx_nat ((a :: l).map zAa).length 0 1
   rw [show ((1 : Nat) : Int) = 1 from rfl] at this
   rw [this, Qj, QV]
   lia
  rw [e1, HT.sIx_none]
  simp
  exact List.take_of_length_le (by simp)
theorem zKG (l : List C) : cutD (l.map zAa) none (some (-1)) = l.dropLast.map zAa := by
 unfold DL.cutD
 rw [HT.sIx_none]
 have e1 : HT.sIx (l.map zAa).length (l.map zAa).length (some (-1)) = l.length - 1 := by
  unfold HT.sIx
  simp
  lia
 rw [e1, List.drop_zero, Nat.sub_zero, List.dropLast_eq_take, List.map_take]
theorem zKa (l : List C) (hl : l.length <= 500) : zCt [.list (l.map zAa)] = some (.list ((prs l).map cpD)) := by
 have hz : (l.zip l.tail).length <= 500 := by rw [List.length_zip]; lia
 refine zAy ?_
 unfold zFn
 rw [show zAB 4 [.list (l.map zAa)] = [.dat (.list (l.map zAa)), .no, .no, .no] from rfl]
 refine zAk (ρ' := [.dat (.list (l.map zAa)), .own [], .no, .no]) rfl ?_
 have it : iZip (zAb (eV 0) (zAb (eSl2 (eV 0) (oE (eC (.int 1))) oNo) eNil)) [.dat (.list (l.map zAa)), .own [], .no, .no] = some ((l.zip l.tail).map cpD) := by
  show some (List.zipWith (fun x y => PyData.tuple [x, y]) (l.map zAa) (cutD (l.map zAa) (some 1) none)) = _
  rw [zKH, zJW]
 refine zAk (zA9 it (zCI cpD (fun (b : List Cp × Sl × Sl) => [.dat (.list (l.map zAa)), .own (b.1.map cpD), b.2.1, b.2.2]) (fun b p => (if diag p.1 p.2 = true then b.1 ++ [pinC p] else b.1, .dat (zAa p.1), .dat (zAa p.2))) (fun i b => b.1.length <= i) 500 (l.zip l.tail) 0 ([], .no, .no) (by lia) (Qh _) fun p _ i b hi hp => ?_)) ?_
 ·obtain ⟨acc, s2, s3⟩ := b
  have hp' : acc.length <= i := hp
  have hlt : (acc.map cpD).length < 1000 := by rw [Qj]; lia
  refine ⟨⟨[.dat (.list (l.map zAa)), .own (acc.map cpD), .dat (zAa p.1), .dat (zAa p.2)], rfl, ?_⟩, ?_⟩
  ·have t : eAnd (eB (eOp dNe (eOp dIx (eV 2) (eC (.int 0))) (eOp dIx (eV 3) (eC (.int 0))))) (eB (eOp dNe (eOp dIx (eV 2) (eC (.int 1))) (eOp dIx (eV 3) (eC (.int 1))))) [.dat (.list (l.map zAa)), .dat (.list (acc.map cpD)), .dat (zAa p.1), .dat (zAa p.2)] = some (diag p.1 p.2) := by
    show (if (!(p.1.1 == p.2.1)) = true then some (!(p.1.2 == p.2.2)) else some false) = some (!(p.1.1 == p.2.1) && !(p.1.2 == p.2.2))
    cases p.1.1 == p.2.1 <;> rfl
   dsimp only
   cases q : diag p.1 p.2 with
   | true =>
    rw [q] at t
    refine (zAU (b := true) t (fun _ => zEu (ds := acc.map cpD) (d := cpD (pinC p)) rfl (zAg (zAp (zAg rfl (zOk (p.1.1, p.2.2) (p.2.1, p.1.2))) rfl) rfl) hlt) fun z => by cases z).trans ?_
    rw [if_pos rfl, Ya]
    rfl
   | false =>
    rw [q] at t
    exact zAM t
  ·show (if diag p.1 p.2 = true then acc ++ [pinC p] else acc).length <= i + 1
   split
   ·rw [Ql, QT]; lia
   ·lia
 ·have fold : ∀ (zs : List Cp) (b : List Cp × Sl × Sl), (zs.foldl (fun (b : List Cp × Sl × Sl) p => (if diag p.1 p.2 = true then b.1 ++ [pinC p] else b.1, Sl.dat (zAa p.1), Sl.dat (zAa p.2))) b).1 = b.1 ++ (zs.filter fun p => diag p.1 p.2).map pinC := by
   intro zs
   induction zs with
   | nil => intro b; simp
   | cons z zs ih =>
    intro b
    rw [Yv, ih, Jg]
    dsimp only
    cases diag z.1 z.2 with
    | true => rw [if_pos rfl, if_pos rfl, Qo, QM]; rfl
    | false => rw [if_neg Qw, if_neg Qw]
  refine zAv ?_
  show some (PyData.list (((l.zip l.tail).foldl (fun (b : List Cp × Sl × Sl) p => (if diag p.1 p.2 = true then b.1 ++ [pinC p] else b.1, Sl.dat (zAa p.1), Sl.dat (zAa p.2))) ([], .no, .no)).1.map cpD)) = _
  rw [fold]
  rfl
theorem zJr {w h : Nat} {W : C -> Bool} {a b : C} (n : Near a b) : zBZ [solD w h W, zAa a, zAa b] = some (.bool (clear (sol w h W) a b)) := by
 have ll : (line a b).length <= 9 := by unfold line; rw [Qj]; exact n.ok.len
 have ld : (line a b).dropLast.length <= 9 := by rw [List.length_dropLast]; lia
 refine zAy ?_
 unfold zFr
 rw [show zAB 7 [solD w h W, zAa a, zAa b] = [.dat (solD w h W), .dat (zAa a), .dat (zAa b), .no, .no, .no, .no] from rfl]
 refine zAk (zAz (zAg rfl (zKE n))) ?_
 have is : ∀ c, dIn2 false (zAa c) (solD w h W) = some (.bool (sol w h W c)) := fun c => zH2 false c w h W
 have l1 := zD3 (s := zAo 4) (g := sIf (eB (eOp (dIn2 false) (eV 4) (eV 0))) (sRet (eC (.bool false))) zAu) zAa (fun ρ => ∃ s4, ρ = [.dat (solD w h W), .dat (zAa a), .dat (zAa b), .dat (.list ((line a b).map zAa)), s4, .no, .no]) (sol w h W) (.bool false) (line a b).dropLast [.dat (solD w h W), .dat (zAa a), .dat (zAa b), .dat (.list ((line a b).map zAa)), .no, .no, .no] ⟨_, rfl⟩ (by
  rintro c _ ρ ⟨s4, rfl⟩
  refine ⟨[.dat (solD w h W), .dat (zAa a), .dat (zAa b), .dat (.list ((line a b).map zAa)), .dat (zAa c), .no, .no], rfl, ?_⟩
  cases q : sol w h W c with
  | true => rw [if_pos rfl]; exact zAU (b := true) (oB (oo rfl rfl (by rw [is, q]))) (fun _ => rfl) fun z => by cases z
  | false => rw [if_neg Qw]; exact ⟨_, zAM (oB (oo rfl rfl (by rw [is, q]))), ⟨_, rfl⟩⟩)
 have i1 : iSeq (eSl2 (eV 3) oNo (oE (eUn dNeg (eC (.int 1))))) [.dat (solD w h W), .dat (zAa a), .dat (zAa b), .dat (.list ((line a b).map zAa)), .no, .no, .no] = some ((line a b).dropLast.map zAa) := by
  show some (cutD ((line a b).map zAa) none (some (-1))) = _
  rw [zKG]
 unfold clear
 by_cases c1 : (line a b).dropLast.any (sol w h W) = true
 ·rw [if_pos c1] at l1
  refine (zCV (zA9 i1 l1)).trans ?_
  have : (line a b).dropLast.all (fun c => !sol w h W c) = false := by
   rw [Yz]
   simp only [Bool.not_not]
   rw [c1]; rfl
  rw [this]
  rfl
 ·rw [if_neg c1] at l1
  obtain ⟨ρ', e1, s4, rfl⟩ := l1
  refine zAk (zA9 i1 e1) ?_
  have a1 : (line a b).dropLast.all (fun c => !sol w h W c) = true := by
   rw [Yz]
   simp only [Bool.not_not]
   rw [Yy] at c1
   rw [c1]; rfl
  rw [a1, Bool.true_and, <- zI4]
  have l2 := zD3 (s := uTup 2 (zBb (zAo 5) (zBb (zAo 6) uNil))) (g := sIf (eAnd (eB (eOp (dIn2 false) (eV 5) (eV 0))) (eB (eOp (dIn2 false) (eV 6) (eV 0)))) (sRet (eC (.bool false))) zAu) cpD (fun ρ => ∃ s5 s6, ρ = [.dat (solD w h W), .dat (zAa a), .dat (zAa b), .dat (.list ((line a b).map zAa)), s4, s5, s6]) (fun p => sol w h W p.1 && sol w h W p.2) (.bool false) (prs (line a b)) [.dat (solD w h W), .dat (zAa a), .dat (zAa b), .dat (.list ((line a b).map zAa)), s4, .no, .no] ⟨_, _, rfl⟩ (by
   rintro p _ ρ ⟨s5, s6, rfl⟩
   refine ⟨[.dat (solD w h W), .dat (zAa a), .dat (zAa b), .dat (.list ((line a b).map zAa)), s4, .dat (zAa p.1), .dat (zAa p.2)], rfl, ?_⟩
   cases q1 : sol w h W p.1 <;> cases q2 : sol w h W p.2
   ·exact ⟨_, zAM (oA0 (oB (oo rfl rfl (by rw [is, q1])))), ⟨_, _, rfl⟩⟩
   ·exact ⟨_, zAM (oA0 (oB (oo rfl rfl (by rw [is, q1])))), ⟨_, _, rfl⟩⟩
   ·exact ⟨_, zAM (oA1 (oB (oo rfl rfl (by rw [is, q1]))) (oB (oo rfl rfl (by rw [is, q2])))), ⟨_, _, rfl⟩⟩
   ·show sIf _ _ _ _ = _
    exact zAU (b := true) (oA1 (oB (oo rfl rfl (by rw [is, q1]))) (oB (oo rfl rfl (by rw [is, q2])))) (fun _ => rfl) fun z => by cases z)
  have i2 : iSeq (zAf zCt (zAb (eV 3) eNil)) [.dat (solD w h W), .dat (zAa a), .dat (zAa b), .dat (.list ((line a b).map zAa)), s4, .no, .no] = some ((prs (line a b)).map cpD) :=
   zA1 (zAg rfl (zKa _ (by lia))) rfl
  by_cases c2 : (prs (line a b)).any (fun p => sol w h W p.1 && sol w h W p.2) = true
  ·rw [if_pos c2] at l2
   refine (zCV (zA9 i2 l2)).trans ?_
   have : (prs (line a b)).all (fun p => !(sol w h W p.1 && sol w h W p.2)) = false := by
    rw [Yz]
    simp only [Bool.not_not]
    rw [c2]; rfl
   rw [this]
  ·rw [if_neg c2] at l2
   obtain ⟨ρ', e2, s5, s6, rfl⟩ := l2
   refine zAk (zA9 i2 e2) ?_
   have : (prs (line a b)).all (fun p => !(sol w h W p.1 && sol w h W p.2)) = true := by
    rw [Yz]
    simp only [Bool.not_not]
    rw [Yy] at c2
    rw [c2]; rfl
   rw [this]
   exact zAv rfl
theorem zIy {w h : Nat} (hw : w <= 5) (hh : h <= 5) {a b : C} (ha : inR w h a = true) (hb : inR w h b = true) : Near a b := by
 obtain ⟨a1, a2, a3, a4⟩ := zDq.mp ha
 obtain ⟨b1, b2, b3, b4⟩ := zDq.mp hb
 have d : ∀ {n : Nat} {x y : Int}, n <= 5 -> 0 <= x -> x < n -> 0 <= y -> y < n -> -4 <= y - x /\ y - x <= 4 := fun h1 h2 h3 h4 h5 => by lia
 have p := d hw a1 a2 b1 b2
 have q := d hh a3 a4 b3 b4
 exact ⟨p.1, p.2, q.1, q.2⟩
section
variable {w h : Nat} {W : C -> Bool} (hw : w <= 5) (hh : h <= 5)
include hw hh
theorem zGe {c : C} (hc : inR w h c = true) : sol w h W c = W c := by unfold sol; rw [hc, Bool.true_and]
theorem zLi {a : C} (ha : inR w h a = true) (ho : W a = false) : zCu [flD w h W, zAa a] = some (.list (((cells w h).filter fun b => seeB (sol w h W) a b).map zAa)) := by
 have m : zAV [zBV w h W] = some (solD w h W) := zIq hw hh
 refine zAy ?_
 unfold zFq
 rw [show zAB 3 [flD w h W, zAa a] = [.dat (flD w h W), .dat (zAa a), .no] from rfl]
 refine zAk (zCU (zAg rfl (zFV ha ho))) (zAk (zAz (zAg rfl m)) ?_)
 refine zAv (zBq (xs := (cells w h).filter fun c => !W c) zAa (fun b => clear (sol w h W) a b) zAa (fun ρ => ∃ s0, ρ = [s0, .dat (solD w h W), .dat (zAa a)]) (zA1 (zAg rfl (zFU hw hh)) rfl) (Qx (Q2 _ _) (by rw [zCA]; exact Qx (Jf hw hh) (by decide))) ⟨_, rfl⟩ ?_ ?_)
 ·rintro b hb ρ ⟨s0, rfl⟩
  have e := zJr (w := w) (h := h) (W := W) (zIy hw hh ha (zBI.mp (QY.mp hb).1))
  exact ⟨[.dat (zAa b), .dat (solD w h W), .dat (zAa a)], rfl, ⟨_, rfl⟩, oB (zAg rfl e), fun _ => rfl⟩
 ·rw [List.filter_filter]
  congr 1
  refine Jp fun b hb => ?_
  unfold seeB
  rw [zGe hw hh (zBI.mp hb), Bool.and_comm]
theorem zLe {a b : C} (ha : inR w h a = true) (hb : inR w h b = true) : zDa [solD w h W, zAa a, zAa b] = some (.bool (seeB (sol w h W) a b)) := by
 have e := zJr (w := w) (h := h) (W := W) (zIy hw hh ha hb)
 have i := zH2 true b w h W
 unfold seeB
 cases q : sol w h W b with
 | true => rw [q] at i; exact zAy (zAv (oAV0 (oo rfl rfl i)))
 | false => rw [q] at i; exact zAy (zAv (oAV (oo rfl rfl i) (zAg rfl e)))
theorem zN6 {a b : C} (ha : inR w h a = true) (hb : inR w h b = true) : zB0 [flD w h W, zAa a, zAa b] = some (.bool (seeB (sol w h W) a b)) := by
 have m : zAV [zBV w h W] = some (solD w h W) := zIq hw hh
 exact zAy (zAk (zCU (zAg rfl (zF3 ha))) (zAk (zCU (zAg rfl (zF3 hb))) (zAv (zAg (zAp (zAg rfl m) rfl) (zLe hw hh ha hb)))))
end
end My
namespace My
open PySem PySem.SeqAt L2 DL SD SL EL DC
theorem ne_c (a b : C) : dNe (zAa a) (zAa b) = some (.bool (!(a == b))) := by
 unfold dNe
 rw [zDH, zDH, zD0]
 rfl
theorem eq_c (a b : C) : dEq (zAa a) (zAa b) = some (.bool (a == b)) := by
 unfold dEq
 rw [zDH, zDH, zD0]
 rfl
theorem zEv {t : Rho -> Option Bool} {g1 : Rho -> Option Out} {ρ : Rho} (h : t (ρ.map frz) = some false) : sIf t g1 zAu ρ = some (.nx ρ) := by
 unfold sIf
 rw [h]
 rfl
def Nx (g : Rho -> Option Out) (ρ : Rho) (I : Rho -> Prop) : Prop := ∃ ρ2, g ρ = some (.nx ρ2) /\ I ρ2
section
variable {g g1 g2 rest : Rho -> Option Out} {ρ ρ' : Rho} {I : Rho -> Prop} {t : Rho -> Option Bool}
theorem zCf (h : g1 ρ = some (.nx ρ')) (h2 : Nx g2 ρ' I) : Nx (sSeq g1 g2) ρ I := by
 obtain ⟨ρ2, e, i⟩ := h2
 exact ⟨ρ2, zAk h e, i⟩
theorem zII (h : t (ρ.map frz) = some false) (i : I ρ) : Nx (sIf t g1 zAu) ρ I := ⟨ρ, zEv h, i⟩
theorem nx_if {b : Bool} (h : t (ρ.map frz) = some b) (h1 : b = true -> Nx g1 ρ I) (h2 : b = false -> Nx g2 ρ I) : Nx (sIf t g1 g2) ρ I := by
 cases b with
 | true => obtain ⟨ρ2, e, i⟩ := h1 rfl; exact ⟨ρ2, zAU h (fun _ => e) (fun z => nomatch z), i⟩
 | false => obtain ⟨ρ2, e, i⟩ := h2 rfl; exact ⟨ρ2, zAU h (fun z => nomatch z) (fun _ => e), i⟩
theorem zN3 {α : Type} {gi : Rho -> Option (List D)} {s : D -> Rho -> Option Rho} {r : Option Out} (item : α -> D) (J : Rho -> Prop) (xs : List α) (hi : gi ρ = some (xs.map item)) (h0 : J ρ)
  (h : ∀ a ∈ xs, ∀ ρ, J ρ -> ∃ ρ1, s (item a) ρ = some ρ1 /\ Nx g ρ1 J) (hr : ∀ ρ', J ρ' -> rest ρ' = r) : sSeq (sFor gi s g) rest ρ = r := by
 obtain ⟨ρ', e, i⟩ := zHC item J xs ρ h0 fun a ha ρ hρ => by
  obtain ⟨ρ1, e1, ρ2, e2, i2⟩ := h a ha ρ hρ
  exact ⟨ρ1, ρ2, e1, e2, i2⟩
 exact zAk (zA9 hi e) (hr ρ' i)
end
theorem zIp (ρ : Rho) : eLst eNil ρ = some (.list (([] : List C).map zAa)) := rfl
theorem cons1 {ga : Rho -> Option D} {ρ : Rho} {d : D} (h : ga ρ = some d) : zAb ga eNil ρ = some [d] := by
 unfold zAb
 rw [h]
 rfl
end My
namespace My
open PySem PySem.SeqAt L2 DL SD SL EL DC
def opn (w h : Nat) (W : C -> Bool) : List C := (cells w h).filter fun c => !W c
theorem zA8 {w h : Nat} {W : C -> Bool} {c : C} : c ∈ opn w h W ↔ inR w h c = true /\ W c = false := by
 unfold opn
 rw [QY, zBI, Yi]
theorem zJL (w h : Nat) (W : C -> Bool) : Up (opn w h W) := zCZ (zDL w h) _
theorem zEn {w h : Nat} (hw : w <= 5) (hh : h <= 5) (W : C -> Bool) : (opn w h W).length <= 25 :=
 Qx (Q2 _ _) (by rw [zCA]; exact Jf hw hh)
theorem zMi {w h : Nat} {W : C -> Bool} (hw : w <= 5) (h0 : 0 < h) (hh : h <= 5) : zC3 [flD w h W] = some (.list ((opn w h W).map zAa)) := by
 refine zAy (zAv (zBq (xs := cells w h) zAa (fun c => !sol w h W c) zAa (fun ρ => ∃ s0, ρ = [s0, .dat (flD w h W)]) (zA1 (zAg rfl (zL9 hw h0 hh)) rfl) (by rw [zCA]; exact Qx (Jf hw hh) (by decide)) ⟨_, rfl⟩ ?_ ?_))
 ·rintro c _ ρ ⟨s0, rfl⟩
  exact ⟨[.dat (zAa c), .dat (flD w h W)], rfl, ⟨_, rfl⟩, oB (oo rfl rfl (in_W true c w h W)), fun _ => rfl⟩
 ·unfold opn
  congr 1
  refine Jp fun c hc => ?_
  rw [zGe hw hh (zBI.mp hc)]
def fdD (l : List C) (f : C -> D) : List (D × D) := l.map fun c => (zAa c, f c)
abbrev ctD (l : List C) (f : C -> Int) : List (D × D) := fdD l fun c => .int (f c)
theorem zFE (a c : C) : (decT (zAa a) == some (row c)) = (a == c) := by
 rw [zBD, YN, beq_iff_eq, beq_iff_eq]
 exact ⟨fun q => zCn (QG q), fun q => by rw [q]⟩
theorem zFw (l : List C) (f : C -> D) (c : C) : hasD (fdD l f) (row c) = l.contains c := by
 unfold hasD fdD
 rw [List.any_map]
 induction l with
 | nil => rfl
 | cons a l ih =>
  rw [Jm, ih, List.contains_cons]
  congr 1
  show (decT (zAa a) == some (row c)) = _
  rw [zFE, YN, beq_iff_eq, beq_iff_eq]
  exact ⟨Eq.symm, Eq.symm⟩
theorem zCH (l : List C) (f : C -> D) : zAG (fdD l f) = true := by
 unfold zAG fdD
 rw [List.all_map, QS]
 intro c _
 rfl
theorem zFp {l : List C} (f : C -> D) {c : C} (h : c ∈ l) : getD (fdD l f) (row c) = some (f c) := by
 unfold getD fdD
 induction l with
 | nil => cases h
 | cons a l ih =>
  rw [Qo, YL, zFE]
  by_cases e : a = c
  ·subst e; simp
  ·rw [beq_eq_false_iff_ne.mpr e]
   exact ih ((Qk.mp h).resolve_left fun z => e z.symm)
def bump (f : C -> Int) (c : C) : C -> Int := fun x => if x = c then f c + 1 else f x
theorem zNH {l : List C} (f : C -> Int) {c : C} (h : c ∈ l) : putD (ctD l f) (row c) (.int (f c + 1)) = ctD l (bump f c) := by
 unfold putD
 rw [zFw, if_pos (QA.mpr h)]
 unfold ctD fdD
 rw [Yg]
 refine Jw fun a _ => ?_
 show (if (decT (zAa a) == some (row c)) = true then (zAa a, PyData.int (f c + 1)) else (zAa a, .int (f a))) = _
 rw [zFE]
 unfold bump
 dsimp only
 by_cases e : a = c
 ·rw [if_pos (beq_iff_eq.mpr e), if_pos e]
 ·rw [if_neg (by simpa using e), if_neg e]
theorem zIN (f : C -> D) : ∀ l : List C, zBJ (l.map fun c => PyData.tuple [zAa c, f c]) = some (l.map fun c => (row c, f c))
 | [] => rfl
 | c :: l => by
  show (zDA (.tuple [zAa c, f c])).bind (fun p => (zBJ (l.map fun c => PyData.tuple [zAa c, f c])).bind fun ps => some (p :: ps)) = _
  rw [zIN f l]
  rfl
theorem zI6 (l : List C) (f : C -> D) (c : C) (h : c ∉ l) : putD (fdD l f) (row c) (f c) = fdD (l ++ [c]) f := by
 unfold putD
 rw [zFw, if_neg (by rw [QA]; exact h)]
 unfold fdD
 rw [Ya]
 rfl
theorem zG7 (f : C -> D) : ∀ (l acc : List C), (acc ++ l).Nodup -> (l.map fun c => (row c, f c)).foldl (fun kvs p => putD kvs p.1 p.2) (fdD acc f) = fdD (acc ++ l) f
 | [], acc, _ => by rw [QW]; rfl
 | c :: l, acc, h => by
  have hc : c ∉ acc := by
   rw [List.nodup_append] at h
   exact fun q => h.2.2 c q c Qf rfl
  rw [Qo, Yv]
  show (l.map _).foldl _ (putD _ (row c) (f c)) = _
  rw [zI6 acc f c hc, zG7 f l (acc ++ [c]) (by rw [QM]; exact h), QM]
  rfl
theorem zL2 (l : List C) (f : C -> D) : seqK (.dict (fdD l f)) = some (l.map zAa) := by
 show (if ((fdD l f).all fun e => isTp e.1) = true then some ((fdD l f).map (·.1)) else none) = _
 unfold fdD
 rw [if_pos (by rw [List.all_map, QS]; intro c _; rfl), Yg]
 rfl
theorem zIb {l : List C} (f : C -> D) {c : C} (h : c ∈ l) : dIx2 (.dict (fdD l f)) (zAa c) = some (f c) := by
 show ((decT (zAa c)).bind fun k => if zAG (fdD l f) = true then getD (fdD l f) k else none) = _
 rw [zBD, Qi, zCH, if_pos rfl, zFp f h]
theorem zLI {ga : Rho -> Option D} {ρ : Rho} {d : D} {l : List D} (h1 : ga ρ = some d) (h2 : seqK d = some l) : iKey ga ρ = some l := by
 unfold iKey
 rw [h1]
 exact h2
def stp (b : (C -> Int) × Sl) (o : C) : (C -> Int) × Sl := (bump b.1 o, .dat (zAa o))
theorem zJB (c : C) : ∀ (l : List C) (b : (C -> Int) × Sl), (l.foldl stp b).1 c = b.1 c + (l.count c : Nat)
 | [], b => by simp
 | o :: l, b => by
  rw [Yv, zJB c l]
  show bump b.1 o c + _ = _
  unfold bump
  rw [List.count_cons]
  by_cases e : c = o
  ·subst e; simp; lia
  ·rw [if_neg e, if_neg (by simpa using fun z => e z.symm)]; simp
section
variable (fld : C -> List C)
def stq (b : (C -> Int) × Sl × Sl) (a : C) : (C -> Int) × Sl × Sl := (((fld a).foldl stp (b.1, b.2.2)).1, .dat (zAa a), ((fld a).foldl stp (b.1, b.2.2)).2)
theorem zJC (c : C) : ∀ (l : List C) (b : (C -> Int) × Sl × Sl), (l.foldl (stq fld) b).1 c = b.1 c + ((l.map fun a => (fld a).count c).sum : Nat)
 | [], b => by simp
 | a :: l, b => by
  rw [Yv, zJC c l]
  show ((fld a).foldl stp (b.1, b.2.2)).1 c + _ = _
  rw [zJB]
  simp
  lia
end
theorem zNK {i : Nat} {gk gv : Rho -> Option D} {ρ : Rho} {l : List C} {f : C -> Int} {c : C} (h1 : ρ[i]? = some (.ownD (ctD l f))) (h2 : gv ρ = some (.int (f c + 1))) (h3 : gk ρ = some (zAa c)) (hc : c ∈ l) (hl : l.length < 1000) (ho : oneD i ρ = true) :
  sPut i gk gv ρ = some (.nx (ρ.set i (.ownD (ctD l (bump f c))))) := by
 unfold sPut
 rw [h1]
 show (gv ρ).bind _ = _
 rw [h2, Qi, h3, Qi, zBD, Qi, zCH, if_pos (by rw [ho]; simp [ctD, fdD, hl]), zNH f hc]
theorem zMW {i : Nat} {gk : Rho -> Option D} {ρ : Rho} {l : List C} {f : C -> Int} {c : C} (h1 : ρ[i]? = some (.ownD (ctD l f))) (h3 : gk ρ = some (zAa c)) (hc : c ∈ l) : zBw i gk ρ = some (.int (f c)) := by
 unfold zBw
 rw [h1]
 show (gk ρ).bind _ = _
 rw [h3, Qi, zBD, Qi, zCH, if_pos rfl, zFp (fun c => .int (f c)) hc]
end My
namespace My
open PySem PySem.SeqAt L2 DL SD SL EL DC
section
variable {w h : Nat} {W : C -> Bool} (hw : w <= 5) (hh : h <= 5)
include hw hh
theorem zLo {a : C} : ∀ c ∈ (cells w h).filter (fun b => seeB (sol w h W) a b), c ∈ opn w h W := fun c hc => by
 rw [QY, zBI] at hc
 refine zA8.mpr ⟨hc.1, ?_⟩
 have := hc.2
 unfold seeB at this
 rw [zGe hw hh hc.1, QH, Yi] at this
 exact this.1
theorem zLn {a c : C} (hc : inR w h c = true) : ((cells w h).filter fun b => seeB (sol w h W) a b).count c = if seeB (sol w h W) a c = true then 1 else 0 := by
 have nd := zCp (zCZ (zDL w h) fun b => seeB (sol w h W) a b)
 by_cases s : seeB (sol w h W) a c = true
 ·rw [if_pos s, List.Nodup.count nd, if_pos (QY.mpr ⟨zBI.mpr hc, s⟩)]
 ·rw [if_neg s, List.Nodup.count nd, if_neg (fun z => s (QY.mp z).2)]
theorem zOC {cs : List C} (hc : ∀ a ∈ cs, a ∈ opn w h W) (hl : cs.length <= 900) : ∃ f : C -> Int, (∀ c ∈ opn w h W, f c = (cs.countP fun a => seeB (sol w h W) a c : Nat)) /\ zDc [flD w h W, .list (cs.map zAa)] = some (.dict (ctD (opn w h W) f)) := by
 obtain ⟨O, hO⟩ : ∃ O, O = opn w h W := ⟨_, rfl⟩
 obtain ⟨fld, hf⟩ : ∃ fld : C -> List C, fld = fun a => (cells w h).filter fun b => seeB (sol w h W) a b := ⟨_, rfl⟩
 have oe : zAY [flD w h W] = some (.list (O.map zAa)) := by rw [hO]; exact zFU hw hh
 have ol : O.length <= 25 := by rw [hO]; exact zEn hw hh W
 have on : O.Nodup := by rw [hO]; exact zCp (zJL w h W)
 have fe : ∀ a ∈ cs, zCu [flD w h W, zAa a] = some (.list ((fld a).map zAa)) := fun a ha => by
  obtain ⟨h1, h2⟩ := zA8.mp (hc a ha)
  rw [hf]; exact zLi hw hh h1 h2
 have fo : ∀ a, ∀ c ∈ fld a, c ∈ O := fun a c hc => by rw [hf] at hc; rw [hO]; exact zLo hw hh c hc
 have fl : ∀ a, (fld a).length <= 25 := fun a => by rw [hf]; exact Qx (Q2 _ _) (by rw [zCA]; exact Jf hw hh)
 refine ⟨(cs.foldl (stq fld) ((fun _ => 0), .no, .no)).1, fun c hc' => ?_, zAy ?_⟩
 ·rw [zJC]
  have i := (zA8.mp hc').1
  rw [hf, Int.zero_add]
  refine congrArg (fun n : Nat => (n : Int)) ?_
  clear hc hl fe fo fl hf
  induction cs with
  | nil => rfl
  | cons a cs ih =>
   rw [Qo, List.sum_cons, ih, List.countP_cons, zLn hw hh i]
   lia
 ·unfold zFv
  rw [show zAB 5 [flD w h W, .list (cs.map zAa)] = [.dat (flD w h W), .dat (.list (cs.map zAa)), .no, .no, .no] from rfl, <- hO]
  have s1 : zEw 2 (zAb (eLc (zAJ (iSeq (zAf zAY (zAb (eV 0) eNil))) (zAo 0) eT (eTup (zAb (eV 0) (zAb (eC (.int 0)) eNil))) [none])) eNil) [.dat (flD w h W), .dat (.list (cs.map zAa)), .no, .no, .no] = some (.nx [.dat (flD w h W), .dat (.list (cs.map zAa)), .ownD (ctD O fun _ => 0), .no, .no]) := by
   have lc := zBq (gi := iSeq (zAf zAY (zAb (eV 0) eNil))) (s := zAo 0) (t := eT) (ge := eTup (zAb (eV 0) (zAb (eC (.int 0)) eNil))) (inner := [none]) (ρ := [.dat (flD w h W), .dat (.list (cs.map zAa)), .no, .no, .no]) (xs := O) zAa (fun _ => true) (fun c => PyData.tuple [zAa c, .int 0]) (fun ρ => ∃ s0, ρ = [s0]) (zA1 (zAg rfl oe) rfl) (by lia) ⟨_, rfl⟩ (by
    rintro c _ ρ ⟨s0, rfl⟩
    exact ⟨[.dat (zAa c)], rfl, ⟨_, rfl⟩, rfl, fun _ => rfl⟩) (by rw [zDn])
   unfold zEw
   rw [cons1 lc]
   show (if _ then _ else _) = _
   rw [if_pos (by rw [Qj]; lia), zIN (fun _ => .int 0), Qi]
   have := zG7 (fun _ => .int 0) O [] (by simpa using on)
   rw [YM] at this
   unfold zB7
   rw [show ([] : List (D × D)) = ctD [] fun _ => 0 from rfl, this]
   rfl
  refine zAk s1 (zAk (zA9 (zA1 (d := .list (cs.map zAa)) rfl rfl) (zCI zAa (fun (b : (C -> Int) × Sl × Sl) => [.dat (flD w h W), .dat (.list (cs.map zAa)), .ownD (ctD O b.1), b.2.1, b.2.2]) (stq fld) (fun _ _ => True) 900 cs 0 ((fun _ => 0), .no, .no) (by lia) trivial fun a ha i b _ _ => ⟨⟨[.dat (flD w h W), .dat (.list (cs.map zAa)), .ownD (ctD O b.1), .dat (zAa a), b.2.2], rfl, ?_⟩, trivial⟩)) ?_)
  ·refine (zA9 (zA1 (zAg rfl (fe a ha)) rfl) (zCI zAa (fun (b : (C -> Int) × Sl) => [.dat (flD w h W), .dat (.list (cs.map zAa)), .ownD (ctD O b.1), .dat (zAa a), b.2]) stp (fun _ _ => True) 25 (fld a) 0 (b.1, b.2.2) (by have := fl a; lia) trivial fun o ho i b2 _ _ => ⟨⟨[.dat (flD w h W), .dat (.list (cs.map zAa)), .ownD (ctD O b2.1), .dat (zAa a), .dat (zAa o)], rfl, ?_⟩, trivial⟩)).trans rfl
   have hoO := fo a o ho
   refine (zNK (l := O) (f := b2.1) (c := o) rfl ?_ rfl hoO (by lia) rfl).trans rfl
   have e := zMW (i := 2) (gk := eV 4) (ρ := [.dat (flD w h W), .dat (.list (cs.map zAa)), .ownD (ctD O b2.1), .dat (zAa a), .dat (zAa o)]) (f := b2.1) rfl rfl hoO
   simp only [ap_op, e, ap_C, O_bs, add_i]
  ·exact zAv rfl
theorem zJ2 {cs : List C} (hc : ∀ a ∈ cs, a ∈ opn w h W) (hl : cs.length <= 900) : zDb [flD w h W, .list (cs.map zAa)] = some (.list (((opn w h W).filter fun c => cs.any fun a => seeB (sol w h W) a c).map zAa)) := by
 obtain ⟨f, f1, f2⟩ := zOC hw hh hc hl
 have ol := zEn hw hh W
 refine zAy ?_
 unfold zFu
 rw [show zAB 3 [flD w h W, .list (cs.map zAa)] = [.dat (flD w h W), .dat (.list (cs.map zAa)), .no] from rfl]
 refine zAk (zAz (zAg rfl f2)) ?_
 refine zAv (zBq (xs := opn w h W) zAa (fun c => decide (0 < f c)) zAa (fun ρ => ∃ s0, ρ = [s0, .dat (.dict (ctD (opn w h W) f))]) (zLI (d := .dict (ctD (opn w h W) f)) rfl (zL2 _ fun c => .int (f c))) (by lia) ⟨_, rfl⟩ ?_ ?_)
 ·rintro c hc' ρ ⟨s0, rfl⟩
  exact ⟨[.dat (zAa c), .dat (.dict (ctD (opn w h W) f))], rfl, ⟨_, rfl⟩, oB (oo (oo rfl rfl (zIb (fun c => .int (f c)) hc')) rfl rfl), fun _ => rfl⟩
 ·refine congrArg (List.map zAa) (Jp fun c hc' => ?_)
  rw [f1 c hc', YN, decide_eq_true_eq, List.any_eq_true]
  rw [show (0 < ((cs.countP fun a => seeB (sol w h W) a c : Nat) : Int)) ↔ 0 < cs.countP fun a => seeB (sol w h W) a c from by lia, List.countP_pos_iff]
end
end My
namespace My
open PySem
def wds : List Nat := [110, 101, 115, 119]
def zB8 (x : Nat) : C := if x = 110 then (0, -1) else if x = 101 then (1, 0) else if x = 115 then (0, 1) else (-1, 0)
def opp (x : Nat) : Nat := if x = 110 then 115 else if x = 101 then 119 else if x = 115 then 110 else 101
def stp' (a : C) (x : Nat) : C := (a.1 + (zB8 x).1, a.2 + (zB8 x).2)
theorem zJS {x : Nat} (h : x ∈ wds) : x = 110 ∨ x = 101 ∨ x = 115 ∨ x = 119 := by
 unfold wds at h
 simpa using h
theorem zIL {x : Nat} (h : x ∈ wds) (a : C) : opp x ∈ wds /\ stp' (stp' a x) (opp x) = a := by
 obtain ⟨p, q⟩ := a
 rcases zJS h with rfl | rfl | rfl | rfl
 ·exact ⟨by decide, Jk (show p + 0 + 0 = p by lia) (show q + -1 + 1 = q by lia)⟩
 ·exact ⟨by decide, Jk (show p + 1 + -1 = p by lia) (show q + 0 + 0 = q by lia)⟩
 ·exact ⟨by decide, Jk (show p + 0 + 0 = p by lia) (show q + 1 + -1 = q by lia)⟩
 ·exact ⟨by decide, Jk (show p + -1 + 1 = p by lia) (show q + 0 + 0 = q by lia)⟩
def vis : C -> List Nat -> List C
 | s, [] => [s]
 | s, x :: u => s :: vis (stp' s x) u
def fin : C -> List Nat -> C
 | s, [] => s
 | s, x :: u => fin (stp' s x) u
theorem zDo : ∀ (s : C) (u : List Nat) (x : Nat), fin s (u ++ [x]) = stp' (fin s u) x
 | _, [], _ => rfl
 | s, y :: u, x => zDo (stp' s y) u x
theorem zCq : ∀ (s : C) (u : List Nat) (x : Nat), vis s (u ++ [x]) = vis s u ++ [stp' (fin s u) x]
 | _, [], _ => rfl
 | s, y :: u, x => congrArg (s :: ·) (zCq (stp' s y) u x)
theorem zEK : ∀ (s : C) (u : List Nat), (vis s u).length = u.length + 1
 | _, [] => rfl
 | s, y :: u => by show (vis (stp' s y) u).length + 1 = _; rw [zEK]; rfl
theorem zGp : ∀ (s : C) (u : List Nat), ∃ l, vis s u = l ++ [fin s u]
 | s, [] => ⟨[], rfl⟩
 | s, y :: u => by
  obtain ⟨l, e⟩ := zGp (stp' s y) u
  exact ⟨s :: l, congrArg (s :: ·) e⟩
theorem zD2 (s : C) (u : List Nat) : fin s u ∈ vis s u := by
 obtain ⟨l, e⟩ := zGp s u
 rw [e]; exact Qu _ (Qq.mpr rfl)
theorem zJy (s : C) (u : List Nat) : s ∈ vis s u := by
 cases u <;> exact Qf
structure Pt (G : List C) (s : C) (u : List Nat) (c : C) : Prop where
 w : ∀ x ∈ u, x ∈ wds
 e : fin s u = c
 i : ∀ x ∈ vis s u, x ∈ G
theorem Pt.nil {G : List C} {s : C} (h : s ∈ G) : Pt G s [] s := ⟨fun _ h => (nomatch h), rfl, fun x hx => by rw [Qq.mp hx]; exact h⟩
theorem Pt.snoc {G : List C} {s a : C} {u : List Nat} {x : Nat} (p : Pt G s u a) (hx : x ∈ wds) (h : stp' a x ∈ G) : Pt G s (u ++ [x]) (stp' a x) := by
 refine ⟨fun y hy => ?_, by rw [zDo, p.e], fun y hy => ?_⟩
 ·rcases Qz.mp hy with hy | hy
  ·exact p.w y hy
  ·rw [Qq.mp hy]; exact hx
 ·rw [zCq, p.e] at hy
  rcases Qz.mp hy with hy | hy
  ·exact p.i y hy
  ·rw [Qq.mp hy]; exact h
theorem Pt.unsnoc {G : List C} {s c : C} {u : List Nat} {x : Nat} (p : Pt G s (u ++ [x]) c) : Pt G s u (fin s u) /\ c = stp' (fin s u) x /\ x ∈ wds /\ c ∈ G := by
 refine ⟨⟨fun y hy => p.w y (QK _ hy), rfl, fun y hy => p.i y (by rw [zCq]; exact QK _ hy)⟩, by rw [<- p.e, zDo], p.w x (Qu _ (Qq.mpr rfl)), ?_⟩
 rw [<- p.e]
 exact p.i _ (zD2 _ _)
theorem Pt.mono {G G' : List C} {s c : C} {u : List Nat} (p : Pt G s u c) (h : ∀ x ∈ G, x ∈ G') : Pt G' s u c := ⟨p.w, p.e, fun x hx => h x (p.i x hx)⟩
theorem Pt.start {G : List C} {s c : C} {u : List Nat} (p : Pt G s u c) : s ∈ G := p.i s (zJy s u)
theorem Pt.stop {G : List C} {s c : C} {u : List Nat} (p : Pt G s u c) : c ∈ G := by rw [<- p.e]; exact p.i _ (zD2 s u)
def back (u : List Nat) : List Nat := (u.map opp).reverse
theorem zJ7 (u : List Nat) : (back u).length = u.length := by unfold back; simp
theorem zJO : ∀ (s : C) (u : List Nat), (∀ x ∈ u, x ∈ wds) -> fin (fin s u) (back u) = s /\ vis (fin s u) (back u) = (vis s u).reverse
 | s, [], _ => ⟨rfl, rfl⟩
 | s, x :: u, h => by
  obtain ⟨h1, h2⟩ := zJO (stp' s x) u fun y hy => h y (Qe _ hy)
  have e : back (x :: u) = back u ++ [opp x] := by unfold back; simp
  have o := (zIL (h x Qf) s).2
  constructor
  ·show fin (fin (stp' s x) u) (back (x :: u)) = s
   rw [e, zDo, h1, o]
  ·show vis (fin (stp' s x) u) (back (x :: u)) = (s :: vis (stp' s x) u).reverse
   rw [e, zCq, h1, h2, o, List.reverse_cons]
theorem Pt.back {G : List C} {s c : C} {u : List Nat} (p : Pt G s u c) : Pt G c (back u) s := by
 obtain ⟨h1, h2⟩ := zJO s u p.w
 rw [p.e] at h1 h2
 refine ⟨fun x hx => ?_, h1, fun x hx => p.i x ?_⟩
 ·unfold My.back at hx
  rw [List.mem_reverse] at hx
  obtain ⟨y, hy, rfl⟩ := QJ.mp hx
  exact (zIL (p.w y hy) (0, 0)).1
 ·rw [h2, List.mem_reverse] at hx
  exact hx
theorem zIf (u : List Nat) : u = [] ∨ ∃ v x, u = v ++ [x] := by
 rcases List.eq_nil_or_concat u with h | ⟨v, x, h⟩
 ·exact .inl h
 ·exact .inr ⟨v, x, by simpa using h⟩
structure Lv (G : List C) (s : C) (k : Nat) (K : List C) (g : C -> List Nat) (R : List C) : Prop where
 st : s ∈ G
 b : ∀ c ∈ K, Pt G s (g c) c
 c : ∀ c ∈ K, ∀ u, Pt G s u c -> (g c).length <= u.length
 d : ∀ c, (∃ u, Pt G s u c /\ u.length <= k) -> c ∈ K
 e : ∀ c ∈ R, c ∈ K /\ (g c).length = k
 f : ∀ c ∈ K, (g c).length <= k
 r : ∀ c ∈ K, (g c).length = k -> c ∈ R
structure Md (G : List C) (k : Nat) (K : List C) (g : C -> List Nat) (P : C -> Nat -> Prop) (K' : List C) (g' : C -> List Nat) (Fa : List C) (s : C) : Prop where
 up : ∀ c ∈ K, c ∈ K' /\ g' c = g c
 nw : ∀ c ∈ K', c ∉ K -> Pt G s (g' c) c /\ (g' c).length = k + 1
 fa : ∀ c, c ∈ Fa ↔ c ∈ K' /\ c ∉ K
 cl : ∀ a x, P a x -> stp' a x ∈ G -> stp' a x ∈ K'
theorem Lv.zero {G : List C} {s : C} (h : s ∈ G) (g : C -> List Nat) (hg : g s = []) : Lv G s 0 [s] g [s] := by
 refine ⟨h, fun c hc => ?_, fun c hc u _ => ?_, fun c ⟨u, p, hu⟩ => ?_, fun c hc => ?_, fun c hc => ?_, fun c hc _ => hc⟩
 ·rw [Qq.mp hc, hg]; exact Pt.nil h
 ·rw [Qq.mp hc, hg]; exact QU _
 ·have : u = [] := List.length_eq_zero_iff.mp (by lia)
  subst this
  rw [<- p.e]; exact Qq.mpr rfl
 ·exact ⟨hc, by rw [Qq.mp hc, hg]; rfl⟩
 ·rw [Qq.mp hc, hg]; exact Qh _
theorem Md.start {G : List C} {s : C} {k : Nat} {K R : List C} {g : C -> List Nat} : Md G k K g (fun _ _ => False) K g [] s :=
 ⟨fun c h => ⟨h, rfl⟩, fun c h n => absurd h n, fun c => by simp, fun _ _ h => h.elim⟩
theorem Md.old {G : List C} {s a : C} {x k : Nat} {K K' Fa : List C} {g g' : C -> List Nat} {P : C -> Nat -> Prop} (m : Md G k K g P K' g' Fa s) (h : stp' a x ∈ G -> stp' a x ∈ K') : Md G k K g (fun b y => P b y ∨ (b = a /\ y = x)) K' g' Fa s :=
 ⟨m.up, m.nw, m.fa, fun b y p hg => by
  rcases p with p | ⟨rfl, rfl⟩
  ·exact m.cl b y p hg
  ·exact h hg⟩
def setG (g : C -> List Nat) (c : C) (v : List Nat) : C -> List Nat := fun x => if x = c then v else g x
theorem Md.add {G : List C} {s a : C} {x k : Nat} {K K' Fa R : List C} {g g' : C -> List Nat} {P : C -> Nat -> Prop} (l : Lv G s k K g R) (m : Md G k K g P K' g' Fa s) (ha : a ∈ R) (hx : x ∈ wds) (hg : stp' a x ∈ G) (hn : stp' a x ∉ K') :
  Md G k K g (fun b y => P b y ∨ (b = a /\ y = x)) (K' ++ [stp' a x]) (setG g' (stp' a x) (g' a ++ [x])) (Fa ++ [stp' a x]) s := by
 have hnK : stp' a x ∉ K := fun z => hn (m.up _ z).1
 have aK := (l.e a ha).1
 have ga : g' a = g a := (m.up a aK).2
 have gl : (g a).length = k := (l.e a ha).2
 refine ⟨fun c hc => ⟨QK _ (m.up c hc).1, ?_⟩, fun c hc nc => ?_, fun c => ?_, fun b y p hy => ?_⟩
 ·unfold setG
  rw [if_neg (fun z => hnK (by rw [<- z]; exact hc))]
  exact (m.up c hc).2
 ·unfold setG
  by_cases e : c = stp' a x
  ·rw [if_pos e, ga, e]
   exact ⟨(l.b a aK).snoc hx hg, by rw [Ql, gl]; rfl⟩
  ·rw [if_neg e]
   rcases Qz.mp hc with hc | hc
   ·exact m.nw c hc nc
   ·exact absurd (Qq.mp hc) e
 ·rw [Qz, Qz, m.fa, Qq]
  constructor
  ·rintro (⟨h1, h2⟩ | rfl)
   ·exact ⟨.inl h1, h2⟩
   ·exact ⟨.inr rfl, hnK⟩
  ·rintro ⟨h1 | h1, h2⟩
   ·exact .inl ⟨h1, h2⟩
   ·exact .inr h1
 ·rcases p with p | ⟨rfl, rfl⟩
  ·exact QK _ (m.cl b y p hy)
  ·exact Qu _ (Qq.mpr rfl)
theorem Lv.next {G : List C} {s : C} {k : Nat} {K K' Fa R : List C} {g g' : C -> List Nat} (l : Lv G s k K g R) {P : C -> Nat -> Prop} (m : Md G k K g P K' g' Fa s) (hP : ∀ a ∈ R, ∀ x ∈ wds, P a x) : Lv G s (k + 1) K' g' Fa := by
 have old : ∀ c, c ∈ K -> (g' c).length <= k := fun c hc => by rw [(m.up c hc).2]; exact l.f c hc
 refine ⟨l.st, fun c hc => ?_, fun c hc u p => ?_, fun c ⟨u, p, hu⟩ => ?_, fun c hc => ?_, fun c hc => ?_, fun c hc e => ?_⟩
 ·by_cases h : c ∈ K
  ·rw [(m.up c h).2]; exact l.b c h
  ·exact (m.nw c hc h).1
 ·by_cases h : c ∈ K
  ·rw [(m.up c h).2]; exact l.c c h u p
  ·rw [(m.nw c hc h).2]
   by_cases hu : u.length <= k
   ·exact absurd (l.d c ⟨u, p, hu⟩) h
   ·lia
 ·rcases zIf u with rfl | ⟨v, x, rfl⟩
  ·exact (m.up c (l.d c ⟨[], p, QU _⟩)).1
  ·obtain ⟨p1, e1, hx, hg⟩ := p.unsnoc
   rw [Ql] at hu
   have hv : v.length <= k := by simpa using hu
   have aK := l.d _ ⟨v, p1, hv⟩
   by_cases hr : (g (fin s v)).length = k
   ·rw [e1] at hg ⊢
    exact m.cl _ x (hP _ (l.r _ aK hr) x hx) hg
   ·have : (g (fin s v)).length < k := by have := l.f _ aK; lia
    have p2 := (l.b _ aK).snoc hx (by rw [<- e1]; exact hg)
    rw [e1]
    exact (m.up _ (l.d _ ⟨_, p2, by rw [Ql]; exact this⟩)).1
 ·obtain ⟨h1, h2⟩ := (m.fa c).mp hc
  exact ⟨h1, (m.nw c h1 h2).2⟩
 ·by_cases h : c ∈ K
  ·have := old c h; lia
  ·rw [(m.nw c hc h).2]; exact Qh _
 ·refine (m.fa c).mpr ⟨hc, fun h => ?_⟩
  have := old c h
  lia
theorem Lv.all {G : List C} {s : C} {k : Nat} {K : List C} {g : C -> List Nat} (l : Lv G s k K g []) : ∀ (u : List Nat) (c : C), Pt G s u c -> c ∈ K := by
 intro u
 generalize hn : u.length = n
 induction n generalizing u with
 | zero =>
  intro c p
  exact l.d c ⟨u, p, by lia⟩
 | succ n ih =>
  intro c p
  rcases zIf u with rfl | ⟨v, x, rfl⟩
  ·exact l.d c ⟨[], p, QU _⟩
  ·obtain ⟨p1, e1, hx, hg⟩ := p.unsnoc
   have aK := ih v (by simpa using hn) _ p1
   have f1 := l.f _ aK
   have : (g (fin s v)).length ≠ k := fun z => (nomatch l.r _ aK z)
   have p2 := (l.b _ aK).snoc hx (by rw [<- e1]; exact hg)
   rw [e1]
   exact l.d _ ⟨_, p2, by rw [Ql]; show _ + 1 <= k; lia⟩
theorem zHq {p q : C -> Bool} (hq : ∀ c, q c = true -> p c = true) (l : List C) : (l.filter q).length <= (l.filter p).length := by
 induction l with
 | nil => exact Qh _
 | cons b l ih =>
  rw [Jg, Jg]
  cases e : q b with
  | true => rw [hq b e]; simpa using ih
  | false =>
   cases p b with
   | true => simp; lia
   | false => simpa using ih
theorem zHr {p q : C -> Bool} (hq : ∀ c, q c = true -> p c = true) {l : List C} (h : ∃ x ∈ l, p x = true /\ q x = false) : (l.filter q).length < (l.filter p).length := by
 obtain ⟨x, hx, h1, h2⟩ := h
 induction l with
 | nil => cases hx
 | cons a l ih =>
  rw [Jg, Jg]
  rcases Qk.mp hx with e | hx
  ·subst e
   rw [h1, h2]
   have := zHq hq l
   simp
   lia
  ·have ih := ih hx
   cases e : q a with
   | true => rw [hq a e]; simpa using ih
   | false =>
    cases p a with
    | true => simp; lia
    | false => simpa using ih
end My
namespace My
open PySem PySem.SeqAt L2 DL SD SL EL DC TB TX
def ws (x : Nat) : Str := ⟨#[x]⟩
def wstr (u : List Nat) : Str := ⟨u.toArray⟩
theorem zGm : zBr = wds.map fun x => (ws x, zAa (zB8 x)) := by
 have h1 : (Str.ofString "n") = ws 110 := by decide
 have h2 : (Str.ofString "e") = ws 101 := by decide
 have h3 : (Str.ofString "s") = ws 115 := by decide
 have h4 : (Str.ofString "w") = ws 119 := by decide
 unfold zBr
 rw [h1, h2, h3, h4]
 rfl
theorem zIo {x : Nat} (h : x ∈ wds) : (wds.map fun x => (ws x, zAa (zB8 x))).lookup (ws x) = some (zAa (zB8 x)) := by
 rcases zJS h with rfl | rfl | rfl | rfl <;> rfl
theorem zJi {tb : List (Str × D)} {ga : Rho -> Option D} {ρ : Rho} {x : Str} {d : D} (h1 : ga ρ = some (.str x)) (h2 : tb.lookup x = some d) : eTab tb ga ρ = some d := by
 unfold eTab
 rw [h1]
 exact h2
theorem zKb {a : C} {x : Nat} (h : x ∈ wds) : zCs [zAa a, .str (ws x)] = some (zAa (stp' a x)) := by
 have lk := zIo h
 rw [<- zGm] at lk
 refine zAy (zAv ?_)
 have t : eTab zBr (eV 1) ((zAB 2 [zAa a, .str (ws x)]).map frz) = some (zAa (zB8 x)) := zJi rfl lk
 exact oT2 (oo rfl (oo t rfl rfl) rfl) (oo rfl (oo t rfl rfl) rfl)
def nb (G : List C) (a : C) : List Nat := wds.filter fun x => G.contains (stp' a x)
def nbD (a : C) (x : Nat) : D := .tuple [.str (ws x), zAa (stp' a x)]
theorem zOp (G : List C) (a : C) : zCw [mkD G, zAa a] = some (.list ((nb G a).map (nbD a))) := by
 refine zAy (zAv (zBq (xs := wds) (fun x => .str (ws x)) (fun x => G.contains (stp' a x)) (nbD a) (fun ρ => ∃ s0, ρ = [s0, .dat (zAa a), .dat (mkD G)]) ?_ (by decide) ⟨_, rfl⟩ ?_ rfl))
 ·show some (zBr.map fun e => PyData.str e.1) = _
  rw [zGm, Yg]
  rfl
 ·rintro x hx ρ ⟨s0, rfl⟩
  have b := zKb (a := a) hx
  exact ⟨[.dat (.str (ws x)), .dat (zAa a), .dat (mkD G)], rfl, ⟨_, rfl⟩, oB (oo (zAg rfl b) rfl (zD7 false (stp' a x) G)), fun _ => oT2 rfl (zAg rfl b)⟩
theorem zFe {α : Type} {s : D -> Rho -> Option Rho} {g : Rho -> Option Out} (item : α -> D) (I : List α -> Rho -> Prop) : ∀ (xs pre : List α) (ρ : Rho), I pre ρ ->
  (∀ a ∈ xs, ∀ pre ρ, I pre ρ -> ∃ ρ1 ρ2, s (item a) ρ = some ρ1 /\ g ρ1 = some (.nx ρ2) /\ I (pre ++ [a]) ρ2) -> ∃ ρ', forN s g (xs.map item) ρ = some (.nx ρ') /\ I (pre ++ xs) ρ'
 | [], pre, ρ, h0, _ => ⟨ρ, rfl, by rw [QW]; exact h0⟩
 | x :: xs, pre, ρ, h0, h => by
  obtain ⟨ρ1, ρ2, e1, e2, i2⟩ := h x Qf pre ρ h0
  rw [Qo]
  unfold forN
  rw [e1, Qi, e2, Qi]
  have := zFe item I xs (pre ++ [x]) ρ2 i2 fun a ha => h a (Qe _ ha)
  rw [QM] at this
  exact this
theorem zJT {t : Rho -> Option Bool} {g : Rho -> Option Out} (I : Nat -> Rho -> Prop) (Dn : Rho -> Prop) (h : ∀ m ρ, I m ρ -> (t (ρ.map frz) = some false /\ Dn ρ) ∨ (t (ρ.map frz) = some true /\ ∃ ρ' m', g ρ = some (.nx ρ') /\ m' < m /\ I m' ρ')) :
  ∀ (n m : Nat) (ρ : Rho), m < n -> I m ρ -> ∃ ρ', zBt t g n ρ = some (.nx ρ') /\ Dn ρ'
 | 0, m, ρ, hn, _ => absurd hn (Ym _)
 | n + 1, m, ρ, hn, i => by
  unfold zBt
  rcases h m ρ i with ⟨e, d⟩ | ⟨e, ρ', m', e2, lt, i'⟩
  ·rw [e]; exact ⟨ρ, rfl, d⟩
  ·rw [e, Qi, if_pos rfl, e2, Qi]
   exact zJT I Dn h n m' ρ' (by lia) i'
theorem Md.weak {G : List C} {s : C} {k : Nat} {K K' Fa : List C} {g g' : C -> List Nat} {P P' : C -> Nat -> Prop} (m : Md G k K g P K' g' Fa s) (h : ∀ b y, P' b y -> stp' b y ∈ G -> P b y) : Md G k K g P' K' g' Fa s :=
 ⟨m.up, m.nw, m.fa, fun b y p hg => m.cl b y (h b y p hg) hg⟩
def fD (g : C -> List Nat) : C -> D := fun c => .str (wstr (g c))
theorem add_w (u : List Nat) (x : Nat) (h : u.length <= 1000) : zB4 (.str (wstr u)) (.str (ws x)) = some (.str (wstr (u ++ [x]))) := by
 show (if decide ((wstr u).length + (ws x).length <= 1000000) = true then some (PyData.str (wstr u ++ ws x)) else none) = _
 have e : (wstr u).length = u.length := by unfold wstr Str.length; simp
 have e2 : (ws x).length = 1 := rfl
 rw [e, e2, if_pos (decide_eq_true (by lia))]
 have : wstr u ++ ws x = wstr (u ++ [x]) := by
  show (⟨u.toArray ++ #[x]⟩ : Str) = ⟨(u ++ [x]).toArray⟩
  simp
 rw [this]
theorem put_w {K : List C} {g : C -> List Nat} {b : C} (v : List Nat) (h : b ∉ K) : putD (fdD K (fD g)) (row b) (.str (wstr v)) = fdD (K ++ [b]) (fD (setG g b v)) := by
 have e : fdD K (fD g) = fdD K (fD (setG g b v)) := by
  unfold fdD
  refine Jw fun c hc => ?_
  unfold fD setG
  rw [if_neg (fun z => h (by rw [<- z]; exact hc))]
 have e2 : PyData.str (wstr v) = fD (setG g b v) b := by unfold fD setG; rw [if_pos rfl]
 rw [e, e2]
 exact zI6 K _ b h
theorem in_w (neg : Bool) (K : List C) (f : C -> D) (b : C) : dIn2 neg (zAa b) (.dict (fdD K f)) = some (.bool (if neg then !K.contains b else K.contains b)) := by
 show (decT (zAa b)).bind (fun k => if zAG (fdD K f) = true then some (PyData.bool (if neg then !hasD (fdD K f) k else hasD (fdD K f) k)) else none) = _
 rw [zBD, Qi, zCH, if_pos rfl, zFw]
def left (G K : List C) : Nat := (G.filter fun c => !K.contains c).length
theorem zMd {G K : List C} {b : C} (h1 : b ∈ G) (h2 : b ∉ K) : left G (K ++ [b]) < left G K := by
 refine zHr (fun c hc => ?_) ⟨b, h1, ?_, ?_⟩
 ·rw [Yi, <- Yy, QA] at hc ⊢
  exact fun z => hc (QK _ z)
 ·rw [Yi, <- Yy, QA]; exact h2
 ·rw [Bool.not_eq_false', QA]
  exact Qu _ (Qq.mpr rfl)
section
variable {G : List C} {s : C}
def wEnv (G : List C) (s : C) (K : List C) (g : C -> List Nat) (R : List C) (s4 s5 s6 s7 : Sl) : Rho := [.dat (mkD G), .dat (zAa s), .ownD (fdD K (fD g)), .dat (.list (R.map zAa)), s4, s5, s6, s7]
def zGq : Rho -> Option Out := sIf (eB (eOp (dIn2 true) (eV 7) (eV 2))) (sSeq (sPut 2 (eV 7) (eOp zB4 (zBw 2 (eV 5)) (eV 6))) (sApp 4 (eV 7))) zAu
structure Bd (G K' Fa : List C) (n : Nat) : Prop where
 k : K'.length + left G K' <= 26
 f : Fa.length + left G K' <= n
inductive OneR (G : List C) (s : C) (k : Nat) (K : List C) (g : C -> List Nat) (P : C -> Nat -> Prop) (f : List C -> (C -> List Nat) -> List C -> Option Out) (n : Nat) (o : Option Out) : Prop
 | mk (K2 : List C) (g2 : C -> List Nat) (Fa2 : List C) (e : o = f K2 g2 Fa2) (m : Md G k K g P K2 g2 Fa2 s) (b : Bd G K2 Fa2 n) : OneR G s k K g P f n o
theorem zMI {k : Nat} {K K' R Fa : List C} {g g' : C -> List Nat} {P : C -> Nat -> Prop} {a : C} {x : Nat} (l : Lv G s k K g R) (m : Md G k K g P K' g' Fa s) (ha : a ∈ R) (hx : x ∈ nb G a) (hk : k <= 60) (hb : Bd G K' Fa 30) :
  OneR G s k K g (fun b y => P b y ∨ (b = a /\ y = x)) (fun K g Fa => some (.nx (wEnv G s K g R (.own (Fa.map zAa)) (.dat (zAa a)) (.dat (.str (ws x))) (.dat (zAa (stp' a x)))))) 30 (zGq (wEnv G s K' g' R (.own (Fa.map zAa)) (.dat (zAa a)) (.dat (.str (ws x))) (.dat (zAa (stp' a x))))) := by
 obtain ⟨hw, hg⟩ := QY.mp hx
 have hg := QA.mp hg
 have aK := (m.up a (l.e a ha).1).1
 have gl : (g' a).length <= 1000 := by rw [(m.up a (l.e a ha).1).2, (l.e a ha).2]; lia
 have it := in_w true K' (fD g') (stp' a x)
 by_cases c : stp' a x ∈ K'
 ·rw [QA.mpr c] at it
  exact ⟨K', g', Fa, zAM (oB (oo rfl rfl it)), m.old fun _ => c, hb⟩
 ·rw [show K'.contains (stp' a x) = false from by rw [Bool.eq_false_iff]; exact fun z => c (QA.mp z)] at it
  have la := zMd hg c
  have b1 := hb.k
  have b2 := hb.f
  refine ⟨K' ++ [stp' a x], setG g' (stp' a x) (g' a ++ [x]), Fa ++ [stp' a x], zAU (b := true) (oB (oo rfl rfl it)) (fun _ => ?_) fun z => (by cases z), m.add l ha hw hg c, ⟨by rw [Ql, QT]; lia, by rw [Ql, QT]; lia⟩⟩
  have hl : decide ((fdD K' (fD g')).length < 1000) = true := decide_eq_true (by unfold fdD; rw [Qj]; lia)
  generalize er : wEnv G s K' g' R (.own (Fa.map zAa)) (.dat (zAa a)) (.dat (.str (ws x))) (.dat (zAa (stp' a x))) = ρ
  have own : zBw 2 (eV 5) ρ = some (.str (wstr (g' a))) := by
   subst er
   show (decT (zAa a)).bind (fun ks => if zAG (fdD K' (fD g')) = true then getD (fdD K' (fD g')) ks else none) = _
   rw [zBD, Qi, zCH, if_pos rfl, zFp (fD g') aK]
   rfl
  have ad := oo (gb := eV 6) own (by subst er; rfl) (add_w (g' a) x gl)
  subst er
  have pt : sPut 2 (eV 7) (eOp zB4 (zBw 2 (eV 5)) (eV 6)) (wEnv G s K' g' R (.own (Fa.map zAa)) (.dat (zAa a)) (.dat (.str (ws x))) (.dat (zAa (stp' a x)))) = some (.nx (wEnv G s (K' ++ [stp' a x]) (setG g' (stp' a x) (g' a ++ [x])) R (.own (Fa.map zAa)) (.dat (zAa a)) (.dat (.str (ws x))) (.dat (zAa (stp' a x))))) := by
   show ((eOp zB4 (zBw 2 (eV 5)) (eV 6) _).bind fun d => (some (zAa (stp' a x))).bind fun kd => (decT kd).bind fun ks => if (zAG (fdD K' (fD g')) && decide ((fdD K' (fD g')).length < 1000) && oneD 2 _) = true then some (Out.nx _) else none) = _
   rw [ad, Qi, Qi, zBD, Qi, zCH, put_w _ c, hl]
   rfl
  refine zAk pt ((zEu (i := 4) (ds := Fa.map zAa) (d := zAa (stp' a x)) rfl rfl (by rw [Qj]; lia)).trans ?_)
  rw [Ya]
  rfl
def wIn : Rho -> Option Out := sFor (iSeq (zAf zCw (zAb (eV 0) (zAb (eV 5) eNil)))) (uTup 2 (zBb (zAo 6) (zBb (zAo 7) uNil))) zGq
inductive LvO (G : List C) (s : C) (k : Nat) (K : List C) (g : C -> List Nat) (R : List C) (P : C -> Nat -> Prop) (q : Sl -> Prop) (ρ : Rho) : Prop
 | mk (K' : List C) (g' : C -> List Nat) (Fa : List C) (s5 s6 s7 : Sl) (er : ρ = wEnv G s K' g' R (.own (Fa.map zAa)) s5 s6 s7) (h5 : q s5) (m : Md G k K g P K' g' Fa s) (b : Bd G K' Fa 30) : LvO G s k K g R P q ρ
theorem level {k : Nat} {K R : List C} {g : C -> List Nat} {s5 s6 s7 : Sl} (l : Lv G s k K g R) (hk : k <= 60) (hb : Bd G K [] 30) :
  ∃ ρ', forN (zAo 5) wIn (R.map zAa) (wEnv G s K g R (.own []) s5 s6 s7) = some (.nx ρ') /\ LvO G s k K g R (fun b y => b ∈ ([] ++ R) /\ y ∈ wds) (fun _ => True) ρ' := by
 refine zFe zAa (fun pre ρ => LvO G s k K g R (fun b y => b ∈ pre /\ y ∈ wds) (fun _ => True) ρ) R [] _ ⟨K, g, [], s5, s6, s7, rfl, trivial, (Md.start (R := R)).weak fun b y p _ => (nomatch p.1), hb⟩ fun a ha pre ρ zz => ?_
 obtain ⟨K', g', Fa, t5, t6, t7, rfl, _, m, hb'⟩ := zz
 obtain ⟨ρ2, e2, i2⟩ := zFe (s := uTup 2 (zBb (zAo 6) (zBb (zAo 7) uNil))) (g := zGq) (nbD a) (fun pr ρ => LvO G s k K g R (fun b y => (b ∈ pre /\ y ∈ wds) ∨ (b = a /\ y ∈ pr)) (fun t => t = .dat (zAa a)) ρ) (nb G a) []
  (wEnv G s K' g' R (.own (Fa.map zAa)) (.dat (zAa a)) t6 t7) ⟨K', g', Fa, _, t6, t7, rfl, rfl, m.weak fun b y p _ => p.elim id fun q => (nomatch q.2), hb'⟩ fun x hx pr ρ zz => by
   obtain ⟨K2, g2, Fa2, u5, u6, u7, rfl, rfl, m2, hb2⟩ := zz
   obtain ⟨K3, g3, Fa3, e3, m3, hb3⟩ := zMI l m2 ha hx hk hb2
   refine ⟨wEnv G s K2 g2 R (.own (Fa2.map zAa)) (.dat (zAa a)) (.dat (.str (ws x))) (.dat (zAa (stp' a x))), _, rfl, e3, K3, g3, Fa3, _, _, _, rfl, rfl, m3.weak fun b y p _ => ?_, hb3⟩
   rcases p with p | ⟨p, q⟩
   ·exact .inl (.inl p)
   ·rcases Qz.mp q with q | q
    ·exact .inl (.inr ⟨p, q⟩)
    ·exact .inr ⟨p, Qq.mp q⟩
 obtain ⟨K2, g2, Fa2, u5, u6, u7, rfl, rfl, m2, hb2⟩ := i2
 refine ⟨wEnv G s K' g' R (.own (Fa.map zAa)) (.dat (zAa a)) t6 t7, _, rfl, zA9 (zA1 (zAg rfl (zOp G a)) rfl) e2, K2, g2, Fa2, _, u6, u7, rfl, trivial, m2.weak fun b y p hg => ?_, hb2⟩
 rcases Qz.mp p.1 with q | q
 ·exact .inl ⟨q, p.2⟩
 ·have e := Qq.mp q
  subst e
  exact .inr ⟨rfl, by rw [YM]; exact QY.mpr ⟨p.2, QA.mpr hg⟩⟩
theorem zMe {k : Nat} {K K' Fa : List C} {g g' : C -> List Nat} {P : C -> Nat -> Prop} (m : Md G k K g P K' g' Fa s) : left G K' <= left G K /\ (Fa ≠ [] -> left G K' < left G K) := by
 have sub : ∀ c, (!K'.contains c) = true -> (!K.contains c) = true := fun c hc => by
  rw [Yi, <- Yy, QA] at hc ⊢
  exact fun z => hc (m.up c z).1
 refine ⟨zHq sub G, fun hf => ?_⟩
 obtain ⟨c, hc⟩ := List.exists_mem_of_ne_nil _ hf
 obtain ⟨h1, h2⟩ := (m.fa c).mp hc
 refine zHr sub ⟨c, (m.nw c h1 h2).1.stop, ?_, ?_⟩
 ·rw [Yi, <- Yy, QA]; exact h2
 ·rw [Bool.not_eq_false', QA]; exact h1
inductive WI (G : List C) (s : C) (m : Nat) (ρ : Rho) : Prop
 | mk (K : List C) (g : C -> List Nat) (R : List C) (s4 s5 s6 s7 : Sl) (k : Nat) (er : ρ = wEnv G s K g R s4 s5 s6 s7) (lv : Lv G s k K g R) (hm : m = 2 * left G K + (if R = [] then 0 else 1)) (hk : k + m <= 55) (hK : K.length + left G K <= 26) : WI G s m ρ
inductive WD (G : List C) (s : C) (ρ : Rho) : Prop
 | mk (K : List C) (g : C -> List Nat) (s4 s5 s6 s7 : Sl) (k : Nat) (er : ρ = wEnv G s K g [] s4 s5 s6 s7) (lv : Lv G s k K g []) (hk : k <= 100) : WD G s ρ
def wOut : Rho -> Option Out := sSeq (sOwn 4 eNil) (sSeq (sFor (iSeq (eV 3)) (zAo 5) wIn) (sFrz 4 (sSet 3 (eV 4))))
theorem zOM (m : Nat) (ρ : Rho) (zz : WI G s m ρ) : (eB (eOp dNe (eV 3) (eLst eNil)) (ρ.map frz) = some false /\ WD G s ρ) ∨ (eB (eOp dNe (eV 3) (eLst eNil)) (ρ.map frz) = some true /\ ∃ ρ' m', wOut ρ = some (.nx ρ') /\ m' < m /\ WI G s m' ρ') := by
 obtain ⟨K, g, R, s4, s5, s6, s7, k, rfl, lv, hm, hk, hK⟩ := zz
 have ne := zIx R []
 by_cases c : R = []
 ·subst c
  exact .inl ⟨oB (oo rfl rfl ne), K, g, s4, s5, s6, s7, k, rfl, lv, by lia⟩
 ·rw [decide_eq_false c] at ne
  rw [if_neg c] at hm
  obtain ⟨ρ', e, K', g', Fa, t5, t6, t7, rfl, _, md, hb⟩ := level (s5 := s5) (s6 := s6) (s7 := s7) lv (by lia) ⟨hK, by rw [List.length_nil]; lia⟩
  obtain ⟨le, lt⟩ := zMe md
  have dn : 2 * left G K' + (if Fa = [] then 0 else 1) < m := by
   split
   ·lia
   ·rename_i q; have := lt q; lia
  exact .inr ⟨oB (oo rfl rfl ne), wEnv G s K' g' Fa (.dat (.list (Fa.map zAa))) t5 t6 t7, _, zAk (ρ' := wEnv G s K g R (.own []) s5 s6 s7) rfl (zAk (zA9 (zA1 rfl rfl) e) rfl), dn, K', g', Fa, _, t5, t6, t7, k + 1, rfl, lv.next md fun a ha x hx => ⟨by rw [YM]; exact ha, hx⟩, rfl, by lia, hb.k⟩
theorem zOU (hs : s ∈ G) (hl : G.length <= 25) : ∃ K g, (∀ u c, Pt G s u c -> c ∈ K) /\ (∀ c ∈ K, Pt G s (g c) c /\ (∀ u, Pt G s u c -> (g c).length <= u.length) /\ (g c).length <= 100) /\ zCx [mkD G, zAa s] = some (.dict (fdD K (fD g))) := by
 have l0 : left G [s] <= 25 := Qx (Q2 _ _) hl
 obtain ⟨ρ', ew, K, g, s4, s5, s6, s7, k, rfl, lv, hk⟩ := zJT (WI G s) (WD G s) zOM 900 (2 * left G [s] + 1) (wEnv G s [s] (fun _ => []) [s] .no .no .no .no) (by lia) ⟨[s], _, [s], _, _, _, _, 0, rfl, Lv.zero hs _ rfl, by simp, by lia, by rw [QT]; lia⟩
 refine ⟨K, g, fun u c p => lv.all u c p, fun c hc => ⟨lv.b c hc, lv.c c hc, Qx (lv.f c hc) hk⟩, zAy ?_⟩
 exact zAk (ρ' := [.dat (mkD G), .dat (zAa s), .ownD (fdD [s] (fD fun _ => [])), .no, .no, .no, .no, .no]) rfl (zAk rfl (zAk ew (zAv rfl)))
end
end My
namespace My
open PySem PySem.SeqAt L2 DL SD SL EL DC TB TX EX
def five : List Int := [0, 1, 2, 3, 4]
theorem zNW : (five.all fun a => five.all fun b => zCm (zAa (a, b))) = true := by decide +kernel
theorem zJb {w h : Nat} (hw : w <= 5) (hh : h <= 5) {c : C} (hc : inR w h c = true) : zCm (zAa c) = true := by
 obtain ⟨h1, h2, h3, h4⟩ := zDq.mp hc
 have m : ∀ i : Int, 0 <= i -> i < 5 -> i ∈ five := fun i h0 h5 => by
  unfold five
  simp only [Qk, List.not_mem_nil, or_false]
  lia
 have := QS.mp (QS.mp zNW c.1 (m _ h1 (by lia))) c.2 (m _ h3 (by lia))
 exact this
def wayD : Option (List Nat) -> D
 | some u => .str (wstr u)
 | none => .none
def Wy (G : List C) (a b : C) : Option (List Nat) -> Prop
 | some u => Pt G a u b /\ (∀ v, Pt G a v b -> u.length <= v.length) /\ u.length <= 100
 | none => ∀ u, ¬ Pt G a u b
theorem fx_rt {n : Nat} {g : Rho -> Option Out} {ds : List D} {d : D} (h : g (zAB n ds) = some (.rt d)) : fnX n g ds = some (.inl d) := by
 unfold fnX
 rw [h]
theorem zHF {n : Nat} {g : Rho -> Option Out} {ds : List D} {x : Str} {ρ : Rho} (h : g (zAB n ds) = some (.ex x ρ)) : fnX n g ds = some (.inr x) := by
 unfold fnX
 rw [h]
theorem zJg {g1 g2 : Rho -> Option Out} {ρ ρ' : Rho} {x : Str} (h : g1 ρ = some (.ex x ρ')) : sSeq g1 g2 ρ = some (.ex x ρ') := by
 unfold sSeq
 rw [h]
 rfl
section
variable {w h : Nat} {W : C -> Bool} (hw : w <= 5) (hh : h <= 5)
def Hd (w h : Nat) (W : C -> Bool) (cs : List C) : List C := (opn w h W).filter fun c => !(cs.any fun a => seeB (sol w h W) a c)
theorem zIr {cs : List C} {c : C} : c ∈ Hd w h W cs ↔ c ∈ opn w h W /\ ∀ a ∈ cs, seeB (sol w h W) a c = false := by
 unfold Hd
 rw [QY, Yi, List.any_eq_false]
 simp only [Yy]
include hw hh
theorem zLz {cs : List C} (hc : ∀ a ∈ cs, a ∈ opn w h W) (hl : cs.length <= 900) {one other : C} (h1 : one ∈ opn w h W) (h2 : other ∈ opn w h W) :
  ∃ r, zBX [flD w h W, .list (cs.map zAa), zAa one, zAa other] = some (match r with | some u => .inl (.str (wstr u)) | none => .inr "NoWay") /\ Wy (Hd w h W cs) one other r := by
 have ol := zEn hw hh W
 have oe : zAY [flD w h W] = some (.list ((opn w h W).map zAa)) := zFU hw hh
 have an := zJ2 hw hh hc hl
 have up := zJL w h W
 obtain ⟨sn, hsn⟩ : ∃ sn, sn = (opn w h W).filter fun c => cs.any fun a => seeB (sol w h W) a c := ⟨_, rfl⟩
 rw [<- hsn] at an
 have m1 : zAV [.list (sn.map zAa)] = some (mkD sn) := zFK rfl (by rw [hsn]; exact Qx (Q2 _ _) (by lia)) (by rw [hsn]; exact zCp (zCZ up _))
 have hl2 : (Hd w h W cs).length <= 25 := Qx (Q2 _ _) ol
 have m2 : zAV [.list ((Hd w h W cs).map zAa)] = some (mkD (Hd w h W cs)) := zFK rfl (by lia) (zCp (zCZ up _))
 have lc : eLc (zAJ (iSeq (zAf zAY (zAb (eV 0) eNil))) (zAo 0) (eB (eOp (dIn2 true) (eV 0) (eV 1))) (eV 0) [none, some 4]) [.dat (flD w h W), .dat (.list (cs.map zAa)), .dat (zAa one), .dat (zAa other), .dat (mkD sn), .no, .no] = some (.list ((Hd w h W cs).map zAa)) := by
  refine zBq (xs := opn w h W) zAa (fun c => !sn.contains c) zAa (fun ρ => ∃ s0, ρ = [s0, .dat (mkD sn)]) (zA1 (zAg rfl oe) rfl) (by lia) ⟨_, rfl⟩ ?_ ?_
  ·rintro c _ ρ ⟨s0, rfl⟩
   exact ⟨[.dat (zAa c), .dat (mkD sn)], rfl, ⟨_, rfl⟩, oB (oo rfl rfl (zD7 true c sn)), fun _ => rfl⟩
  ·unfold Hd
   refine congrArg (List.map zAa) (Jp fun c hc' => ?_)
   refine congrArg (fun b => !b) ?_
   rw [hsn, YN, QA, QY]
   exact ⟨fun z => z.2, fun z => ⟨hc', z⟩⟩
 have i1 := zD7 true one (Hd w h W cs)
 have start : zD6 (zAB 7 [flD w h W, .list (cs.map zAa), zAa one, zAa other]) = (sSeq (sIf (eB (eOp (dIn2 true) (eV 2) (eV 5))) (zDE "NoWay" (okP [(okR (eV 2)), okC])) zAu)
   (sSeq (sSet 6 (zAf zCx (zAb (eV 5) (zAb (eV 2) eNil)))) (sSeq (sIf (eB (eOp (dIn2 true) (eV 3) (eV 6))) (zDE "NoWay" (okP [okC, (okR (eV 3))])) zAu) (sRet (eOp dIx2 (eV 6) (eV 3)))))) [.dat (flD w h W), .dat (.list (cs.map zAa)), .dat (zAa one), .dat (zAa other), .dat (mkD sn), .dat (mkD (Hd w h W cs)), .no] := by
  unfold zD6
  rw [show zAB 7 [flD w h W, .list (cs.map zAa), zAa one, zAa other] = [.dat (flD w h W), .dat (.list (cs.map zAa)), .dat (zAa one), .dat (zAa other), .no, .no, .no] from rfl]
  exact zAk (zCU (zAg rfl (zFV (zA8.mp h1).1 (zA8.mp h1).2))) (zAk (zCU (zAg rfl (zFV (zA8.mp h2).1 (zA8.mp h2).2))) (zAk (zAz (zAg (zAp (zAg rfl an) rfl) m1)) (zAk (zAz (zAg (zAp lc rfl) m2)) rfl)))
 by_cases c1 : one ∈ Hd w h W cs
 ·rw [QA.mpr c1] at i1
  obtain ⟨K, g, a1, a2, a3⟩ := zOU c1 hl2
  have i2 := in_w true K (fD g) other
  by_cases c2 : other ∈ K
  ·rw [QA.mpr c2] at i2
   refine ⟨some (g other), fx_rt (start.trans (zAk (zAM (oB (oo rfl rfl i1))) (zAk (zAz (zAg rfl a3)) (zAk (zAM (oB (oo rfl rfl i2))) (zAv (oo rfl rfl (zIb (fD g) c2))))))), a2 other c2⟩
  ·rw [show K.contains other = false from by rw [Bool.eq_false_iff]; exact fun z => c2 (QA.mp z)] at i2
   refine ⟨none, zHF (ρ := [.dat (flD w h W), .dat (.list (cs.map zAa)), .dat (zAa one), .dat (zAa other), .dat (mkD sn), .dat (mkD (Hd w h W cs)), .dat (.dict (fdD K (fD g)))]) (start.trans (zAk (zAM (oB (oo rfl rfl i1))) (zAk (zAz (zAg rfl a3)) (zJg (zAU (b := true) (oB (oo rfl rfl i2)) (fun _ => ?_) fun z => by cases z))))), fun u p => c2 (a1 u _ p)⟩
   show (((if zCm (zAa other) = true then some () else none).bind fun _ => some ()).bind fun _ => some (Out.ex "NoWay" _)) = _
   rw [zJb hw hh (zA8.mp h2).1]
   rfl
 ·rw [show (Hd w h W cs).contains one = false from by rw [Bool.eq_false_iff]; exact fun z => c1 (QA.mp z)] at i1
  refine ⟨none, zHF (ρ := [.dat (flD w h W), .dat (.list (cs.map zAa)), .dat (zAa one), .dat (zAa other), .dat (mkD sn), .dat (mkD (Hd w h W cs)), .no]) (start.trans (zJg (zAU (b := true) (oB (oo rfl rfl i1)) (fun _ => ?_) fun z => by cases z))), fun u p => c1 p.start⟩
  show (((if zCm (zAa one) = true then some () else none).bind fun _ => some ()).bind fun _ => some (Out.ex "NoWay" _)) = _
  rw [zJb hw hh (zA8.mp h1).1]
  rfl
theorem zGr {cs : List C} (hc : ∀ a ∈ cs, a ∈ opn w h W) (hl : cs.length <= 900) {one other : C} (h1 : one ∈ opn w h W) (h2 : other ∈ opn w h W) :
  ∃ r, zBj [flD w h W, .list (cs.map zAa), zAa one, zAa other] = some (wayD r) /\ Wy (Hd w h W cs) one other r := by
 obtain ⟨r, e, q⟩ := zLz hw hh hc hl h1 h2
 refine ⟨r, zAy ?_, q⟩
 unfold zFl zGa zF9 zGs
 rw [show zAB 4 [flD w h W, .list (cs.map zAa), zAa one, zAa other] = [.dat (flD w h W), .dat (.list (cs.map zAa)), .dat (zAa one), .dat (zAa other)] from rfl]
 show (((zBX [flD w h W, .list (cs.map zAa), zAa one, zAa other]).bind _).bind _) = _
 rw [e]
 cases r <;> rfl
end
theorem at_w (a : C) (x : Nat) : zC0 [zAa a, zAa (zB8 x)] = some (zAa (stp' a x)) := zAy (zAv rfl)
def okW (w h : Nat) (W : C -> Bool) (c : C) : Bool := inR w h c && !W c
theorem zIg {w h : Nat} {W : C -> Bool} {a : C} {x : Nat} (hx : x ∈ wds) : zBu [flD w h W, zAa a, .str (ws x)] = some (if okW w h W (stp' a x) = true then zAa (stp' a x) else .none) := by
 have lk := zIo hx
 rw [<- zGm] at lk
 have iw := in_W false (stp' a x) w h W
 refine zAy ?_
 unfold zFh
 rw [show zAB 4 [flD w h W, zAa a, .str (ws x)] = [.dat (flD w h W), .dat (zAa a), .dat (.str (ws x)), .no] from rfl]
 refine zAk (zAz (zAg (zAp rfl (zAp (zJi (tb := zBr) rfl lk) rfl)) (at_w a x))) ?_
 have t : eOr (eB (eOp (dIn false) (eV 3) (eOp dIx (eV 0) (eC (.int 2))))) (eOr (eNot (eB (zBo dLe dLt (eC (.int 0)) (eOp dIx (eV 3) (eC (.int 0))) (eOp dIx (eV 0) (eC (.int 0)))))) (eNot (eB (zBo dLe dLt (eC (.int 0)) (eOp dIx (eV 3) (eC (.int 1))) (eOp dIx (eV 0) (eC (.int 1))))))) [.dat (flD w h W), .dat (zAa a), .dat (.str (ws x)), .dat (zAa (stp' a x))] = some (!okW w h W (stp' a x)) := by
  have e1 : eB (eOp (dIn false) (eV 3) (eOp dIx (eV 0) (eC (.int 2)))) [.dat (flD w h W), .dat (zAa a), .dat (.str (ws x)), .dat (zAa (stp' a x))] = some (sol w h W (stp' a x)) := oB (oo rfl rfl iw)
  have e2 : eNot (eB (zBo dLe dLt (eC (.int 0)) (eOp dIx (eV 3) (eC (.int 0))) (eOp dIx (eV 0) (eC (.int 0))))) [.dat (flD w h W), .dat (zAa a), .dat (.str (ws x)), .dat (zAa (stp' a x))] = some (!(decide (0 <= (stp' a x).1) && decide ((stp' a x).1 < w))) := by
   refine oN (oB ?_)
   show (if decide (0 <= (stp' a x).1) = true then some (PyData.bool (decide ((stp' a x).1 < w))) else some (.bool false)) = _
   cases decide (0 <= (stp' a x).1) <;> rfl
  have e3 : eNot (eB (zBo dLe dLt (eC (.int 0)) (eOp dIx (eV 3) (eC (.int 1))) (eOp dIx (eV 0) (eC (.int 1))))) [.dat (flD w h W), .dat (zAa a), .dat (.str (ws x)), .dat (zAa (stp' a x))] = some (!(decide (0 <= (stp' a x).2) && decide ((stp' a x).2 < h))) := by
   refine oN (oB ?_)
   show (if decide (0 <= (stp' a x).2) = true then some (PyData.bool (decide ((stp' a x).2 < h))) else some (.bool false)) = _
   cases decide (0 <= (stp' a x).2) <;> rfl
  rw [zGL, e1, Qi, zGL, e2, Qi, e3]
  unfold okW sol inR
  cases decide (0 <= (stp' a x).1) <;> cases decide ((stp' a x).1 < w) <;> cases decide (0 <= (stp' a x).2) <;> cases decide ((stp' a x).2 < h) <;> cases W (stp' a x) <;> rfl
 cases o : okW w h W (stp' a x) with
 | true => rw [o] at t; exact zAk (zAM t) (zAv rfl)
 | false => rw [o] at t; exact zCV (zAU (b := true) t (fun _ => zAv rfl) fun z => by cases z)
theorem zJ6 (d : List C) (b : C) : dIx (.list ((d ++ [b]).map zAa)) (.int (-1)) = some (zAa b) := by
 show L2.atI ((d ++ [b]).map zAa) (-1) = _
 unfold L2.atI L2.ixN
 rw [if_neg (by decide), Qj, Ql, QT]
 rw [if_pos (by lia)]
 rw [show ((-1 : Int) + ((d.length + 1 : Nat) : Int)).toNat = d.length by lia]
 simp
theorem zDP (a : C) (u : List Nat) : dIx (.list ((vis a u).map zAa)) (.int (-1)) = some (zAa (fin a u)) := by
 obtain ⟨l, e⟩ := zGp a u
 rw [e]; exact zJ6 l _
theorem zFf {α : Type} {s : D -> Rho -> Option Rho} {g : Rho -> Option Out} (item : α -> D) (I : List α -> Rho -> Prop) (L : List α) (h : ∀ pre a post, L = pre ++ a :: post -> ∀ ρ, I pre ρ -> ∃ ρ1 ρ2, s (item a) ρ = some ρ1 /\ g ρ1 = some (.nx ρ2) /\ I (pre ++ [a]) ρ2) :
  ∀ (xs pre : List α) (ρ : Rho), L = pre ++ xs -> I pre ρ -> ∃ ρ', forN s g (xs.map item) ρ = some (.nx ρ') /\ I L ρ'
 | [], pre, ρ, e, h0 => ⟨ρ, rfl, by rw [e, QW]; exact h0⟩
 | x :: xs, pre, ρ, e, h0 => by
  obtain ⟨ρ1, ρ2, e1, e2, i2⟩ := h pre x xs e ρ h0
  rw [Qo]
  unfold forN
  rw [e1, Qi, e2, Qi]
  exact zFf item I L h xs (pre ++ [x]) ρ2 (by rw [QM]; exact e) i2
theorem zJP : ∀ (s : C) (u v : List Nat), ∀ y ∈ vis s u, y ∈ vis s (u ++ v)
 | s, [], v, y, h => by
  rw [Qq.mp h]
  exact zJy s v
 | s, x :: u, v, y, h => by
  rcases Qk.mp h with e | h
  ·rw [e]; exact Qf
  ·exact Qe _ (zJP (stp' s x) u v y h)
theorem sig_w (u : List Nat) : strD (.str (wstr u)) = some (u.map fun x => .str (ws x)) := by
 show some ((u.toArray.toList.map fun c => (⟨#[c]⟩ : Str)).map PyData.str) = _
 rw [Yg]
 rfl
theorem zLL {ga : Rho -> Option D} {ρ : Rho} {d : D} {l : List D} (h1 : ga ρ = some d) (h2 : strD d = some l) : iStr ga ρ = some l := by
 unfold iStr
 rw [h1]
 exact h2
theorem nn_c (c : C) : zBv (zAa c) .none = some (.bool true) := id rfl
theorem zNZ {i : Nat} {ga : Rho -> Option D} {ρ : Rho} {ds : List D} {c : C} (h1 : ρ[i]? = some (.own ds)) (h2 : ga (ρ.map frz) = some (zAa c)) (h3 : ds.length < 1000) : zCW i ga ρ = some (.nx (ρ.set i (.own (ds ++ [zAa c])))) := by
 unfold zCW
 rw [h1]
 show ((ga (ρ.map frz)).bind _) = _
 rw [h2, Qi, if_pos (by rw [decide_eq_true h3]; rfl)]
theorem zOE {w h : Nat} {W : C -> Bool} {a c : C} {u : List Nat} {G : List C} (p : Pt G a u c) (hG : ∀ x ∈ G, x ∈ opn w h W) (hu : u.length <= 100) : zC4 [flD w h W, zAa a, .str (wstr u)] = some (.list ((vis a u).map zAa)) := by
 refine zAy ?_
 unfold zFk
 rw [show zAB 5 [flD w h W, zAa a, .str (wstr u)] = [.dat (flD w h W), .dat (zAa a), .dat (.str (wstr u)), .no, .no] from rfl]
 refine zAk (ρ' := [.dat (flD w h W), .dat (zAa a), .dat (.str (wstr u)), .own ((vis a []).map zAa), .no]) rfl ?_
 obtain ⟨ρ', e, s4, rfl⟩ := zFf (s := zAo 4) (g := sIf (eB (eOp zBv (eOp dIx (eV 3) (eUn dNeg (eC (.int 1)))) (eC .none))) (zCW 3 (zAf zBu (zAb (eV 0) (zAb (eOp dIx (eV 3) (eUn dNeg (eC (.int 1)))) (zAb (eV 4) eNil))))) zAu) (fun x => .str (ws x))
  (fun pre ρ => ∃ s4, ρ = [.dat (flD w h W), .dat (zAa a), .dat (.str (wstr u)), .own ((vis a pre).map zAa), s4]) u (by
   rintro pre x post eu ρ ⟨s4, rfl⟩
   have hx : x ∈ wds := p.w x (by rw [eu]; exact Qu _ Qf)
   have nx : stp' (fin a pre) x ∈ opn w h W := hG _ (p.i _ (by
    rw [eu, show pre ++ x :: post = (pre ++ [x]) ++ post by simp]
    refine zJP a (pre ++ [x]) post _ ?_
    rw [<- zDo]; exact zD2 _ _))
   have ok : okW w h W (stp' (fin a pre) x) = true := by
    obtain ⟨q1, q2⟩ := zA8.mp nx
    unfold okW
    rw [q1, q2]; rfl
   have lb := zIg (w := w) (h := h) (W := W) (a := fin a pre) hx
   rw [ok, if_pos rfl] at lb
   have af := zDP a pre
   have hl : pre.length <= 100 := by rw [eu] at hu; rw [Ql] at hu; lia
   refine ⟨[.dat (flD w h W), .dat (zAa a), .dat (.str (wstr u)), .own ((vis a pre).map zAa), .dat (.str (ws x))], [.dat (flD w h W), .dat (zAa a), .dat (.str (wstr u)), .own ((vis a (pre ++ [x])).map zAa), .dat (.str (ws x))], rfl, ?_, ⟨_, rfl⟩⟩
   refine zAU (b := true) (oB (oo (oo rfl rfl af) rfl (nn_c _))) (fun _ => ?_) fun z => by cases z
   refine (zNZ (i := 3) (c := stp' (fin a pre) x) rfl (zAg (zAp rfl (zAp (oo rfl rfl af) rfl)) lb) (by rw [Qj, zEK]; lia)).trans ?_
   rw [zCq, Ya]
   rfl) u [] [.dat (flD w h W), .dat (zAa a), .dat (.str (wstr u)), .own ((vis a []).map zAa), .no] rfl ⟨_, rfl⟩
 exact zAk (zA9 (zLL rfl (sig_w u)) e) (zAv rfl)
section
variable {w h : Nat} {W : C -> Bool} (hw : w <= 5) (hh : h <= 5)
include hw hh
theorem zH8 {cs l : List C} (hc : ∀ a ∈ cs, a ∈ opn w h W) (hl : cs.length <= 900) (h2 : ∀ c ∈ l, c ∈ opn w h W) : zBY [flD w h W, .list (cs.map zAa), .list (l.map zAa)] = some (.bool (l.all fun c => !(cs.any fun a => seeB (sol w h W) a c))) := by
 refine zAy ?_
 unfold zFj
 rw [show zAB 4 [flD w h W, .list (cs.map zAa), .list (l.map zAa)] = [.dat (flD w h W), .dat (.list (cs.map zAa)), .dat (.list (l.map zAa)), .no] from rfl]
 have fa := zD3 (s := zAo 3) (g := sIf (eB (eOp dNe (eLc (zAJ (iSeq (eV 1)) (zAo 0) (eB (zAf zB0 (zAb (eV 1) (zAb (eV 0) (zAb (eV 2) eNil))))) (eV 0) [none, some 0, some 3])) (eLst eNil))) (sRet (eC (.bool false))) zAu) zAa (fun ρ => ∃ s3, ρ = [.dat (flD w h W), .dat (.list (cs.map zAa)), .dat (.list (l.map zAa)), s3]) (fun c => cs.any fun a => seeB (sol w h W) a c) (.bool false) l [.dat (flD w h W), .dat (.list (cs.map zAa)), .dat (.list (l.map zAa)), .no] ⟨_, rfl⟩ (by
  rintro c hc' ρ ⟨s3, rfl⟩
  refine ⟨[.dat (flD w h W), .dat (.list (cs.map zAa)), .dat (.list (l.map zAa)), .dat (zAa c)], rfl, ?_⟩
  have lc := zBq (gi := iSeq (eV 1)) (s := zAo 0) (t := eB (zAf zB0 (zAb (eV 1) (zAb (eV 0) (zAb (eV 2) eNil))))) (ge := eV 0) (inner := [none, some 0, some 3]) (ρ := [.dat (flD w h W), .dat (.list (cs.map zAa)), .dat (.list (l.map zAa)), .dat (zAa c)]) (xs := cs) zAa (fun a => seeB (sol w h W) a c) zAa (fun ρ => ∃ s0, ρ = [s0, .dat (flD w h W), .dat (zAa c)]) (zA1 rfl rfl) (by lia) ⟨_, rfl⟩ (by
   rintro a ha ρ ⟨s0, rfl⟩
   exact ⟨[.dat (zAa a), .dat (flD w h W), .dat (zAa c)], rfl, ⟨_, rfl⟩, oB (zAg rfl (zN6 hw hh (zA8.mp (hc a ha)).1 (zA8.mp (h2 c hc')).1)), fun _ => rfl⟩) rfl
  have ne := zIx (cs.filter fun a => seeB (sol w h W) a c) []
  have ee : (!decide ((cs.filter fun a => seeB (sol w h W) a c) = [])) = cs.any fun a => seeB (sol w h W) a c := by
   rw [YN, Yi, decide_eq_false_iff_not, List.filter_eq_nil_iff, List.any_eq_true]
   simp
  rw [ee] at ne
  cases q : cs.any fun a => seeB (sol w h W) a c with
  | true => rw [q] at ne; rw [if_pos rfl]; exact zAU (b := true) (oB (oo lc (zIp _) ne)) (fun _ => rfl) fun z => by cases z
  | false => rw [q] at ne; rw [if_neg Qw]; exact ⟨_, zAM (oB (oo lc (zIp _) ne)), ⟨_, rfl⟩⟩)
 by_cases c : l.any (fun c => cs.any fun a => seeB (sol w h W) a c) = true
 ·rw [if_pos c] at fa
  refine (zCV (zA9 (zA1 rfl rfl) fa)).trans ?_
  have : l.all (fun c => !(cs.any fun a => seeB (sol w h W) a c)) = false := by
   rw [Yz]
   simp only [Bool.not_not]
   rw [c]; rfl
  rw [this]
 ·rw [if_neg c] at fa
  obtain ⟨ρ', e, s3, rfl⟩ := fa
  refine zAk (zA9 (zA1 rfl rfl) e) ?_
  have : l.all (fun c => !(cs.any fun a => seeB (sol w h W) a c)) = true := by
   rw [Yz]
   simp only [Bool.not_not]
   rw [Yy] at c
   rw [c]; rfl
  rw [this]
  exact zAv rfl
end
end My
namespace My
open PySem PySem.SeqAt L2 DL SD SL EL DC TB TX EX
def at0 (l : List C) (k : Nat) : C := l.getD k (0, 0)
theorem ix_L {l : List C} {i : Int} (h0 : 0 <= i) (h1 : i < l.length) : dIx (.list (l.map zAa)) (.int i) = some (zAa (at0 l i.toNat)) /\ at0 l i.toNat ∈ l := by
 have hi : i.toNat < l.length := by lia
 have e : at0 l i.toNat = l[i.toNat] := by unfold at0; simp [List.getD, hi]
 constructor
 ·show L2.atI (l.map zAa) i = _
  unfold L2.atI L2.ixN
  rw [Qj, if_pos h0, if_pos h1, e]
  simp [hi]
 ·rw [e]; exact YF hi
theorem add_L (l m : List C) (h : l.length + m.length <= 1000) : zAs (.list (l.map zAa)) (.list (m.map zAa)) = some (.list ((l ++ m).map zAa)) := by
 show (if (l.map zAa).length + (m.map zAa).length <= 1000 then some (PyData.list (l.map zAa ++ m.map zAa)) else none) = _
 rw [if_pos (by rw [Qj, Qj]; exact h), Ya]
theorem nesw {i : Int} (h0 : 0 <= i) (h1 : i < 4) : ∃ x ∈ wds, dIxS (.str "nesw") (.int i) = some (.str (ws x)) := by
 have e : (Str.ofString "nesw") = ⟨#[110, 101, 115, 119]⟩ := by decide
 rw [e]
 have : i = 0 ∨ i = 1 ∨ i = 2 ∨ i = 3 := by lia
 rcases this with rfl | rfl | rfl | rfl
 ·exact ⟨110, by decide, rfl⟩
 ·exact ⟨101, by decide, rfl⟩
 ·exact ⟨115, by decide, rfl⟩
 ·exact ⟨119, by decide, rfl⟩
theorem zFG {u : List Nat} (h : u.length <= 100) : zBe [.str (wstr u)] = some (.int (u.length : Int)) := by
 show (if decide ((wstr u).length <= 1000000) = true then some (PyData.int ((wstr u).length : Int)) else none) = _
 have e : (wstr u).length = u.length := by unfold wstr Str.length; simp
 rw [e, if_pos (decide_eq_true (by lia))]
theorem zMf {gb : Rho -> Option D} {ga : Rho -> Option D} {ρ : Rho} {u : List Nat} (h : u.length <= 100) (h1 : ga ρ = some (.str (wstr u))) (h2 : gb ρ = some (.str "")) : zAf zBe (zAb (eOrS ga gb) eNil) ρ = some (.int (u.length : Int)) := by
 have e : (wstr u).length = u.length := by unfold wstr Str.length; simp
 have o : eOrS ga gb ρ = if u.length = 0 then some (.str "") else some (.str (wstr u)) := by
  unfold eOrS
  rw [h1]
  show (if (wstr u).length <= 1000000 then (if (wstr u).length = 0 then gb ρ else some (PyData.str (wstr u))) else none) = _
  rw [e, if_pos (by lia), h2]
 by_cases c : u.length = 0
 ·rw [if_pos c] at o
  refine zAg (zAp o rfl) ?_
  rw [c, show (Str.ofString "") = ⟨#[]⟩ from by decide]
  rfl
 ·rw [if_neg c] at o
  exact zAg (zAp o rfl) (zFG h)
theorem zNn (ns : List Int) (hn : ns.length <= 63) {O : List C} (hO : O ≠ []) {ρ : Rho} (h0 : ρ[0]? = some (.dat (scr ns))) (hj : zBx [none, some 2, some 0] ρ = [.no, .dat (.list (O.map zAa)), .dat (scr ns)]) :
  ∃ Z : List C, (∀ z ∈ Z, z ∈ O) /\ Z.length <= 2 /\ eLc (zAJ (zA0 (zAb (zAf zAI (zAb (eV 0) (zAb (eC (.int 63)) (zAb (eC (.int 3)) eNil)))) eNil)) (zAo 0) eT (eOp dIx (eV 1) (zAf zAI (zAb (eV 2) (zAb (eOp zAs (eC (.int 64)) (eV 0)) (zAb (zAf dLen (zAb (eV 1) eNil)) eNil))))) [none, some 2, some 0]) ρ = some (.list (Z.map zAa)) := by
 have ol : 0 < (O.length : Int) := by
  cases O with
  | nil => exact absurd rfl hO
  | cons a l => rw [QV]; lia
 obtain ⟨d63, q0, q1⟩ := zBm ns hn 63 3 (by decide)
 obtain ⟨m, hm⟩ : ∃ m : Nat, dr ns 63 3 = (m : Int) := ⟨(dr ns 63 3).toNat, by lia⟩
 rw [hm] at d63 q1
 have hm3 : m <= 2 := by lia
 obtain ⟨pk, hpk⟩ : ∃ pk : Nat -> C, pk = fun (k : Nat) => at0 O (dr ns (64 + (k : Int)) (O.length : Int)).toNat := ⟨_, rfl⟩
 have v0 : eV 0 ρ = some (scr ns) := by unfold eV; rw [h0]
 refine ⟨(List.range m).map pk, fun z hz => ?_, by rw [Qj, QR]; exact hm3, zBq (xs := List.range m) (fun (k : Nat) => .int (k : Int)) (fun _ => true) (fun k => zAa (pk k)) (fun ρ => ∃ s0, ρ = [s0, .dat (.list (O.map zAa)), .dat (scr ns)]) (zEb (n := m) (zAp (zAg (zAp v0 (zAp rfl (zAp rfl rfl))) d63) rfl) (by lia)) (by rw [QR]; lia) ⟨_, hj⟩ ?_ ?_⟩
 ·obtain ⟨k, hk, rfl⟩ := QJ.mp hz
  obtain ⟨_, d0, d1⟩ := zBm ns hn (64 + (k : Int)) (O.length : Int) ol
  rw [hpk]
  exact (ix_L d0 d1).2
 ·rintro k hk ρ ⟨s0, rfl⟩
  obtain ⟨dw, d0, d1⟩ := zBm ns hn (64 + (k : Int)) (O.length : Int) ol
  have ix := (ix_L d0 d1).1
  refine ⟨[.dat (.int (k : Int)), .dat (.list (O.map zAa)), .dat (scr ns)], rfl, ⟨_, rfl⟩, rfl, fun _ => ?_⟩
  have ln : dLen [.list (O.map zAa)] = some (.int (O.length : Int)) := by rw [zEd, Qj]
  rw [hpk]
  exact oo rfl (zAg (zAp rfl (zAp rfl (zAp (zAg rfl ln) rfl))) dw) ix
 ·rw [zDn, Yg]; rfl
theorem zJh {i : Nat} {ga : Rho -> Option D} {ρ : Rho} {d : D} (h : ga (ρ.map frz) = some d) (hd : noL d = true) : zDF i ga ρ = some (.nx (ρ.set i (.dat d))) := by
 unfold zDF
 rw [h, Qi, if_pos hd]
theorem zLy {w h : Nat} {W : C -> Bool} {cs l : List C} (ho : ∀ c ∈ l, c ∈ opn w h W) (h1 : l.all (fun c => !(cs.any fun a => seeB (sol w h W) a c)) = true) : ∀ c ∈ l, c ∈ Hd w h W cs := fun c hc => by
 refine QY.mpr ⟨ho c hc, ?_⟩
 exact QS.mp h1 c hc
theorem zJ0 {w h : Nat} {W : C -> Bool} {cs l : List C} (h1 : ∀ c ∈ l, c ∈ Hd w h W cs) : l.all (fun c => !(cs.any fun a => seeB (sol w h W) a c)) = true := by
 rw [QS]
 exact fun c hc => (QY.mp (h1 c hc)).2
theorem zLG (r : Option (List Nat)) : dIsN (wayD r) .none = some (.bool r.isNone) := by cases r <;> rfl
theorem zOW {G G' : List C} {a b : C} {r : Option (List Nat)} (q : Wy G a b r) (h : ∀ u, ¬ Pt G' a u b) (m : ∀ x ∈ G, x ∈ G') : r = none := by
 cases r with
 | none => rfl
 | some u => exact absurd (q.1.mono m) (h u)
def ev (ns : List Int) (w h : Nat) (W : C -> Bool) (O : List C) (one : C) (Z : List C) (ext : C) (u : Sl) (s7 s8 s9 s10 s11 s12 s13 : Sl) : Rho := [.dat (scr ns), .dat (flD w h W), .dat (.list (O.map zAa)), .dat (zAa one), .dat (.list (Z.map zAa)), .dat (.list ((Z ++ [ext]).map zAa)), u, s7, s8, s9, s10, s11, s12, s13]
inductive DrI (f : Sl -> Sl -> Sl -> Rho) (O : List C) (one : C) (n : Nat) (ρ : Rho) : Prop
 | mk (u : List Nat) (s7 s8 : Sl) (er : ρ = f (.own ((vis one u).map zAa)) s7 s8) (uw : ∀ x ∈ u, x ∈ wds) (uv : ∀ y ∈ vis one u, y ∈ O) (ul : u.length <= n) : DrI f O one n ρ
inductive OtI (f : Sl -> Sl -> Sl -> Sl -> Sl -> Rho) (ρ : Rho) : Prop
 | mk (s9 s10 s11 s12 s13 : Sl) (er : ρ = f s9 s10 s11 s12 s13) : OtI f ρ
theorem main (ns : List Int) (hn : ns.length <= 63) : Glaw [.list (ns.map PyData.int)] = some (.bool true) := by
 obtain ⟨w, h, W, eF, w1, w4, h1, h4⟩ := zLp ns hn 0 4 (by decide) (by decide)
 have eF : zCr [scr ns, .int 0, .int 4] = some (flD w h W) := eF
 have w5 : w <= 5 := by lia
 have h5 : h <= 5 := by lia
 have lo := zMi (W := W) w5 h1 h5
 have ol := zEn w5 h5 W
 refine zAy ?_
 unfold glaw
 show _ = some (Out.rt (.bool true))
 rw [show zAB 14 [PyData.list (ns.map PyData.int)] = [.dat (scr ns), .no, .no, .no, .no, .no, .no, .no, .no, .no, .no, .no, .no, .no] from rfl]
 refine zAk (zAz (zAg rfl eF)) (zAk (zAz (zAg rfl lo)) ?_)
 have e0 := eq_Ls (opn w h W) []
 by_cases c0 : opn w h W = []
 ·rw [decide_eq_true c0] at e0
  exact zCV (zAU (b := true) (oB (oo rfl rfl e0)) (fun _ => zAv rfl) fun z => by cases z)
 rw [decide_eq_false c0] at e0
 refine zAk (zAM (oB (oo rfl rfl e0))) ?_
 obtain ⟨O, hO⟩ : ∃ O, O = opn w h W := ⟨_, rfl⟩
 rw [<- hO] at ol c0 ⊢
 have o0 : 0 < (O.length : Int) := by
  cases O with
  | nil => exact absurd rfl c0
  | cons a l => rw [QV]; lia
 have ln : dLen [.list (O.map zAa)] = some (.int (O.length : Int)) := by rw [zEd, Qj]
 obtain ⟨d61, p0, p1⟩ := zBm ns hn 61 (O.length : Int) o0
 obtain ⟨ix1, i1⟩ := ix_L p0 p1
 generalize at0 O (dr ns 61 (O.length : Int)).toNat = one at ix1 i1
 obtain ⟨d67, p2, p3⟩ := zBm ns hn 67 (O.length : Int) o0
 obtain ⟨ix2, i2⟩ := ix_L p2 p3
 generalize at0 O (dr ns 67 (O.length : Int)).toNat = ext at ix2 i2
 obtain ⟨d62, p4, p5⟩ := zBm ns hn 62 (O.length : Int) o0
 obtain ⟨ix3, i3⟩ := ix_L p4 p5
 generalize at0 O (dr ns 62 (O.length : Int)).toNat = oth at ix3 i3
 refine zAk (zAz (oo rfl (zAg (zAp rfl (zAp rfl (zAp (zAg rfl ln) rfl))) d61) ix1)) ?_
 obtain ⟨Z, hZ, lZ, eZ⟩ := zNn ns hn c0 (ρ := [.dat (scr ns), .dat (flD w h W), .dat (.list (O.map zAa)), .dat (zAa one), .no, .no, .no, .no, .no, .no, .no, .no, .no, .no]) rfl rfl
 refine zAk (zAz eZ) ?_
 refine zAk (zAz (oo rfl (zJ3.trans (by rw [zAp (oo rfl (zAg (zAp rfl (zAp rfl (zAp (zAg rfl ln) rfl))) d67) ix2) rfl]; rfl)) (add_L Z [ext] (by rw [QT]; lia)))) ?_
 refine zAk (ρ' := (ev ns w h W O one Z ext (.own ((vis one []).map zAa)) .no .no .no .no .no .no .no)) rfl ?_
 obtain ⟨n, hn12, en⟩ : ∃ n : Nat, n <= 12 /\ zAb (zAf zEU (zAb (eC (.int 1)) (zAb (zAf zEV (zAb (eC (.int 12)) (zAb (zAf dLen (zAb (eV 0) eNil)) eNil))) eNil))) eNil (ev ns w h W O one Z ext (.own ((vis one []).map zAa)) .no .no .no .no .no .no .no) = some [.int (n : Int)] := by
  have ls : dLen [scr ns] = some (.int (ns.length : Int)) := by unfold scr; rw [zEd, Qj]
  obtain ⟨y, hy⟩ : ∃ y : Int, y = if (ns.length : Int) < 12 then (ns.length : Int) else 12 := ⟨_, rfl⟩
  obtain ⟨z, hz⟩ : ∃ z : Int, z = if y > 1 then y else 1 := ⟨_, rfl⟩
  have y12 : y <= 12 /\ 0 <= y := by rw [hy]; split <;> lia
  have z12 : z <= 12 /\ 0 <= z := by rw [hz]; split <;> lia
  refine ⟨z.toNat, by lia, zAp (zAg (zAp rfl (zAp (zAg (zAp rfl (zAp (zAg rfl ls) rfl)) (show _ = some (PyData.int y) from by rw [hy]; rfl)) rfl)) (show _ = some (PyData.int ((z.toNat : Nat) : Int)) from ?_)) rfl⟩
  rw [show ((z.toNat : Nat) : Int) = z by lia, hz]
  rfl
 obtain ⟨ρ', ef, u, s7, s8, er, uw, uv, ul⟩ := zFf (s := zAo 7) (g := sSeq (zDF 8 (zAf zBu (zAb (eV 1) (zAb (eOp dIx (eV 6) (eUn dNeg (eC (.int 1)))) (zAb (eOp dIxS (eC (.str "nesw")) (zAf zAI (zAb (eV 0) (zAb (eOp zAs (eC (.int 70)) (eV 7)) (zAb (eC (.int 4)) eNil))))) eNil))))) (sIf (eB (eOp zBv (eV 8) (eC .none))) (sApp 6 (eV 8)) zAu)) (fun (k : Nat) => .int (k : Int))
  (fun pre ρ => DrI (fun u s7 s8 => ev ns w h W O one Z ext u s7 s8 .no .no .no .no .no) O one pre.length ρ) (List.range n) (by
   rintro pre k post epre ρ ⟨u, s7, s8, rfl, uw, uv, ul⟩
   have pl : pre.length <= 12 := by
    have := congrArg List.length epre
    rw [QR, Ql] at this
    lia
   obtain ⟨dk, k0, k1⟩ := zBm ns hn (70 + (k : Int)) 4 (by decide)
   obtain ⟨x, hx, ex⟩ := nesw k0 k1
   have lb := zIg (w := w) (h := h) (W := W) (a := fin one u) hx
   have af := zDP one u
   refine ⟨(ev ns w h W O one Z ext (.own ((vis one u).map zAa)) (.dat (.int (k : Int))) s8 .no .no .no .no .no), ?_⟩
   have gb : zAf zBu (zAb (eV 1) (zAb (eOp dIx (eV 6) (eUn dNeg (eC (.int 1)))) (zAb (eOp dIxS (eC (.str "nesw")) (zAf zAI (zAb (eV 0) (zAb (eOp zAs (eC (.int 70)) (eV 7)) (zAb (eC (.int 4)) eNil))))) eNil))) (ev ns w h W O one Z ext (.dat (.list ((vis one u).map zAa))) (.dat (.int (k : Int))) (frz s8) .no .no .no .no .no) = some (if okW w h W (stp' (fin one u) x) = true then zAa (stp' (fin one u) x) else .none) :=
    zAg (zAp rfl (zAp (oo rfl rfl af) (zAp (oo rfl (zAg (zAp rfl (zAp rfl (zAp rfl rfl))) dk) ex) rfl))) lb
   cases ok : okW w h W (stp' (fin one u) x) with
   | true =>
    rw [ok, if_pos rfl] at gb
    have nO : stp' (fin one u) x ∈ O := by
     unfold okW at ok
     rw [QH, Yi] at ok
     rw [hO]; exact zA8.mpr ok
    refine ⟨(ev ns w h W O one Z ext (.own ((vis one (u ++ [x])).map zAa)) (.dat (.int (k : Int))) (.dat (zAa (stp' (fin one u) x))) .no .no .no .no .no), rfl, zAk (zJh gb rfl) (zAU (b := true) (oB (oo rfl rfl (nn_c _))) (fun _ => ?_) fun z => by cases z), u ++ [x], _, _, rfl, fun y hy => ?_, fun y hy => ?_, ?_⟩
    ·refine (zEu (i := 6) (d := zAa (stp' (fin one u) x)) rfl rfl (by rw [Qj, zEK]; lia)).trans ?_
     rw [show (vis one (u ++ [x])).map zAa = (vis one u).map zAa ++ [zAa (stp' (fin one u) x)] from by rw [zCq, Ya]; rfl]
     rfl
    ·rcases Qz.mp hy with hy | hy
     ·exact uw y hy
     ·rw [Qq.mp hy]; exact hx
    ·rw [zCq] at hy
     rcases Qz.mp hy with hy | hy
     ·exact uv y hy
     ·rw [Qq.mp hy]; exact nO
    ·rw [Ql, Ql]; exact Nat.add_le_add_right ul _
   | false =>
    rw [ok, if_neg Qw] at gb
    exact ⟨_, rfl, zAk (zJh gb rfl) (zAM rfl), u, _, _, rfl, uw, uv, by rw [Ql]; lia⟩) (List.range n) [] (ev ns w h W O one Z ext (.own ((vis one []).map zAa)) .no .no .no .no .no .no .no) rfl ⟨[], .no, .no, rfl, fun _ z => (nomatch z), fun y hy => by rw [Qq.mp hy]; exact i1, Qh _⟩
 subst er
 rw [QR] at ul
 refine zAk (zF8 en (by lia) ef) (zN2 ?_)
 have af := zDP one u
 have lv : dLen [.list ((vis one u).map zAa)] = some (.int ((u.length + 1 : Nat) : Int)) := by rw [zEd, Qj, zEK]
 have fO : fin one u ∈ O := uv _ (zD2 one u)
 have zO : ∀ a ∈ Z, a ∈ opn w h W := fun a ha => by rw [<- hO]; exact hZ a ha
 have mO : ∀ a ∈ Z ++ [ext], a ∈ opn w h W := fun a ha => by
  rcases Qz.mp ha with ha | ha
  ·exact zO a ha
  ·rw [<- hO, Qq.mp ha]; exact i2
 have ml : (Z ++ [ext]).length <= 900 := by rw [Ql, QT]; lia
 have sub : ∀ x ∈ Hd w h W (Z ++ [ext]), x ∈ Hd w h W Z := fun x hx => by
  rw [zIr] at hx ⊢
  exact ⟨hx.1, fun a ha => hx.2 a (QK _ ha)⟩
 have gO : ∀ x ∈ Hd w h W Z, x ∈ opn w h W := fun x hx => (zIr.mp hx).1
 have ih := zH8 (l := vis one u) w5 h5 zO (by lia) (fun c hc => by rw [<- hO]; exact uv c hc)
 have one' : one ∈ opn w h W := by rw [<- hO]; exact i1
 show sSeq _ _ (ev ns w h W O one Z ext (.dat (.list ((vis one u).map zAa))) s7 s8 .no .no .no .no .no) = _
 refine zN3 zAa (OtI fun s9 s10 s11 s12 s13 => ev ns w h W O one Z ext (.dat (.list ((vis one u).map zAa))) s7 s8 s9 s10 s11 s12 s13) [fin one u, oth]
  (zA1 (oT2 (oo rfl rfl af) (oo rfl (zAg (zAp rfl (zAp rfl (zAp (zAg rfl ln) rfl))) d62) ix3)) rfl) ⟨_, _, _, _, _, rfl⟩ ?_ (by rintro ρ ⟨s9, s10, s11, s12, s13, rfl⟩; exact zAv rfl)
 rintro b hb ρ ⟨s9, s10, s11, s12, s13, rfl⟩
 have bO : b ∈ opn w h W := by
  rw [<- hO]
  rcases Qk.mp hb with e | e
  ·rw [e]; exact fO
  ·rw [Qq.mp e]; exact i3
 refine ⟨(ev ns w h W O one Z ext (.dat (.list ((vis one u).map zAa))) s7 s8 (.dat (zAa b)) s10 s11 s12 s13), rfl, ?_⟩
 obtain ⟨r, er, qr⟩ := zGr w5 h5 zO (by lia) one' bO
 obtain ⟨rB, eB', qB⟩ := zGr w5 h5 zO (by lia) bO one'
 obtain ⟨rM, eM, qM⟩ := zGr w5 h5 mO ml one' bO
 obtain ⟨dr', hdr⟩ : ∃ d : Bool, d = ((b == fin one u) && (vis one u).all fun c => !(Z.any fun a => seeB (sol w h W) a c)) := ⟨_, rfl⟩
 have dp : dr' = true -> Pt (Hd w h W Z) one u b := fun z => by
  rw [hdr, QH, beq_iff_eq] at z
  exact ⟨uw, z.1.symm, zLy (fun c hc => by rw [<- hO]; exact uv c hc) z.2⟩
 have ed : zBn (eOp dEq (eV 9) (eOp dIx (eV 6) (eUn dNeg (eC (.int 1))))) (zAf zBY (zAb (eV 1) (zAb (eV 4) (zAb (eV 6) eNil)))) (ev ns w h W O one Z ext (.dat (.list ((vis one u).map zAa))) s7 s8 (.dat (zAa b)) (.dat (wayD r)) s11 s12 s13) = some (.bool dr') := by
  have eq := eq_c b (fin one u)
  rw [hdr]
  cases q : b == fin one u with
  | true => rw [q] at eq; exact oAV (oo rfl (oo rfl rfl af) eq) (zAg rfl ih)
  | false => rw [q] at eq; exact oAV0 (oo rfl (oo rfl rfl af) eq)
 refine zCf (zAz (zAg rfl er)) ?_
 show Nx (sSeq _ _) (ev ns w h W O one Z ext (.dat (.list ((vis one u).map zAa))) s7 s8 (.dat (zAa b)) (.dat (wayD r)) s11 s12 s13) _
 refine zCf (zAz ed) ?_
 refine nx_if (oB (oo rfl rfl (zLG r))) (fun z => ?_) fun z => ?_
 ·-- no way
  have rn : r = none := by cases r with | none => rfl | some v => cases z
  subst rn
  have np : ∀ v, ¬ Pt (Hd w h W Z) one v b := qr
  have d0 : dr' = false := by
   cases q : dr' with
   | false => rfl
   | true => exact absurd (dp q) (np u)
  have rm : rM = none := zOW qM np sub
  have rb : rB = none := by
   cases rB with
   | none => rfl
   | some v => exact absurd qB.1.back (np _)
  subst rm rb d0
  exact zCf (zEv (oO0 rfl (oB (oo (zAg rfl eM) rfl rfl)))) (zII (oB (oo (zAg rfl eB') rfl rfl)) ⟨_, _, _, _, _, rfl⟩)
 ·obtain ⟨v, rv⟩ : ∃ v, r = some v := by cases r with | none => cases z | some v => exact ⟨v, rfl⟩
  subst rv
  obtain ⟨pv, mv, lv'⟩ := qr
  have te := zOE pv gO lv'
  have ih2 := zH8 (l := vis one v) w5 h5 zO (by lia) (fun c hc => gO c (pv.i c hc))
  rw [zJ0 pv.i] at ih2
  have lw := zFG lv'
  obtain ⟨v', rv'⟩ : ∃ v', rB = some v' := by
   cases rB with
   | none => exact absurd pv.back (qB _)
   | some v' => exact ⟨v', rfl⟩
  subst rv'
  obtain ⟨pb, mb, lb'⟩ := qB
  have same : v'.length = v.length := by
   have g1 := mb _ pv.back
   have g2 := mv _ pb.back
   rw [zJ7] at g1 g2
   lia
  have lob := zMf (gb := eC (.str "")) (ga := zAf zBj (zAb (eV 1) (zAb (eV 4) (zAb (eV 9) (zAb (eV 3) eNil))))) (ρ := (ev ns w h W O one Z ext (.dat (.list ((vis one u).map zAa))) (frz s7) (frz s8) (.dat (zAa b)) (.dat (.str (wstr v))) (.dat (.bool dr')) (.dat (.list ((vis one v).map zAa))) (frz s13))) lb' (zAg rfl eB') rfl
  refine zCf (zAz (zAg rfl te)) ?_
  have fv := zDP one v
  rw [pv.e] at fv
  refine zCf (zEv (oO0 (oB (oo (oo rfl rfl fv) rfl (show _ = some (PyData.bool false) from by rw [ne_c, beq_self_eq_true]; rfl))) (oN (oB (zAg rfl ih2))))) ?_
  have t1 : eAnd (eB (eV 11)) (eB (eOp dGt (zAf zBe (zAb (eV 10) eNil)) (eOp dSub (zAf dLen (zAb (eV 6) eNil)) (eC (.int 1))))) (ev ns w h W O one Z ext (.dat (.list ((vis one u).map zAa))) (frz s7) (frz s8) (.dat (zAa b)) (.dat (.str (wstr v))) (.dat (.bool dr')) (.dat (.list ((vis one v).map zAa))) (frz s13)) = some false := by
   cases q : dr' with
   | false => exact oA0 rfl
   | true =>
    have g := mv u (dp q)
    refine oA1 rfl (oB (oo (zAg rfl lw) (oo (zAg rfl lv) rfl rfl) ?_))
    show some (PyData.bool (decide ((((u.length + 1 : Nat) : Int) - 1) < (v.length : Int)))) = _
    rw [decide_eq_false (by lia)]
  have t2 : eB (eOp dNe (zAf zBe (zAb (eOrS (zAf zBj (zAb (eV 1) (zAb (eV 4) (zAb (eV 9) (zAb (eV 3) eNil))))) (eC (.str ""))) eNil)) (zAf zBe (zAb (eV 10) eNil))) (ev ns w h W O one Z ext (.dat (.list ((vis one u).map zAa))) (frz s7) (frz s8) (.dat (zAa b)) (.dat (.str (wstr v))) (.dat (.bool dr')) (.dat (.list ((vis one v).map zAa))) (frz s13)) = some false := by
   refine oB (oo lob (zAg rfl lw) ?_)
   rw [ne_i, same, beq_self_eq_true]
   rfl
  refine zCf (zEv (oO0 t1 t2)) ?_
  refine zCf (zAz (zAg rfl eM)) (zII ?_ ⟨_, _, _, _, _, rfl⟩)
  cases rM with
  | none => exact oA0 (oB (oo rfl rfl rfl))
  | some v'' =>
   obtain ⟨pm, mm, lm⟩ := qM
   have g := mv v'' (pm.mono sub)
   refine oA1 (oB (oo rfl rfl rfl)) (oB (oo (zAg rfl (zFG lm)) (zAg rfl lw) ?_))
   show some (PyData.bool (decide ((v''.length : Int) < (v.length : Int)))) = _
   rw [decide_eq_false (by lia)]
end My
namespace My
open PySem PySem.Spec PySem.SeqAt PyProof.Rows L2 CL DL SD ZL SL EL DC EX TX TB TX
theorem us1 {p : List Value -> Prop} {us : List Value} (h : us.length = 1) (q : ∀ a, p [a]) : p us := by
 rcases us with _ | ⟨a, _ | ⟨b, r⟩⟩
 ·cases h
 ·exact q a
 ·simp at h
theorem us2 {p : List Value -> Prop} {us : List Value} (h : us.length = 2) (q : ∀ a b, p [a, b]) : p us := by
 rcases us with _ | ⟨a, r⟩
 ·cases h
 ·exact us1 (p := fun r => p (a :: r)) (us := r) (by simpa using h) fun b => q a b
theorem us3 {p : List Value -> Prop} {us : List Value} (h : us.length = 3) (q : ∀ a b c, p [a, b, c]) : p us := by
 rcases us with _ | ⟨a, r⟩
 ·cases h
 ·exact us2 (p := fun r => p (a :: r)) (us := r) (by simpa using h) fun b c => q a b c
theorem us4 {p : List Value -> Prop} {us : List Value} (h : us.length = 4) (q : ∀ a b c d, p [a, b, c, d]) : p us := by
 rcases us with _ | ⟨a, r⟩
 ·cases h
 ·exact us3 (p := fun r => p (a :: r)) (us := r) (by simpa using h) fun b c d => q a b c d
theorem all_mk (main : ∀ ns : List Int, ns.length <= 63 -> Glaw [.list (ns.map PyData.int)] = some (.bool true)) {l : PySem.W.OpenLaw} {w : World} {K : PySem.W.Frag} {mg : Str -> Option Value} {fa : Addr} (hfa : mg "law" = some (.ref fa)) (T : ∃ a d ta e_NoWay, Txt K mg a d w ta e_NoWay) :
  ∃ fd : FuncData, (∀ (s : Shared) (v : Value), BindsTo s fd ⟨[v], []⟩ [("_law_script", v)]) /\ ∀ base : Heap, K.In base -> base.Ns mainGlobals mg -> FnOk l.prog w K mg base CX0 12 fa fd ["_law_script"] (zEG K Glaw) := by
 obtain ⟨a, d, ta, e_NoWay, T⟩ := T
 have e := T.F_qv.m.symm.trans hfa
 cases e
 obtain ⟨oc, od, kV, doc, pm, an, cdv, ct, osl, e, _⟩ := T.F_qv.F.ex
 refine ⟨d 31, fun s v => by rw [e]; exact .of_eq rfl, fun base _ _ => ?_⟩
 have G_qo := ok_qo (P := l.prog) (w := w) (base := base) T
 have G_qj := ok_qj (P := l.prog) (w := w) (base := base) T
 have G_qt := ok_qt (P := l.prog) (w := w) (base := base) T
 have G_qq := ok_qq (P := l.prog) (w := w) (base := base) T
 have G_q3 := ok_q3 (P := l.prog) (w := w) (base := base) T
 have G_qs := ok_qs (P := l.prog) (w := w) (base := base) T
 have G_qh := ok_qh (P := l.prog) (w := w) (base := base) T
 have G_qe := ok_qe (P := l.prog) (w := w) (base := base) T
 have G_qp := ok_qp (P := l.prog) (w := w) (base := base) T
 have G_q2 := ok_q2 (P := l.prog) (w := w) (base := base) T G_qo
 have G_qc := ok_qc (P := l.prog) (w := w) (base := base) T G_qj
 have G_qm := ok_qm (P := l.prog) (w := w) (base := base) T G_qq G_q3
 have G_qf := ok_qf (P := l.prog) (w := w) (base := base) T G_qs
 have G_qa := ok_qa (P := l.prog) (w := w) (base := base) T G_qh
 have G_qi := ok_qi (P := l.prog) (w := w) (base := base) T G_qe
 have G_q7 := ok_q7 (P := l.prog) (w := w) (base := base) T G_qp
 have G_qr := ok_qr (P := l.prog) (w := w) (base := base) T G_q2
 have G_q5 := ok_q5 (P := l.prog) (w := w) (base := base) T G_qm
 have G_qg := ok_qg (P := l.prog) (w := w) (base := base) T G_qf
 have G_qb := ok_qb (P := l.prog) (w := w) (base := base) T G_qa
 have G_q6 := ok_q6 (P := l.prog) (w := w) (base := base) T G_q7
 have G_q0 := ok_q0 (P := l.prog) (w := w) (base := base) T G_qr
 have G_ql := ok_ql (P := l.prog) (w := w) (base := base) T G_q0
 have G_qu := ok_qu (P := l.prog) (w := w) (base := base) T G_q0 G_q5 G_qt
 have G_q1 := ok_q1 (P := l.prog) (w := w) (base := base) T G_ql
 have G_q4 := ok_q4 (P := l.prog) (w := w) (base := base) T G_qu
 have G_qk := ok_qk (P := l.prog) (w := w) (base := base) T G_q1 G_qt G_qc G_qm
 have G_q9 := ok_q9 (P := l.prog) (w := w) (base := base) T G_qk G_qc
 have G_q8 := ok_q8 (P := l.prog) (w := w) (base := base) T G_q9
 have GX_hidden_way := zMH (P := l.prog) (w := w) (base := base) T G_q1 G_qt G_qg G_q8 G_qc
 have G_qd := zLr (G' := zGt) rfl GX_hidden_way
 have G_qn := ok_qn (P := l.prog) (w := w) (base := base) T G_qd GX_hidden_way
 have G_qv := ok_qv (P := l.prog) (w := w) (base := base) T G_qb G_qi G_qa G_q7 G_qn G_q4 G_q6
 exact law_D G_qv main
theorem fo1 {K : PySem.W.Frag} {h : Heap} {mg : Str -> Option Value} {n : Str} {st : Stmt} {ps : List Str} {f : Addr} {od an : Option Addr} {sl : Array (Option Value)} {oc kV dc pm cd ct : Value} (X : K.In h) (G : h.Ns mainGlobals mg) (hl : ps.length = 1) (hb : ∀ x0, bindArgs (PySem.W.fnOf n n (zAX st) (zAP st) (zAj st) .none kV dc pm an cd ct) ⟨[x0], []⟩ = pure (List.zip ps [x0]))
  (a : PySem.W.nsIn K mainGlobals n = some (some (.ref f))) (l : K.lookup f = some ⟨oc, od, .func (PySem.W.fnOf n n (zAX st) (zAP st) (zAj st) .none kV dc pm an cd ct), sl⟩) (c : PySem.W.codeIn K cd n = true) (k : PySem.W.keepIn K (.ref f) = true) : Fo K mg n st ps f (PySem.W.fnOf n n (zAX st) (zAP st) (zAj st) .none kV dc pm an cd ct) :=
 ⟨zD4 l c k, PySem.W.mg_of X G a, .all fun us hu => us1 (p := fun us => bindArgs _ ⟨us, []⟩ = pure (List.zip _ us)) (hu.trans hl) hb⟩
theorem fo2 {K : PySem.W.Frag} {h : Heap} {mg : Str -> Option Value} {n : Str} {st : Stmt} {ps : List Str} {f : Addr} {od an : Option Addr} {sl : Array (Option Value)} {oc kV dc pm cd ct : Value} (X : K.In h) (G : h.Ns mainGlobals mg) (hl : ps.length = 2) (hb : ∀ x0 x1, bindArgs (PySem.W.fnOf n n (zAX st) (zAP st) (zAj st) .none kV dc pm an cd ct) ⟨[x0, x1], []⟩ = pure (List.zip ps [x0, x1]))
  (a : PySem.W.nsIn K mainGlobals n = some (some (.ref f))) (l : K.lookup f = some ⟨oc, od, .func (PySem.W.fnOf n n (zAX st) (zAP st) (zAj st) .none kV dc pm an cd ct), sl⟩) (c : PySem.W.codeIn K cd n = true) (k : PySem.W.keepIn K (.ref f) = true) : Fo K mg n st ps f (PySem.W.fnOf n n (zAX st) (zAP st) (zAj st) .none kV dc pm an cd ct) :=
 ⟨zD4 l c k, PySem.W.mg_of X G a, .all fun us hu => us2 (p := fun us => bindArgs _ ⟨us, []⟩ = pure (List.zip _ us)) (hu.trans hl) hb⟩
theorem fo3 {K : PySem.W.Frag} {h : Heap} {mg : Str -> Option Value} {n : Str} {st : Stmt} {ps : List Str} {f : Addr} {od an : Option Addr} {sl : Array (Option Value)} {oc kV dc pm cd ct : Value} (X : K.In h) (G : h.Ns mainGlobals mg) (hl : ps.length = 3) (hb : ∀ x0 x1 x2, bindArgs (PySem.W.fnOf n n (zAX st) (zAP st) (zAj st) .none kV dc pm an cd ct) ⟨[x0, x1, x2], []⟩ = pure (List.zip ps [x0, x1, x2]))
  (a : PySem.W.nsIn K mainGlobals n = some (some (.ref f))) (l : K.lookup f = some ⟨oc, od, .func (PySem.W.fnOf n n (zAX st) (zAP st) (zAj st) .none kV dc pm an cd ct), sl⟩) (c : PySem.W.codeIn K cd n = true) (k : PySem.W.keepIn K (.ref f) = true) : Fo K mg n st ps f (PySem.W.fnOf n n (zAX st) (zAP st) (zAj st) .none kV dc pm an cd ct) :=
 ⟨zD4 l c k, PySem.W.mg_of X G a, .all fun us hu => us3 (p := fun us => bindArgs _ ⟨us, []⟩ = pure (List.zip _ us)) (hu.trans hl) hb⟩
theorem fo4 {K : PySem.W.Frag} {h : Heap} {mg : Str -> Option Value} {n : Str} {st : Stmt} {ps : List Str} {f : Addr} {od an : Option Addr} {sl : Array (Option Value)} {oc kV dc pm cd ct : Value} (X : K.In h) (G : h.Ns mainGlobals mg) (hl : ps.length = 4) (hb : ∀ x0 x1 x2 x3, bindArgs (PySem.W.fnOf n n (zAX st) (zAP st) (zAj st) .none kV dc pm an cd ct) ⟨[x0, x1, x2, x3], []⟩ = pure (List.zip ps [x0, x1, x2, x3]))
  (a : PySem.W.nsIn K mainGlobals n = some (some (.ref f))) (l : K.lookup f = some ⟨oc, od, .func (PySem.W.fnOf n n (zAX st) (zAP st) (zAj st) .none kV dc pm an cd ct), sl⟩) (c : PySem.W.codeIn K cd n = true) (k : PySem.W.keepIn K (.ref f) = true) : Fo K mg n st ps f (PySem.W.fnOf n n (zAX st) (zAP st) (zAj st) .none kV dc pm an cd ct) :=
 ⟨zD4 l c k, PySem.W.mg_of X G a, .all fun us hu => us4 (p := fun us => bindArgs _ ⟨us, []⟩ = pure (List.zip _ us)) (hu.trans hl) hb⟩
def cn {α : Type} (x : α) (f : Nat -> α) : Nat -> α
 | 0 => x
 | n + 1 => f n
theorem tab_STEPS {K : PySem.W.Frag} {h : Heap} {mg : Str -> Option Value} {w : World} {z_STEPS zp_STEPS : Nat} {zh0_STEPS : Int} {zt0_STEPS : Tok} {za0_STEPS zn0_STEPS : Nat} {zd0_STEPS : Option Addr} {zs0_STEPS : Array (Option Value)} {zu0_0_STEPS : Tok} {zu0_1_STEPS : Tok} {zh1_STEPS : Int} {zt1_STEPS : Tok} {za1_STEPS zn1_STEPS : Nat} {zd1_STEPS : Option Addr} {zs1_STEPS : Array (Option Value)} {zu1_0_STEPS : Tok} {zu1_1_STEPS : Tok} {zh2_STEPS : Int} {zt2_STEPS : Tok} {za2_STEPS zn2_STEPS : Nat} {zd2_STEPS : Option Addr} {zs2_STEPS : Array (Option Value)} {zu2_0_STEPS : Tok} {zu2_1_STEPS : Tok} {zh3_STEPS : Int} {zt3_STEPS : Tok} {za3_STEPS zn3_STEPS : Nat} {zd3_STEPS : Option Addr} {zs3_STEPS : Array (Option Value)} {zu3_0_STEPS : Tok} {zu3_1_STEPS : Tok} (X : K.In h) (G : h.Ns mainGlobals mg) (ytn : PySem.W.nsIn K mainGlobals "STEPS" = some (some (.ref z_STEPS))) (yts : K.lookup z_STEPS = some ⟨.type "dict", none, .dict #[⟨zh0_STEPS, .str "n" zt0_STEPS, .ref za0_STEPS⟩, ⟨zh1_STEPS, .str "e" zt1_STEPS, .ref za1_STEPS⟩, ⟨zh2_STEPS, .str "s" zt2_STEPS, .ref za2_STEPS⟩, ⟨zh3_STEPS, .str "w" zt3_STEPS, .ref za3_STEPS⟩] zp_STEPS, #[]⟩) (yuv0_STEPS : K.lookup za0_STEPS = some ⟨.type "tuple", zd0_STEPS, .seq #[.int 0 zu0_0_STEPS, .int (-1) zu0_1_STEPS] zn0_STEPS, zs0_STEPS⟩) (yvh0_STEPS : zh0_STEPS = PySem.hashStr w "n") (yuv1_STEPS : K.lookup za1_STEPS = some ⟨.type "tuple", zd1_STEPS, .seq #[.int 1 zu1_0_STEPS, .int 0 zu1_1_STEPS] zn1_STEPS, zs1_STEPS⟩) (yvh1_STEPS : zh1_STEPS = PySem.hashStr w "e") (yuv2_STEPS : K.lookup za2_STEPS = some ⟨.type "tuple", zd2_STEPS, .seq #[.int 0 zu2_0_STEPS, .int 1 zu2_1_STEPS] zn2_STEPS, zs2_STEPS⟩) (yvh2_STEPS : zh2_STEPS = PySem.hashStr w "s") (yuv3_STEPS : K.lookup za3_STEPS = some ⟨.type "tuple", zd3_STEPS, .seq #[.int (-1) zu3_0_STEPS, .int 0 zu3_1_STEPS] zn3_STEPS, zs3_STEPS⟩) (yvh3_STEPS : zh3_STEPS = PySem.hashStr w "w") (ylo : (z_STEPS == sysModules) = false) : ∃ x, mg "STEPS" = some (.ref x) /\ Tab K w x zBr /\ (x == sysModules) = false := ⟨_, PySem.W.mg_of X G ytn, ⟨_, _, yts, (TEnt.cons (v := .ref za0_STEPS) yvh0_STEPS rfl (fun F H => Rep.tup (vs := [.int 0, .int (-1)]) (.inr ⟨_, _, _, yuv0_STEPS, rfl, rfl, zAR (show 2 <= 1000 by decide), (.cons ⟨_, rfl⟩ (.cons ⟨_, rfl⟩ .nil))⟩) (.cons (.int _) (.cons (.int _) .nil))) (TEnt.cons (v := .ref za1_STEPS) yvh1_STEPS rfl (fun F H => Rep.tup (vs := [.int 1, .int 0]) (.inr ⟨_, _, _, yuv1_STEPS, rfl, rfl, zAR (show 2 <= 1000 by decide), (.cons ⟨_, rfl⟩ (.cons ⟨_, rfl⟩ .nil))⟩) (.cons (.int _) (.cons (.int _) .nil))) (TEnt.cons (v := .ref za2_STEPS) yvh2_STEPS rfl (fun F H => Rep.tup (vs := [.int 0, .int 1]) (.inr ⟨_, _, _, yuv2_STEPS, rfl, rfl, zAR (show 2 <= 1000 by decide), (.cons ⟨_, rfl⟩ (.cons ⟨_, rfl⟩ .nil))⟩) (.cons (.int _) (.cons (.int _) .nil))) (TEnt.cons (v := .ref za3_STEPS) yvh3_STEPS rfl (fun F H => Rep.tup (vs := [.int (-1), .int 0]) (.inr ⟨_, _, _, yuv3_STEPS, rfl, rfl, zAR (show 2 <= 1000 by decide), (.cons ⟨_, rfl⟩ (.cons ⟨_, rfl⟩ .nil))⟩) (.cons (.int _) (.cons (.int _) .nil))) TEnt.nil))))⟩, ylo⟩
theorem xc_NoWay {K : PySem.W.Frag} {h : Heap} {mg : Str -> Option Value} {y_NoWay : Addr} (X : K.In h) (G : h.Ns mainGlobals mg) (yn : PySem.W.nsIn K mainGlobals "NoWay" = some (some (.ref y_NoWay))) (ye : PySem.W.excIn K y_NoWay [.type "ValueError", .type "Exception", .type "BaseException", .type "object"] "ValueError.__new__" = true) (yt : PySem.W.subIn K (.ref y_NoWay) (.ref y_NoWay) = some true) (yb : PySem.W.subIn K (.ref y_NoWay) (.type "BaseException") = some true) : ∃ e_NoWay, PySem.W.nsIn K mainGlobals "NoWay" = some (some (.ref e_NoWay)) /\ PySem.W.excIn K e_NoWay [.type "ValueError", .type "Exception", .type "BaseException", .type "object"] "ValueError.__new__" = true /\ mg "NoWay" = some (.ref e_NoWay) /\ PySem.W.subIn K (.ref e_NoWay) (.ref e_NoWay) = some true /\ PySem.W.subIn K (.ref e_NoWay) (.type "BaseException") = some true := ⟨_, yn, ye, PySem.W.mg_of X G yn, yt, yb⟩
theorem mk_txt {K : PySem.W.Frag} {mg : Str -> Option Value} {w : World} {f0 f1 f2 f3 f4 f5 f6 f7 f8 f9 f10 f11 f12 f13 f14 f15 f16 f17 f18 f19 f20 f21 f22 f23 f24 f25 f26 f27 f28 f29 f30 f31 : Addr} {d0 d1 d2 d3 d4 d5 d6 d7 d8 d9 d10 d11 d12 d13 d14 d15 d16 d17 d18 d19 d20 d21 d22 d23 d24 d25 d26 d27 d28 d29 d30 d31 : FuncData} (F0 : Fo K mg "is_whole" s_qo ["thing"] f0 d0) (F1 : Fo K mg "all_cells" s_qj ["floor"] f1 d1) (F2 : Fo K mg "marked" s_qt ["things"] f2 d2) (F3 : Fo K mg "crossed" s_qq ["one", "other"] f3 d3) (F4 : Fo K mg "couples_beside" s_q3 ["cells"] f4 d4) (F5 : Fo K mg "beside" s_qs ["cell", "word"] f5 d5) (F6 : Fo K mg "_law_cell" s_qh ["_law_script", "_law_k"] f6 d6) (F7 : Fo K mg "_law_cells" s_qe ["_law_floor_here"] f7 d7) (F8 : Fo K mg "_law_at" s_qp ["_law_cell_here", "_law_step"] f8 d8) (F9 : Fo K mg "is_whole_couple" s_q2 ["thing"] f9 d9) (F10 : Fo K mg "open_cells" s_qc ["floor"] f10 d10) (F11 : Fo K mg "lets_see" s_qm ["solids", "one", "other"] f11 d11) (F12 : Fo K mg "steps_over" s_qf ["ground", "cell"] f12 d12) (F13 : Fo K mg "_law_drawn" s_qa ["_law_script", "_law_k", "_law_many"] f13 d13) (F14 : Fo K mg "_law_open" s_qi ["_law_floor_here"] f14 d14) (F15 : Fo K mg "_law_beside" s_q7 ["_law_floor_here", "_law_cell_here", "_law_word"] f15 d15) (F16 : Fo K mg "is_cell" s_qr ["floor", "thing"] f16 d16) (F17 : Fo K mg "see_each_other" s_q5 ["solids", "one", "other"] f17 d17) (F18 : Fo K mg "ways_over" s_qg ["ground", "start"] f18 d18) (F19 : Fo K mg "_law_floor" s_qb ["_law_script", "_law_at_here", "_law_most"] f19 d19) (F20 : Fo K mg "_law_trodden" s_q6 ["_law_floor_here", "_law_one", "_law_way_here"] f20 d20) (F21 : Fo K mg "refuse_off_floor" s_q0 ["floor", "cell"] f21 d21) (F22 : Fo K mg "is_solid" s_ql ["floor", "cell"] f22 d22) (F23 : Fo K mg "sees" s_qu ["floor", "one", "other"] f23 d23) (F24 : Fo K mg "refuse_not_open" s_q1 ["floor", "cell"] f24 d24) (F25 : Fo K mg "_law_is_hidden" s_q4 ["_law_floor_here", "_law_watchers", "_law_cells_here"] f25 d25) (F26 : Fo K mg "field_of" s_qk ["floor", "cell"] f26 d26) (F27 : Fo K mg "times_seen" s_q9 ["floor", "cells"] f27 d27) (F28 : Fo K mg "seen_by_any" s_q8 ["floor", "cells"] f28 d28) (F29 : Fo K mg "hidden_way" s_qd ["floor", "watchers", "one", "other"] f29 d29) (F30 : Fo K mg "_law_way" s_qn ["_law_floor_here", "_law_watchers", "_law_one", "_law_other"] f30 d30) (F31 : Fo K mg "law" s_qv ["_law_script"] f31 d31) (z0 : mg "isinstance" = none) (z1 : mg "int" = none) (z2 : mg "bool" = none) (z3 : mg "range" = none) (z4 : mg "dict" = none) (z5 : mg "abs" = none) (z6 : mg "zip" = none) (z7 : mg "sorted" = none) (z8 : mg "tuple" = none) (z9 : mg "len" = none) (z10 : mg "set" = none) (z11 : mg "min" = none) (z12 : mg "max" = none) (t0 : ∃ x, mg "STEPS" = some (.ref x) /\ Tab K w x zBr /\ (x == sysModules) = false) (xx_NoWay : ∃ e_NoWay, PySem.W.nsIn K mainGlobals "NoWay" = some (some (.ref e_NoWay)) /\ PySem.W.excIn K e_NoWay [.type "ValueError", .type "Exception", .type "BaseException", .type "object"] "ValueError.__new__" = true /\ mg "NoWay" = some (.ref e_NoWay) /\ PySem.W.subIn K (.ref e_NoWay) (.ref e_NoWay) = some true /\ PySem.W.subIn K (.ref e_NoWay) (.type "BaseException") = some true) : ∃ a d ta e_NoWay, Txt K mg a d w ta e_NoWay := by
 obtain ⟨x0, u0, v0, vl0⟩ := t0
 obtain ⟨e_NoWay, qn, qe, qm, qt, qb⟩ := xx_NoWay
 exact ⟨(cn f0 (cn f1 (cn f2 (cn f3 (cn f4 (cn f5 (cn f6 (cn f7 (cn f8 (cn f9 (cn f10 (cn f11 (cn f12 (cn f13 (cn f14 (cn f15 (cn f16 (cn f17 (cn f18 (cn f19 (cn f20 (cn f21 (cn f22 (cn f23 (cn f24 (cn f25 (cn f26 (cn f27 (cn f28 (cn f29 (cn f30 (fun _ => f31)))))))))))))))))))))))))))))))), (cn d0 (cn d1 (cn d2 (cn d3 (cn d4 (cn d5 (cn d6 (cn d7 (cn d8 (cn d9 (cn d10 (cn d11 (cn d12 (cn d13 (cn d14 (cn d15 (cn d16 (cn d17 (cn d18 (cn d19 (cn d20 (cn d21 (cn d22 (cn d23 (cn d24 (cn d25 (cn d26 (cn d27 (cn d28 (cn d29 (cn d30 (fun _ => d31)))))))))))))))))))))))))))))))), (fun _ => x0), e_NoWay, F0, F1, F2, F3, F4, F5, F6, F7, F8, F9, F10, F11, F12, F13, F14, F15, F16, F17, F18, F19, F20, F21, F22, F23, F24, F25, F26, F27, F28, F29, F30, F31, z0, z1, z2, z3, z4, z5, z6, z7, z8, z9, z10, z11, z12, u0, v0, vl0, qn, qe, qm, qt, qb⟩
theorem walkZ {q : Program} {loose : List Str} {XP : (Str -> Option Value) -> Heap -> Prop} {K : Params -> PySem.W.Frag} {as : List Addr} {n t : Nat} {r : PySem.W.RowW} {d : DefRec} {kwd : List (Str × Expr)} {run : Value -> List Value -> Sem Value} (e : ∀ P, as = (K P).map (·.1))
  (h : PySem.W.WalkO q loose XP (fun w h => (K w.params).In h) r d kwd run) : PySem.W.WalkX q loose XP (PySem.W.X.obsZ as) (PySem.W.X.valZ K n t) r d kwd run :=
 fun w s₀ s₁ mg mb G y a o pm cd doc dV kV ho hd hcd hD hmg hg args vals as_ L => h w s₀ s₁ mg mb G (PySem.W.InK.keeps w _ _ (PySem.W.X.z_facts e y).2.1 L.keeps) a o pm cd doc dV kV ho hd hcd hD hmg hg args vals as_
theorem walk {l : PySem.W.OpenLaw} {q : Program} {loose : List Str} {XP : (Str -> Option Value) -> Heap -> Prop} {YP : World -> Heap -> Prop} {d : DefRec} {K : Params -> PySem.W.Frag} (hn : l.most = some 63) (hdf : d.params.defaults = [])
  (hY : ∀ (w : World) (h : Heap), YP w h -> (K w.params).In h)
  (F : ∀ (w : World) (mg : Str -> Option Value) (fa : Addr) (h : Heap), (K w.params).In h -> h.Ns mainGlobals mg -> mg d.name = some (.ref fa) ->
   ∃ fd : FuncData, (∀ (s : Shared) (u : Value), BindsTo s fd ⟨[u], []⟩ [("_law_script", u)]) /\ ∀ base : Heap, (K w.params).In base -> base.Ns mainGlobals mg -> FnOk l.prog w (K w.params) mg base CX0 12 fa fd ["_law_script"] (zEG (K w.params) Glaw)) :
  PySem.W.WalkO q loose XP YP l.row.toRowW d [] (fun f vs => PySem.call f vs) :=
 L2.walk_of (n := 63) (k := 12) (x := "_law_script") (CX := fun _ => CX0) (sp := fun w => zEG (K w.params) Glaw) hn (by decide) hdf ⟨rfl, by decide, by decide, rfl⟩ hY F (fun _ _ a ns hl _ hS => ⟨a, ns, rfl, hS, hl, fun _ => rfl⟩) fun _ _ _ _ _ z => z
end My
open PySem PySem.W PyProof.Rows
namespace PySem.W.Fast
def tw16771767596190390791:=0
def tw11754947118844846256:=0
def tw6675868019832167436:=0
def tw10559512648777887296:=0
def tw12993501005745553371:=0
def tw5823759661098598864:=0
def tw12243626810236496847:=0
def tw2922680926658585952:=0
def tw17266495352511474358:=0
def tw9432279518136769326:=0
def tw11101258580449642912:=0
def tw11701364907960635256:=0
def tw16874665166721629881:=0
def tw11620198154485613672:=0
def tw11871226174019058667:=0
def tw2385430159726780480:=0
def tw10900146235316077798:=0
def tw5892111461215898924:=0
def tw15781700139088247946:=0
def tw7457902591015758874:=0
def tw2972253439448318264:=0
end PySem.W.Fast
set_option maxRecDepth 100000 in
set_option maxHeartbeats 0 in
theorem PySem.Challenge.cw_lampfloor_k73_whole_hidden_holds : PySem.Challenge.rw_lampfloor_k73_whole_hidden.Holds := by
 w_on; o_law; z_head; (case hw => w_witness2)
 k_fill
 refine My.walkZ (fun _ => rfl) (My.walk (l := PySem.Challenge.rw_lampfloor_k73_whole_hidden) rfl rfl (fun w h Y => Y) ?F)
 case F =>
  intro w mg fa h KX G hmg
  refine' My.all_mk My.main hmg (My.mk_txt (My.fo1 KX G rfl (fun _ => rfl) ?_ ?_ ?_ ?_) (My.fo1 KX G rfl (fun _ => rfl) ?_ ?_ ?_ ?_) (My.fo1 KX G rfl (fun _ => rfl) ?_ ?_ ?_ ?_) (My.fo2 KX G rfl (fun _ _ => rfl) ?_ ?_ ?_ ?_) (My.fo1 KX G rfl (fun _ => rfl) ?_ ?_ ?_ ?_) (My.fo2 KX G rfl (fun _ _ => rfl) ?_ ?_ ?_ ?_) (My.fo2 KX G rfl (fun _ _ => rfl) ?_ ?_ ?_ ?_) (My.fo1 KX G rfl (fun _ => rfl) ?_ ?_ ?_ ?_) (My.fo2 KX G rfl (fun _ _ => rfl) ?_ ?_ ?_ ?_) (My.fo1 KX G rfl (fun _ => rfl) ?_ ?_ ?_ ?_) (My.fo1 KX G rfl (fun _ => rfl) ?_ ?_ ?_ ?_) (My.fo3 KX G rfl (fun _ _ _ => rfl) ?_ ?_ ?_ ?_) (My.fo2 KX G rfl (fun _ _ => rfl) ?_ ?_ ?_ ?_) (My.fo3 KX G rfl (fun _ _ _ => rfl) ?_ ?_ ?_ ?_) (My.fo1 KX G rfl (fun _ => rfl) ?_ ?_ ?_ ?_) (My.fo3 KX G rfl (fun _ _ _ => rfl) ?_ ?_ ?_ ?_) (My.fo2 KX G rfl (fun _ _ => rfl) ?_ ?_ ?_ ?_) (My.fo3 KX G rfl (fun _ _ _ => rfl) ?_ ?_ ?_ ?_) (My.fo2 KX G rfl (fun _ _ => rfl) ?_ ?_ ?_ ?_) (My.fo3 KX G rfl (fun _ _ _ => rfl) ?_ ?_ ?_ ?_) (My.fo3 KX G rfl (fun _ _ _ => rfl) ?_ ?_ ?_ ?_) (My.fo2 KX G rfl (fun _ _ => rfl) ?_ ?_ ?_ ?_) (My.fo2 KX G rfl (fun _ _ => rfl) ?_ ?_ ?_ ?_) (My.fo3 KX G rfl (fun _ _ _ => rfl) ?_ ?_ ?_ ?_) (My.fo2 KX G rfl (fun _ _ => rfl) ?_ ?_ ?_ ?_) (My.fo3 KX G rfl (fun _ _ _ => rfl) ?_ ?_ ?_ ?_) (My.fo2 KX G rfl (fun _ _ => rfl) ?_ ?_ ?_ ?_) (My.fo2 KX G rfl (fun _ _ => rfl) ?_ ?_ ?_ ?_) (My.fo2 KX G rfl (fun _ _ => rfl) ?_ ?_ ?_ ?_) (My.fo4 KX G rfl (fun _ _ _ _ => rfl) ?_ ?_ ?_ ?_) (My.fo4 KX G rfl (fun _ _ _ _ => rfl) ?_ ?_ ?_ ?_) (My.fo1 KX G rfl (fun _ => rfl) ?_ ?_ ?_ ?_) (mg_none_of KX G ?_) (mg_none_of KX G ?_) (mg_none_of KX G ?_) (mg_none_of KX G ?_) (mg_none_of KX G ?_) (mg_none_of KX G ?_) (mg_none_of KX G ?_) (mg_none_of KX G ?_) (mg_none_of KX G ?_) (mg_none_of KX G ?_) (mg_none_of KX G ?_) (mg_none_of KX G ?_) (mg_none_of KX G ?_) (My.tab_STEPS KX G ?_ ?_ ?_ ?_ ?_ ?_ ?_ ?_ ?_ ?_ ?_) (My.xc_NoWay KX G ?_ ?_ ?_ ?_))
  any_goals k_is
  any_goals k_exc
  all_goals rfl
