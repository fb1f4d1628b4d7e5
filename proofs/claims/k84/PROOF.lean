import PyProof.Rows.All
import Wide.All
import OpenK.AllK
import Wide.FinOn
import Lean
import PyProof.EqAt
import PyProof.EqKinds
import PyProof.TupleCall
import PyProof.Rows.SortShellK
import PyProof.StationsW
import PyProof.SetKind
import PyProof.TupleKey
import PyProof.DictKinds
import PyProof.IsRules
import PyProof.Slots
import PyProof.Rows.SetFrom
import PyProof.SetRoads
import PyProof.WalksMore
import KE.KDictSum
import PyProof.Draws
import PyProof.Rows.EnumRows
import PyProof.ConsumeWalk
import KE.KDictOf
import PyProof.DictRoadsH
import PyProof.AttrMissSeq
import PyProof.Conv_int_bool
import PyProof.StrCalls2
import PyProof.Rows.StrWeight2
import PyProof.EnumMake
import PyProof.FitsReplace
import PyProof.StrLawsOcc
import PyProof.DictRoads
import PyProof.Rows.SortStr
import PyProof.StrWalks
import PySem.Challenge.RW_lampfloor_k84_whole_lit_posts
noncomputable section
open PySem renaming wpAny_bind → Qa, wpAny_pure → Qb, wpAny_setState_of → QK, wpAny_newObj_type → Q8, wpAny_holding → Yf, wpAny_call_entry → Yg, wpAny_callSpecial?_slot → Ym, sizeLine_eq → Yq, wpAny_typeNameOfWhole_keyiter → YR, wpAny_mono → YU, wpAny_passesOwn → Y8, codeAny_builtin → Y9, wpAny_truthy_bool → Ja, wpAny_typeOf → Jb, wpAny_storeSet_of → Jd, wpAny_forIn_list → Jh, putSet_of → Ji, wpAny_setField → Jk, wpAny_Call_Name_kw → Jm, wpAny_pyIter_list → Jt, codeAny_mono → Jy, wpAny_isInstance → JC, wpAny_setEntries_of → JG, wpAny_field → JO
open PySem.Heap renaming get?_push_of_some → Qc, lt_size → Qk, get?_push_size → Qs, get?_update_self → Ye, size_push → Yr
open List renaming mem_cons_of_mem → Qd, mem_cons_self → Qe, getElem?_eq_some_iff → Qf, getElem?_eq_getElem → Qg, mem_cons → Qi, length_map → Qj, map_cons → Qm, length_append → Qp, mem_singleton → Qv, size_toArray → Qw, mem_append_right → Qx, mem_filter → QB, mem_append → QC, mem_range → QE, all_eq_true → QG, lookup_cons → QI, mem_map → QJ, length_cons → QL, getElem?_map → QM, mem_append_left → QO, mem_of_getElem? → QP, getElem?_of_mem → QQ, length_filter_le → QR, getElem?_set_ne → QS, getElem?_set_self → QT, length_take → QV, getD_eq_getElem?_getD → Q0, pairwise_map → Q1, take_append_drop → Q3, foldl_cons → Q5, map_map → Q7, append_assoc → Q9, length_range → Ya, pairwise_cons → Yc, length_singleton → Yd, map_append → Yh, contains_iff_mem → Yj, append_nil → Yk, nodup_cons → Yl, length_drop → Yp, drop_eq_getElem_cons → Yw, getElem?_zip_eq_some → Yx, eq_nil_of_length_eq_zero → Yy, getElem_mem → YD, getElem?_append_right → YF, mem_map_of_mem → YI, getElem?_append_left → YL, cons_append → YM, find?_cons → YV, pairwise_append → Jc, getElem?_replicate → Jg, all_eq_not_any_not → Jl, take_of_length_le → Jp, any_cons → Jq, sum_cons → Jr, filter_congr → Ju, nodup_nil → Jw, mem_of_mem_take → Jx, not_mem_nil → JB, any_eq_true → JD, filterMap_cons → JF, map_congr_left → JH, length_nil → JK, nil_append → JN
open Nat renaming le_refl → Qh, le_trans → Ql, ne_of_lt → Qt, lt_of_lt_of_le → Qz, le_succ_of_le → QU, lt_of_le_of_lt → QX, zero_le → QZ, le_add_right → Yn, mul_le_mul → Ys, not_lt_zero → Yt, le_of_lt → YA, zero_add → YG, lt_succ_of_lt → YH, lt_irrefl → YN, ne_of_gt → YO, le_of_lt_succ → YT, lt_trans → YZ, le_of_not_lt → Y2, eq_or_lt_of_le → Y4, mul_right_comm → Y7, min_eq_right → Jz, mul_comm → JE, le_antisymm → JL
open Array renaming length_toList → Qo, getElem?_eq_getElem → QA, getElem?_toList → QD, getElem?_eq_none → Yi, size_map → Y5, toList_filterMap → Jo
open Bool renaming false_eq_true → Qq, false_ne_true → Qu, and_eq_true_iff → Qy, and_eq_true → QH, eq_iff_iff → Yu, or_eq_true_iff → YJ, not_true → YQ, eq_false_iff → Jv, true_and → JI, and_comm → JJ
open Option renaming bind_some → Qr, isSome_iff_exists → Jf
open Option.some renaming inj → QF
open PySem.SeqAt renaming canLay_of_shaped → QN
open LawfulBEq renaming eq_of_beq → QW
open PySem.Heap.SameBut renaming update → QY
open PySem.PassesOwn renaming never → Q6
open PyProof.Rows renaming wpS_bind → Yb, wpS_pure → Yz, callWith_type1 → YE, slot_tuple_getitem → YK, pairsOf_size → JA, KK_mirror_equal → JM
open Classical renaming byContradiction → Yo
open List.Nodup renaming length_le_of_subset → Yv
open PyProof.Rows.KeyOrd renaming kle_refl → YB
open PySem.Obj renaming data_mapFields → YC, isFreed_of_fields → Js
open Int renaming toNat_natCast → YS, toNat_of_nonneg → YY, ofNat_lt → Y1, natCast_nonneg → Y3, emod_lt_of_pos → Jn
open Prod renaming ext → YW
open PySem.List renaming filterMap_getElem?_range_length → YX
open PySem.SetTable renaming insertAt_perm → Y0
open PySem.F renaming slot_tuple_iterator_next → Y6
open PySem.Around renaming under_plainId → Je
open PyProof.Rows.F renaming plain_set_update_loop → Jj
set_option Elab.async false
set_option linter.all false
set_option maxRecDepth 100000
set_option maxHeartbeats 4000000
set_option compiler.extract_closed false
set_option genInjectivity false
set_option genSizeOf false
set_option genSizeOfSpec false
set_option bootstrap.genMatcherCode false
noncomputable section
namespace L2
open PySem PySem.Spec PyProof.Rows
abbrev Key:=Sum Int Str
def zIZ:Key->Value->Bool
 | .inl k,v=>Value.isInt k v
 | .inr x,v=>Value.isStrOf x v
def keyH(w:World):Key->Int
 | .inl k=>hashInt k
 | .inr x=>hashStr w x
theorem zBW:∀{k:Key}{v:Value},zIZ k v=true->(∃ i t,k=Sum.inl i/\v=Value.int i t) ∨ (∃ x t,k=Sum.inr x/\v=Value.str x t)
 | .inl i,v,h=>by
  obtain⟨t,e⟩:=Value.isInt_shape (k:=i) (v:=v) h
  exact .inl ⟨i,t,rfl,e⟩
 | .inr x,v,h=>by
  obtain⟨t,e⟩:=Value.isStrOf_shape (x:=x) (v:=v) h
  exact .inr ⟨x,t,rfl,e⟩
theorem zNf(a b:Int):decide ((Sum.inl a:Key)=Sum.inl b)=(a == b):=by
 by_cases e:a=b
 ·subst e;simp
 ·have h:¬ (Sum.inl a:Key)=Sum.inl b:=fun q=>e (Sum.inl.inj q)
  rw [decide_eq_false h]
  exact(beq_eq_false_iff_ne.mpr e).symm
theorem zNi(a b:Str):decide ((Sum.inr a:Key)=Sum.inr b)=decide (a=b):=by
 by_cases e:a=b
 ·subst e;simp
 ·have h:¬ (Sum.inr a:Key)=Sum.inr b:=fun q=>e (Sum.inr.inj q)
  rw [decide_eq_false h,decide_eq_false e]
theorem zNg(a:Int)(b:Str):decide ((Sum.inl a:Key)=Sum.inr b)=false:=decide_eq_false (fun q=>nomatch q)
theorem zNh(a:Str)(b:Int):decide ((Sum.inr a:Key)=Sum.inl b)=false:=decide_eq_false (fun q=>nomatch q)
def zJq(prog:Program)(w:World):PySem.KeyKind prog w Key where
 is:=zIZ
 hash:=keyH w
 inj:=fun v a b ha hb=>by
  rcases zBW ha with⟨i,t,rfl,rfl⟩ | ⟨x,t,rfl,rfl⟩
  ·rcases zBW hb with⟨j,u,rfl,e⟩ | ⟨y,u,rfl,e⟩
   ·injection e with e1 _;rw [e1]
   ·exact nomatch e
  ·rcases zBW hb with⟨j,u,rfl,e⟩ | ⟨y,u,rfl,e⟩
   ·exact nomatch e
   ·injection e with e1 _;rw [e1]
 byValue:=fun k v h=>by
  rcases zBW h with⟨i,t,rfl,rfl⟩ | ⟨x,t,rfl,rfl⟩ <;> rfl
 pyHash:=fun hv h=>by
  rcases zBW hv with⟨i,t,rfl,rfl⟩ | ⟨x,t,rfl,rfl⟩
  ·exact wpAny_pyHash_int h
  ·exact wpAny_pyHash_str h
 eqBool:=fun hu hv h=>by
  rcases zBW hu with⟨i,t,rfl,rfl⟩ | ⟨x,t,rfl,rfl⟩
  ·rcases zBW hv with⟨j,u,rfl,rfl⟩ | ⟨y,u,rfl,rfl⟩
   ·rw [zNf]at h;exact wpAny_eqBool_int h
   ·rw [zNg]at h;exact SeqAt.EqAt.int_str i t y u _ _ _ _ h
  ·rcases zBW hv with⟨j,u,rfl,rfl⟩ | ⟨y,u,rfl,rfl⟩
   ·rw [zNh]at h;exact SeqAt.EqAt.str_int x t j u _ _ _ _ h
   ·rw [zNi]at h;exact wpAny_eqBool_str h
 «strs»:=fun k x t v h=>by
  rcases zBW h with⟨i,u,rfl,e⟩ | ⟨y,u,rfl,e⟩
  ·exact nomatch e
  ·injection e with e1 _
   subst e1
   cases v <;> rfl
end L2
namespace L2
open PySem PySem.Spec PyProof.Rows
inductive V where
 | non | bl (b:Bool) | int (i:Int) | str (x:Str) | byt (b:Array UInt8) | flt (b:UInt64) | ref (a:Addr) | ty (n:String)
 deriving DecidableEq
def RelV:V->Value->Prop
 | .non,u=>u=Value.none
 | .bl b,u=>u=Value.bool b
 | .int i,u=>∃ t,u=Value.int i t
 | .str x,u=>∃ t,u=Value.str x t
 | .byt b,u=>∃ t,u=Value.bytes b t
 | .flt b,u=>∃ t,u=Value.float b t
 | .ref a,u=>u=Value.ref a
 | .ty n,u=>u=Value.type n
abbrev Vals:List V->List Value->Prop:=Paired RelV
theorem Vals.length{xs:List V}{us:List Value}(r:Vals xs us):xs.length=us.length:=Paired.length r
theorem Vals.get:∀{xs:List V}{us:List Value}{i:Nat}{x:V},Vals xs us->xs[i]?=some x->∃ u,us[i]?=some u/\RelV x u
 | _,_,_,_,.nil,e=>by simp at e
 | _,_,0,_,.cons r _,e=>by simp at e;subst e;exact⟨_,rfl,r⟩
 | _,_,i+1,x,.cons _ t,e=>by
  obtain⟨u,h1,h2⟩:=Vals.get (i:=i) (x:=x) t (by simpa using e)
  exact⟨u,by simpa using h1,h2⟩
theorem Vals.append:∀{xs ys:List V}{us ws:List Value},Vals xs us->Vals ys ws->Vals (xs++ys) (us++ws)
 | _,_,_,_,.nil,s=>s
 | _,_,_,_,.cons r t,s=>.cons r (Vals.append t s)
theorem Vals.take:∀{xs:List V}{us:List Value} (n:Nat),Vals xs us->Vals (xs.take n) (us.take n)
 | _,_,0,_=>.nil
 | _,_,_+1,.nil=>.nil
 | _,_,n+1,.cons r t=>.cons r (Vals.take n t)
theorem Vals.drop:∀{xs:List V}{us:List Value} (n:Nat),Vals xs us->Vals (xs.drop n) (us.drop n)
 | _,_,0,r=>r
 | _,_,_+1,.nil=>.nil
 | _,_,n+1,.cons _ t=>Vals.drop n t
def RelO:Option V->Option Value->Prop
 | some v,some u=>RelV v u
 | none,none=>True
 | _,_=>False
def KV{κ:Type}:List (κ × V)->List (κ × Value)->Prop:=Paired fun(p:κ × V) (q:κ × Value)=>p.1=q.1/\RelV p.2 q.2
def kV:Key->V
 | .inl i=>.int i
 | .inr x=>.str x
inductive HO where
 | lst (xs:List V)
 | tup (xs:List V)
 | dK (kvs:List (Key × V)) | dT (kvs:List (List Key × V))
 | set (S:Int->Bool) (n:Nat)
 | ins (C dx:Addr) (fs:List (Str × V))
 | own (x:Addr)
 | xd (fs:List (Str × V))
 | met (f x:Addr)
 | rng (lo hi:Int)
 | frz (o:Obj) (u:HO)
 | tbl (ps:Array Value)
 | ext (φ:Heap->Prop)
abbrev Hp:=Addr->Option HO
def upd(H:Hp)(a:Addr)(o:HO):Hp:=fun b=>if b=a then some o else H b
theorem zBm{H:Hp}{a:Addr}{o:HO}:upd H a o a=some o:=by unfold upd;rw [if_pos rfl]
theorem zAs{H:Hp}{a b:Addr}{o:HO}(h:b≠a):upd H a o b=H b:=by unfold upd;rw [if_neg h]
theorem zBj{H:Hp}{a b:Addr}{o:HO}(h:H a=some o)(h':H b=none):a≠b:=by
 intro e;subst e;rw [h]at h';cases h'
section
variable (P:Program)(w:World)
def zAU(H:Hp)(h:Heap)(a:Addr):HO->Prop
 | .lst xs=>xs.length<=sizeLine/\∃(its:List Value) (n:Nat),Vals xs its/\h.get? a=some { cls:=.type "list",data:=.seq its.toArray n }
 | .tup xs=>xs.length<=sizeLine/\∃ its:List Value,Vals xs its/\IsTup h a its.toArray
 | .dK kvs=>kvs.length<=sizeLine/\(a == sysModules)=false/\∃ vs,KV kvs vs/\h.DictOf (zJq P w) a vs
 | .dT kvs=>kvs.length<=sizeLine/\(a == sysModules)=false/\∃ xs:List (List Key × Addr × Value),
   Paired (fun(p:List Key × V) (q:List Key × Addr × Value)=>p.1=q.1/\H q.2.1=some (.tup (p.1.map kV))/\RelV p.2 q.2.2) kvs xs /\
   ∃ o es ep,h.get? a=some o/\o.ExactDict/\o.data=.dict es ep/\es.toList=xs.map (entryOfKey (tupleKind (zJq P w)))/\(xs.map (·.1)).Nodup
 | .set S n=>h.SetOf (intKind P w) a S n
 | .ins C dx fs=>H dx=some (.own a)/\fs.length<=1000/\dx≠a/\h.get? a=some (PySem.W.instObj C dx) /\
   ∃ mA,h.Ns1 dx mA/\(∀ f,RelO (fs.lookup f) (mA f))/\PySem.Within mA (fs.map (·.1))
 | .own _=>∃ o,h.get? a=some o
 | .xd fs=>∃ mA,h.Ns1 a mA/\∀ f,RelO (fs.lookup f) (mA f)
 | .rng lo hi=>∃ t u v,h.get? a=some { cls:=.type "range",data:=.fields #[.int lo t,.int hi u,.int 1 v] }
 | .frz o u=>h.get? a=some o/\zAU H h a u
 | .tbl ps=>h.get? a=some { cls:=.none,data:=.fields ps }
 | .met f x=>h.get? a=some (PySem.W.methodObj (.ref f) (.ref x))
 | .ext φ=>φ h/\(∃ o,h.get? a=some o)/\∀ h1 h2:Heap,φ h1->(∀ o,h1.get? a=some o->h2.get? a=some o)->φ h2
def HOk(H:Hp)(h:Heap):Prop:=∀ a o,H a=some o->zAU P w H h a o
end
section
variable {P:Program}{w:World}{H H':Hp}{h h':Heap}{a:Addr}{o:HO}
theorem zAU.lt(x:zAU P w H h a o):a<h.objs.size:=by
 cases o with
 | lst xs=>obtain⟨_,_,_,_,e⟩:=x;exact Qk e
 | tup xs=>obtain⟨_,_,_,p⟩:=x;exact p.lt
 | dK kvs=>obtain⟨_,_,_,_,o,_,_,e,_⟩:=x;exact Qk e
 | dT kvs=>obtain⟨_,_,_,_,o,_,_,e,_⟩:=x;exact Qk e
 | set S n=>obtain⟨o,_,_,_,e,_⟩:=x;exact Qk e
 | ins C dx fs=>obtain⟨_,_,_,e,_⟩:=x;exact Qk e
 | own y=>obtain⟨_,e⟩:=x;exact Qk e
 | xd fs=>obtain⟨_,⟨_,_,_,e,_⟩,_⟩:=x;exact Qk e
 | rng lo hi=>obtain⟨_,_,_,e⟩:=x;exact Qk e
 | frz ob u=>obtain⟨e,_⟩:=x;exact Qk e
 | tbl ps=>exact Qk (show h.get? a=some _ from x)
 | met f y=>exact Qk (show h.get? a=some _ from x)
 | ext φ=>obtain⟨_,⟨_,e⟩,_⟩:=x;exact Qk e
theorem Paired.mapP{α β:Type}{F G:α->β->Prop}:∀{l₁:List α}{l₂:List β},Paired F l₁ l₂->(∀ a b,F a b->G a b)->Paired G l₁ l₂
 | _,_,.nil,_=>.nil
 | _,_,.cons r t,f=>.cons (f _ _ r) (Paired.mapP t f)
theorem zAU.stay(x:zAU P w H h a o)(k:∀ b u,(b=a ∨ H b=some (.own a))->h.get? b=some u->h'.get? b=some u)
  (ho:∀ b,H b=some (.own a)->H' b=some (.own a)) (ht:∀ b xs,H b=some (.tup xs)->H' b=some (.tup xs)):zAU P w H' h' a o:=by
 induction o with
 | lst xs=>obtain⟨z,its,n,r,e⟩:=x;exact⟨z,its,n,r,k _ _ (.inl rfl) e⟩
 | tup xs=>obtain⟨z,its,r,ob,e,c⟩:=x;exact⟨z,its,r,ob,k _ _ (.inl rfl) e,c⟩
 | dK kvs=>obtain⟨z,y,vs,r,ob,es,ep,e,c⟩:=x;exact⟨z,y,vs,r,ob,es,ep,k _ _ (.inl rfl) e,c⟩
 | dT kvs=>
  obtain⟨z,y,xs,r,ob,es,ep,e,c⟩:=x
  exact⟨z,y,xs,Paired.mapP r fun p q z=>⟨z.1,ht _ _ z.2.1,z.2.2⟩,ob,es,ep,k _ _ (.inl rfl) e,c⟩
 | set S n=>obtain⟨ob,es,ep,t,e,c⟩:=x;exact⟨ob,es,ep,t,k _ _ (.inl rfl) e,c⟩
 | ins C dx fs=>
  obtain⟨d,z,ne,e,mA,⟨od,es,ep,e2,c⟩,r⟩:=x
  exact⟨ho _ d,z,ne,k _ _ (.inl rfl) e,mA,⟨od,es,ep,k _ _ (.inr d) e2,c⟩,r⟩
 | own y=>obtain⟨ob,e⟩:=x;exact⟨ob,k _ _ (.inl rfl) e⟩
 | xd fs=>obtain⟨mA,⟨od,es,ep,e,c⟩,r⟩:=x;exact⟨mA,⟨od,es,ep,k _ _ (.inl rfl) e,c⟩,r⟩
 | rng lo hi=>obtain⟨t,u,v,e⟩:=x;exact⟨t,u,v,k _ _ (.inl rfl) e⟩
 | frz ob u ih=>obtain⟨e,q⟩:=x;exact⟨k _ _ (.inl rfl) e,ih q⟩
 | tbl ps=>
  have e:h.get? a=some { cls:=.none,data:=.fields ps }:=x
  show h'.get? a=some { cls:=.none,data:=.fields ps }
  exact k a _ (.inl rfl) e
 | met f y=>
  have e:h.get? a=some (PySem.W.methodObj (.ref f) (.ref y)):=x
  show h'.get? a=some (PySem.W.methodObj (.ref f) (.ref y))
  exact k a _ (.inl rfl) e
 | ext φ=>obtain⟨p,⟨o,e⟩,st⟩:=x;exact⟨st _ _ p fun o q=>k _ _ (.inl rfl) q,⟨o,k _ _ (.inl rfl) e⟩,st⟩
theorem HOk.lt(x:HOk P w H h)(e:H a=some o):a<h.objs.size:=(x a o e).lt
theorem HOk.fresh(x:HOk P w H h)(e:h.objs.size<=a):H a=none:=by
 cases q:H a with
 | none=>rfl
 | some u=>exact absurd (Qz (x.lt q) e) (YN _)
theorem HOk.kept(x:HOk P w H h)(k:∀ b u,h.get? b=some u->h'.get? b=some u):HOk P w H h':=fun a o e=>
 (x a o e).stay (fun b u _ q=>k b u q) (fun _ q=>q) fun _ _ q=>q
theorem HOk.laid(x:HOk P w H h)(k:∀ b u,h.get? b=some u->h'.get? b=some u)(hp:h.objs.size<=a)(new:zAU P w (upd H a o) h' a o):HOk P w (upd H a o) h':=fun b u e=>by
 have hn:=x.fresh hp
 by_cases hb:b=a
 ·subst hb;rw [zBm]at e;cases e;exact new
 ·rw [zAs hb]at e
  exact(x b u e).stay (fun c v _ q=>k c v q) (fun c q=>by rw [zAs (zBj q hn)];exact q) fun c xs q=>by rw [zAs (zBj q hn)];exact q
end
def Rd(H:Hp)(a:Addr)(u:HO):Prop:=H a=some u ∨ ∃ o,H a=some (.frz o u)
theorem Rd.ok{P:Program}{w:World}{H:Hp}{h:Heap}{a:Addr}{u:HO}(r:Rd H a u)(x:HOk P w H h):zAU P w H h a u:=by
 rcases r with r | ⟨o,r⟩
 ·exact x a u r
 ·obtain⟨_,q⟩:=x a _ r
  exact q
def Mut:Option HO->Prop
 | some (.lst _)=>True
 | some (.dK _)=>True
 | some (.dT _)=>True
 | some (.set _ _)=>True
 | some (.ins _ _ _)=>True
 | some (.ext _)=>True
 | _=>False
section
variable {P:Program}{w:World}{H:Hp}{h h':Heap}{x e:Addr}{o':HO}
theorem HOk.write(ok:HOk P w H h)(mu:Mut (H x))(he:e=x ∨ H e=some (.own x))(k:∀ b u,b≠e->h.get? b=some u->h'.get? b=some u)(heo:∃ u,h'.get? e=some u)
  (new:zAU P w (upd H x o') h' x o'):HOk P w (upd H x o') h':=fun b u q=>by
 have nown:∀ c y,H c=some (.own y)->c≠x:=fun c y r z=>by subst z;rw [r]at mu;exact mu
 have ntup:∀ c xs,H c=some (.tup xs)->c≠x:=fun c xs r z=>by subst z;rw [r]at mu;exact mu
 by_cases hb:b=x
 ·subst hb;rw [zBm]at q;cases q;exact new
 ·rw [zAs hb]at q
  by_cases hbe:b=e
  ·have q':H b=some (.own x):=by
    rcases he with z | z
    ·exact absurd (hbe.trans z) hb
    ·rw [hbe];exact z
   rw [q]at q';cases q'
   obtain⟨v,hv⟩:=heo
   exact⟨v,by rw [hbe];exact hv⟩
  ·refine(ok b u q).stay (fun c v hc r=>k c v ?_ r) (fun c r=>by rw [zAs (nown c b r)];exact r) fun c xs r=>by rw [zAs (ntup c xs r)];exact r
   rcases hc with rfl | hc
   ·exact hbe
   ·rintro rfl
    rcases he with z | z
    ·exact nown c b hc z
    ·rw [hc]at z;cases z;exact hb rfl
end
structure Un(fs ex:List Addr)(H H':Hp)(h h':Heap):Prop where
 keep:∀ b o,h.get? b=some o->H b=none->b∉fs->b∉ex->h'.get? b=some o
 slot:∀ b o,h.get? b=some o->H b=none->b∈fs->b∉ex->∃ sl,h'.get? b=some { o with slots:=sl }
 free:∀ b o,h.get? b=some o->H b=none->b∉ex->H' b=none
 there:∀ b o,h.get? b=some o->b∉ex->∃ o',h'.get? b=some o'
 tups:∀ b xs,H b=some (.tup xs)->H' b=some (.tup xs)
 frzs:∀ b o u,H b=some (.frz o u)->H' b=some (.frz o u)
 tbls:∀ b ps,H b=some (.tbl ps)->∃ more,H' b=some (.tbl (ps++more))
section
variable {fs fs' ex ex':List Addr}{H H1 H2:Hp}{h h1 h2 h':Heap}{a x e:Addr}{o:HO}
theorem Un.any(u:Un fs ex H H1 h h1){b:Addr}{ob:Obj}(q:h.get? b=some ob)(n:H b=none)(hx:b∉ex):∃ sl,h1.get? b=some { ob with slots:=sl }:=by
 by_cases hb:b∈fs
 ·exact u.slot b ob q n hb hx
 ·exact⟨ob.slots,u.keep b ob q n hb hx⟩
theorem Un.kept(k:∀ b u,h.get? b=some u->h'.get? b=some u):Un fs ex H H h h':=
 ⟨fun b ob q _ _ _=>k b ob q,fun b ob q _ _ _=>⟨ob.slots,k b ob q⟩,fun _ _ _ n _=>n,fun b ob q _=>⟨ob,k b ob q⟩,fun _ _ q=>q,fun _ _ _ q=>q,fun _ ps q=>⟨#[],by rw [q];simp⟩⟩
theorem Un.refl:Un fs ex H H h h:=Un.kept fun _ _ q=>q
theorem Un.laid(k:∀ b u,h.get? b=some u->h'.get? b=some u)(hp:h.objs.size<=a)(hn:H a=none):Un fs ex H (upd H a o) h h' where
 keep:=fun b u q _ _ _=>k b u q
 slot:=fun b u q _ _ _=>⟨u.slots,k b u q⟩
 free:=fun b u q n _=>by rw [zAs (Qt (Qz (Qk q) hp))];exact n
 there:=fun b u q _=>⟨u,k b u q⟩
 tups:=fun b xs q=>by rw [zAs (zBj q hn)];exact q
 frzs:=fun b u xs q=>by rw [zAs (zBj q hn)];exact q
 tbls:=fun b ps q=>⟨#[],by rw [zAs (zBj q hn),q];simp⟩
theorem Un.write(mu:Mut (H x))(he:e=x ∨ H e=some (.own x))(k:∀ b u,b≠e->h.get? b=some u->h'.get? b=some u)(heo:∃ u,h'.get? e=some u):Un fs ex H (upd H x o) h h':=by
 have hx:∀ b,H b=none->b≠x:=fun b n z=>by subst z;rw [n]at mu;exact mu
 have hb:∀ b,H b=none->b≠e:=fun b n z=>by
  subst z
  rcases he with r | r
  ·exact hx b n r
  ·rw [n]at r;cases r
 have hm:∀ b u,H b=some u->¬ Mut (some u)->b≠x:=fun b u q nm z=>by subst z;rw [q]at mu;exact nm mu
 refine⟨fun b u q n _ _=>k b u (hb b n) q,fun b u q n _ _=>⟨u.slots,k b u (hb b n) q⟩,fun b u q n _=>by rw [zAs (hx b n)];exact n,fun b u q _=>?_,
  fun b xs q=>by rw [zAs (hm b _ q fun z=>z)];exact q,fun b u xs q=>by rw [zAs (hm b _ q fun z=>z)];exact q,fun b ps q=>⟨#[],by rw [zAs (hm b _ q fun z=>z),q];simp⟩⟩
 by_cases hbe:b=e
 ·subst hbe;exact heo
 ·exact⟨u,k b u hbe q⟩
end
def trk(h:Heap)(H:Hp):List Addr:=(List.range h.objs.size).filter fun a=>(H a).isSome
def hidT(h:Heap)(H:Hp):Heap:=PySem.W.hideAll h (trk h H)
theorem zMS(h:Heap)(H:Hp):(hidT h H).objs.size=h.objs.size:=PySem.W.hideAll_size _ _
theorem zMR{h:Heap}{H:Hp}{b:Addr}{o:Obj}(e:h.get? b=some o)(n:H b=none):(hidT h H).get? b=some o:=
 PySem.W.hideAll_get _ e fun hm=>by
  have q:(H b).isSome=true:=(QB.mp hm).2
  rw [n]at q;simp at q
theorem zOj{h:Heap}{H:Hp}{b:Addr}{o:Obj}(e:(hidT h H).get? b=some o):h.get? b=some o/\H b=none:=by
 have e':h.get? b=some o:=PySem.W.of_hideAll (trk h H) e
 refine⟨e',?_⟩
 cases q:H b with
 | none=>rfl
 | some x=>
  have hm:b∈trk h H:=QB.mpr ⟨QE.mpr (Qk e'),by simp [q]⟩
  have z:(hidT h H).get? b=none:=PySem.W.hideAll_none (trk h H) hm
  rw [z]at e;cases e
end L2
namespace L2
open PySem PySem.Spec PyProof.Rows
structure Mod(K:PySem.W.Frag)(mg:Str->Option Value)(base:Heap):Prop where
 kin:K.In base
 glob:base.Ns mainGlobals mg
 blt:∃ mb,base.Ns builtinsNs mb/\∀ x:Str,x≠"__name__"->mb x=bootBuiltins x
 nolimit:base.NoLimit
structure Cx where
 prog:Program
 w:World
 K:PySem.W.Frag
 mg:Str->Option Value
 base:Heap
 A:Around
 N:List Str
 s₀:Shared
 H₀:Hp
 env:Env
 outer:List Env
 stack:List Env
 ex:List Addr
 fn:Str->Bool
 calm:Bool
 pn:List (Addr × Obj)
 xe:Value->Shared->Prop
def frs(l:List Env):List Addr:=l.filterMap (·.frame)
abbrev Cx.fs(X:Cx):List Addr:=frs X.outer
def Vis(sc:Scope)(x:Str):Prop:=sc.names.lookup x=some .local ∨ sc.names.lookup x=some .cell ∨ sc.names.lookup x=some .free
def Loc(sc:Scope)(x:Str):Prop:=sc.names.lookup x=some .local ∨ sc.names.lookup x=some .cell
def Look(env:Env)(h:Heap)(m:Str->Option Value)(x:Str)(u:Value):Prop:=
 (env.kindOf x=some .local/\m x=some u) ∨ ((env.kindOf x=some .cell ∨ env.kindOf x=some .free)/\∃ c,env.cells.lookup x=some c/\h.IsCell c (some u))
structure Cx.Ok(X:Cx):Prop where
 mod:Mod X.K X.mg X.base
 kind:X.env.scope.kind=.function
 glob:X.env.globals=mainGlobals
 blt:X.env.builtins=builtinsNs
 above:X.s₀.heap.objs.size<=X.env.locals
 inj:∀ x y c,X.env.cells.lookup x=some c->X.env.cells.lookup y=some c->x=y
 has:∀ x,(X.env.kindOf x=some .cell ∨ X.env.kindOf x=some .free)->∃ c,X.env.cells.lookup x=some c
 cab:∀ x c,X.fn x=true->X.env.cells.lookup x=some c->X.s₀.heap.objs.size<=c
 hd:X.calm=true->X.A.handled=none
 frames:X.A.frames=some X.stack
 stk:X.stack=X.outer ∨ (X.stack=X.env::X.outer/\X.env.frame=some X.env.locals)
 exf:∀ b∈X.ex,b≠X.env.locals/\∀ x c,X.env.cells.lookup x=some c->c≠b
 bs:∀ b o,X.base.get? b=some o->X.s₀.heap.get? b=some o/\X.H₀ b=none
 bsz:X.base.objs.size<=X.s₀.heap.objs.size
 noex:∀ b o,X.base.get? b=some o->b∉X.ex
 exfs:∀ b∈X.ex,b∉X.fs
 funs:X.s₀.heap.FunFrames X.base X.outer
 frf:∀ b∈X.fs,X.H₀ b=none
structure Inv(X:Cx)(pins:List (Addr × Obj))(σ:List (Option V))(H:Hp)(s:Shared):Prop where
 ok:X.Ok
 os:s.os=X.s₀.os
 bare:AllBare s.gens
 base:Un X.fs X.ex X.H₀ H X.s₀.heap s.heap
 loc:∃ m,s.heap.Ns X.env.locals m/\∀(i:Nat) (x:Str) (v:V),X.N[i]?=some x->σ[i]?=some (some v)->Vis X.env.scope x->∃ u,RelV v u/\Look X.env s.heap m x u
 cell:∀ x c,X.env.cells.lookup x=some c->∃ v,s.heap.IsCell c v
 free:H X.env.locals=none
 freeC:∀ x c,X.env.cells.lookup x=some c->H c=none
 pin:∀ p∈X.pn++pins,s.heap.get? p.1=some p.2/\H p.1=none/\p.1≠X.env.locals/\p.1∉X.fs/\∀ v,p.2.data≠.cell v
 hok:HOk X.prog X.w H s.heap
 len:σ.length=X.N.length
section
variable {X:Cx}{pins:List (Addr × Obj)}{σ:List (Option V)}{H H':Hp}{s:Shared}{h':Heap}
theorem Cx.Ok.nofr(ok:X.Ok){b:Addr}{o:Obj}(e:X.base.get? b=some o):b∉X.fs:=fun hb=>by
 have:=(ok.funs.mem hb).1
 rw [e]at this;cases this
theorem Inv.bs(I:Inv X pins σ H s):∀ b o,X.base.get? b=some o->s.heap.get? b=some o/\H b=none:=fun b o e=>
 ⟨I.base.keep b o (I.ok.bs b o e).1 (I.ok.bs b o e).2 (I.ok.nofr e) (I.ok.noex b o e),I.base.free b o (I.ok.bs b o e).1 (I.ok.bs b o e).2 (I.ok.noex b o e)⟩
theorem Inv.bk(I:Inv X pins σ H s):∀ b o,X.base.get? b=some o->s.heap.get? b=some o:=fun b o e=>(I.bs b o e).1
theorem Inv.mod(I:Inv X pins σ H s):Mod X.K X.mg X.base:=I.ok.mod
theorem Inv.kIn(I:Inv X pins σ H s):X.K.In s.heap:=I.ok.mod.kin.keeps I.bk
theorem Inv.lt(I:Inv X pins σ H s):X.env.locals<s.heap.objs.size:=let⟨_,hn,_⟩:=I.loc;hn.lt
theorem Inv.sz(I:Inv X pins σ H s):X.s₀.heap.objs.size<=s.heap.objs.size:=Ql I.ok.above (YA I.lt)
theorem Inv.nofs(I:Inv X pins σ H s){a:Addr}(h:s.heap.objs.size<=a):a∉X.fs:=fun hb=>by
 obtain⟨_,o,ho,_⟩:=I.ok.funs.mem hb
 exact absurd (Qz (Qk ho) (Ql I.sz h)) (YN _)
theorem Inv.cne(I:Inv X pins σ H s):∀ x c,X.env.cells.lookup x=some c->c≠X.env.locals:=fun x c e z=>by
 obtain⟨v,o,ho,hd⟩:=I.cell x c e
 obtain⟨m,⟨o',es,ep,ho',hd',_⟩,_⟩:=I.loc
 rw [z,ho']at ho;cases ho;rw [hd']at hd;cases hd
theorem Inv.funs(I:Inv X pins σ H s):s.heap.FunFrames X.base X.outer:=by
 have all:∀(l:List Env),(∀ b∈frs l,b∈X.fs)->X.s₀.heap.FunFrames X.base l->s.heap.FunFrames X.base l:=by
  intro l
  induction l with
  | nil=>intro _ _;trivial
  | cons env r ih=>
   intro hs hl
   obtain⟨hk,⟨L,o,hf,hn,ho,hd⟩,hr⟩:=hl
   have hL:L∈X.fs:=hs L (by unfold frs;rw [JF,hf];exact Qe)
   obtain⟨sl,e⟩:=I.base.slot L o ho (I.ok.frf L hL) hL fun z=>I.ok.exfs L z hL
   exact⟨hk,⟨L,_,hf,hn,e,hd⟩,ih (fun b hb=>hs b (by unfold frs;rw [JF,hf];exact Qd _ hb)) hr⟩
 exact all X.outer (fun _ hb=>hb) I.ok.funs
theorem Inv.stack(I:Inv X pins σ H s):s.heap.FunFrames X.base X.stack:=by
 rcases I.ok.stk with e | ⟨e,hf⟩
 ·rw [e];exact I.funs
 ·rw [e]
  obtain⟨m,hn,_⟩:=I.loc
  refine .cons (by rw [I.ok.kind];decide) hf hn ?_ I.funs
  exact Heap.get?_none_of_le (Ql I.ok.bsz I.ok.above)
theorem Inv.stkSub(I:Inv X pins σ H s):∀ b∈frs X.stack,b∈X.env.locals::X.fs:=fun b hb=>by
 rcases I.ok.stk with e | ⟨e,hf⟩
 ·rw [e]at hb;exact Qd _ hb
 ·rw [e]at hb
  unfold frs at hb
  rw [JF,hf]at hb
  exact hb
theorem Inv.stkFree(I:Inv X pins σ H s):∀ b∈frs X.stack,H b=none:=fun b hb=>by
 rcases Qi.mp (I.stkSub b hb)with e | hb
 ·rw [e];exact I.free
 ·obtain⟨_,o,ho,_⟩:=I.ok.funs.mem hb
  exact I.base.free b o ho (I.ok.frf b hb) fun z=>I.ok.exfs b z hb
theorem Inv.step{g':Array GenState}{t':Nat}{d':Drawn}{ch:List Addr}(I:Inv X pins σ H s)
  (hch:∀ b∈ch,(b∈X.ex ∨ X.s₀.heap.objs.size<=b)/\b≠X.env.locals/\(∀ x c,X.env.cells.lookup x=some c->c≠b)/\∀ p∈X.pn++pins,p.1≠b)
  (keep:∀ b o,b≠X.env.locals->b∉X.fs->b∉ch->s.heap.get? b=some o->H b=none->h'.get? b=some o)
  (slot:∀ b o,b≠X.env.locals->b∈X.fs->b∉ch->s.heap.get? b=some o->H b=none->∃ sl,h'.get? b=some { o with slots:=sl }) (free:∀ b o,b∉ch->s.heap.get? b=some o->H b=none->H' b=none)
  (there:∀ b o,b∉ch->s.heap.get? b=some o->∃ o',h'.get? b=some o')
  (tups:∀ b xs,H b=some (.tup xs)->H' b=some (.tup xs)) (frzs:∀ b o u,H b=some (.frz o u)->H' b=some (.frz o u)) (tbls:∀ b ps,H b=some (.tbl ps)->∃ more,H' b=some (.tbl (ps++more)))
  (ns:∀ m,s.heap.Ns X.env.locals m->h'.Ns X.env.locals m) (hok:HOk X.prog X.w H' h') (hg:AllBare g'):
  Inv X pins σ H' { s with heap:=h',gens:=g',drawn:=d',toks:=t' }:=by
 have neL:∀ b o,X.s₀.heap.get? b=some o->b≠X.env.locals:=fun b o e=>Qt (Qz (Qk e) I.ok.above)
 have neC:∀ b o,X.s₀.heap.get? b=some o->b∉X.ex->b∉ch:=fun b o e hx hb=>by
  rcases(hch b hb).1 with z | z
  ·exact hx z
  ·exact absurd (Qz (Qk e) z) (YN _)
 have cellK:∀ x c,X.env.cells.lookup x=some c->∀ v,s.heap.IsCell c v->h'.IsCell c v:=fun x c e v zz=>by
  obtain⟨o,ho,hd⟩:=zz
  have nch:c∉ch:=fun z=>(hch c z).2.2.1 x c e rfl
  by_cases hc:c∈X.fs
  ·obtain⟨sl,q⟩:=slot c o (I.cne x c e) hc nch ho (I.freeC x c e)
   exact⟨_,q,hd⟩
  ·exact⟨o,keep c o (I.cne x c e) hc nch ho (I.freeC x c e),hd⟩
 refine⟨I.ok,I.os,hg,⟨fun b o e n hb hx=>?_,fun b o e n hb hx=>?_,fun b o e n hx=>?_,fun b o e hx=>?_,fun b xs e=>tups b xs (I.base.tups b xs e),fun b o xs e=>frzs b o xs (I.base.frzs b o xs e),fun b ps e=>?_⟩,?_,fun x c e=>?_,?_,fun x c e=>?_,fun p hp=>?_,hok,I.len⟩
 ·exact keep b o (neL b o e) hb (neC b o e hx) (I.base.keep b o e n hb hx) (I.base.free b o e n hx)
 ·obtain⟨sl,e1⟩:=I.base.slot b o e n hb hx
  obtain⟨sl',e2⟩:=slot b _ (neL b o e) hb (neC b o e hx) e1 (I.base.free b o e n hx)
  exact⟨sl',e2⟩
 ·obtain⟨o',e1⟩:=I.base.there b o e hx
  exact free b o' (neC b o e hx) e1 (I.base.free b o e n hx)
 ·obtain⟨o',e1⟩:=I.base.there b o e hx
  exact there b o' (neC b o e hx) e1
 ·obtain⟨m1,e1⟩:=I.base.tbls b ps e
  obtain⟨m2,e2⟩:=tbls b _ e1
  exact⟨m1++m2,by rw [e2,Array.append_assoc]⟩
 ·obtain⟨m,hn,hl⟩:=I.loc
  refine⟨m,ns m hn,fun i x v e1 e2 e3=>?_⟩
  obtain⟨u,r,l⟩:=hl i x v e1 e2 e3
  refine⟨u,r,?_⟩
  rcases l with l | ⟨k,c,e,z⟩
  ·exact .inl l
  ·exact .inr ⟨k,c,e,cellK x c e _ z⟩
 ·obtain⟨v,z⟩:=I.cell x c e
  exact⟨v,cellK x c e v z⟩
 ·obtain⟨m,⟨o,_,_,ho,_⟩,_⟩:=I.loc
  exact free _ o (fun z=>(hch _ z).2.1 rfl) ho I.free
 ·obtain⟨v,o,ho,hd⟩:=I.cell x c e
  exact free c o (fun z=>(hch c z).2.2.1 x c e rfl) ho (I.freeC x c e)
 ·obtain⟨e,n,ne,nf,d⟩:=I.pin p hp
  have nch:p.1∉ch:=fun z=>(hch p.1 z).2.2.2 p hp rfl
  exact⟨keep p.1 p.2 ne nf nch e n,free p.1 p.2 nch e n,ne,nf,d⟩
theorem Inv.un{t':Nat}(I:Inv X pins σ H s)(u:Un X.fs [] H H' s.heap h')(hok:HOk X.prog X.w H' h'):Inv X pins σ H' { s with heap:=h',toks:=t' }:=by
 obtain⟨m,⟨o,es,ep,ho,r⟩,_⟩:=id I.loc
 obtain⟨sl,hL⟩:=u.any ho I.free (by simp)
 exact I.step (g':=s.gens) (d':=s.drawn) (ch:=[]) (fun _ z=>nomatch z) (fun b o _ hb _ e n=>u.keep b o e n hb (by simp)) (fun b o _ hb _ e n=>u.slot b o e n hb (by simp)) (fun b o _ e n=>u.free b o e n (by simp)) (fun b o _ e=>u.there b o e (by simp)) u.tups u.frzs u.tbls (fun m' hm=>by
  obtain⟨o',es',ep',ho',r'⟩:=hm
  rw [ho]at ho';cases ho'
  exact⟨_,es',ep',hL,r'⟩) hok I.bare
theorem Inv.call{g':Array GenState}{t':Nat}{d':Drawn}{ch:List Addr}(I:Inv X pins σ H s)(u:Un (frs X.stack) ch H H' s.heap h')(hok:HOk X.prog X.w H' h')(hg:AllBare g')
  (hch:∀ b∈ch,(b∈X.ex ∨ X.s₀.heap.objs.size<=b)/\b≠X.env.locals/\(∀ x c,X.env.cells.lookup x=some c->c≠b)/\∀ p∈X.pn++pins,p.1≠b):
  Inv X pins σ H' { s with heap:=h',gens:=g',drawn:=d',toks:=t' }:=by
 obtain⟨m,⟨o,es,ep,ho,r⟩,_⟩:=id I.loc
 obtain⟨sl,hL⟩:=u.any ho I.free fun z=>(hch _ z).2.1 rfl
 exact I.step (ch:=ch) hch (fun b o hL hb hc e n=>u.keep b o e n (fun z=>(Qi.mp (I.stkSub b z)).elim hL hb) hc) (fun b o _ _ hc e n=>u.any e n hc) (fun b o hc e n=>u.free b o e n hc) (fun b o hc e=>u.there b o e hc) u.tups u.frzs u.tbls (fun m' hm=>by
  obtain⟨o',es',ep',ho',r'⟩:=hm
  rw [ho]at ho';cases ho'
  exact⟨_,es',ep',hL,r'⟩) hok hg
theorem Inv.turned{t':Nat}{it:Addr}(I:Inv X pins σ H s)(k:∀ b o,b≠it->s.heap.get? b=some o->h'.get? b=some o)(hn:H it=none)(hL:it≠X.env.locals)
  (h1:it∈X.ex ∨ X.s₀.heap.objs.size<=it) (h2:∀ x c,X.env.cells.lookup x=some c->c≠it) (h3:∀ p∈X.pn++pins,p.1≠it):Inv X pins σ H { s with heap:=h',toks:=t' }:=by
 have nit:∀ b u,H b=some u->b≠it:=fun b u e z=>by rw [z,hn]at e;cases e
 refine I.step (g':=s.gens) (d':=s.drawn) (ch:=[it]) (fun b hb=>?_) (fun b o _ _ hc e _=>k b o (fun z=>hc (by simp [z])) e) (fun b o _ _ hc e _=>⟨o.slots,k b o (fun z=>hc (by simp [z])) e⟩) (fun _ _ _ _ n=>n)
  (fun b o hc e=>⟨o,k b o (fun z=>hc (by simp [z])) e⟩) (fun _ _ e=>e) (fun _ _ _ e=>e) (fun b ps e=>⟨#[],by rw [e];simp⟩) (fun m hm=>?_) (fun b u e=>?_) I.bare
 ·have e:b=it:=by simpa using hb
  subst e
  exact⟨h1,hL,h2,h3⟩
 ·obtain⟨o,es,ep,ho,r⟩:=hm
  exact⟨o,es,ep,k _ o (Ne.symm hL) ho,r⟩
 ·refine(I.hok b u e).stay (fun c v hc q=>k c v ?_ q) (fun _ q=>q) fun _ _ q=>q
  rcases hc with z | z
  ·rw [z];exact nit b u e
  ·exact nit c _ z
theorem Inv.tok(I:Inv X pins σ H s)(t:Nat):Inv X pins σ H { s with toks:=t }:=I.un (h':=s.heap) (t':=t) Un.refl I.hok
theorem Inv.kept{t':Nat}(I:Inv X pins σ H s)(k:∀ b u,s.heap.get? b=some u->h'.get? b=some u):Inv X pins σ H { s with heap:=h',toks:=t' }:=I.un (Un.kept k) (I.hok.kept k)
theorem Inv.laid{a:Addr}{o:HO}{t':Nat}(I:Inv X pins σ H s)(k:∀ b u,s.heap.get? b=some u->h'.get? b=some u)(hp:s.heap.objs.size<=a)(new:zAU X.prog X.w (upd H a o) h' a o):
  Inv X pins σ (upd H a o) { s with heap:=h',toks:=t' }:=I.un (Un.laid k hp (I.hok.fresh hp)) (I.hok.laid k hp new)
theorem Inv.write{x e:Addr}{o:HO}{t':Nat}(I:Inv X pins σ H s)(mu:Mut (H x))(he:e=x ∨ H e=some (.own x))(k:∀ b u,b≠e->s.heap.get? b=some u->h'.get? b=some u)(heo:∃ u,h'.get? e=some u)
  (new:zAU X.prog X.w (upd H x o) h' x o):Inv X pins σ (upd H x o) { s with heap:=h',toks:=t' }:=I.un (Un.write mu he k heo) (I.hok.write mu he k heo new)
theorem Inv.pins_of{pins':List (Addr × Obj)}(I:Inv X pins σ H s)(h:∀ p∈pins',s.heap.get? p.1=some p.2/\H p.1=none/\p.1≠X.env.locals/\p.1∉X.fs/\∀ v,p.2.data≠.cell v):Inv X pins' σ H s:=
 ⟨I.ok,I.os,I.bare,I.base,I.loc,I.cell,I.free,I.freeC,fun p hp=>(QC.mp hp).elim (fun z=>I.pin p (QO _ z)) (h p),I.hok,I.len⟩
theorem zJC{N:List Str}(hN:N.Nodup){i j:Nat}{x:Str}(a:N[i]?=some x)(b:N[j]?=some x):i=j:=by
 obtain⟨h1,e1⟩:=Qf.mp a
 obtain⟨h2,e2⟩:=Qf.mp b
 exact(List.getElem_inj hN).mp (e1.trans e2.symm)
theorem zKL{M:Model}{A:Around}{E:Value->Shared->Prop}{i:Nat}{x:Str}{v:V}{u:Value}{Q:Unit->Shared->Prop}(I:Inv X pins σ H s)(hN:X.N.Nodup)(hi:X.N[i]?=some x)(hx:Loc X.env.scope x)(r:RelV v u)
  (h:∀ s',Inv X pins (σ.set i (some v)) H s'->(∃ a,Heap.SameBut a s.heap s'.heap/\(a=X.env.locals ∨ X.env.cells.lookup x=some a))->Q () s') (hf:X.fn x=true ∨ X.env.scope.names.lookup x=some .local:=by first | exact .inl rfl | exact .inr rfl | assumption):wpAny M A (storeName X.env x u) Q E s:=by
 obtain⟨m,hn,hl⟩:=id I.loc
 have hcls:(X.env.scope.kind == .class || (X.env.scope.kind == .module && X.env.locals != X.env.globals))=false:=by rw [I.ok.kind];rfl
 have hiσ:i<σ.length:=by rw [I.len];exact(Qf.mp hi).1
 have cne:=I.cne
 have tracked:∀{a:Addr}{h':Heap},(∃ o,s.heap.get? a=some o/\H a=none)->Heap.SameBut a s.heap h'->HOk X.prog X.w H h':=fun{a h'} ha hs b ob e=>by
  obtain⟨_,_,hfree⟩:=ha
  refine(I.hok b ob e).stay (fun c w' hc q=>(hs.2 c ?_).trans q) (fun _ q=>q) fun _ _ q=>q
  rintro rfl
  rcases hc with rfl | hc
  ·rw [hfree]at e;cases e
  ·rw [hfree]at hc;cases hc
 rcases hx with hk | hk
 ·refine wpAny_storeName_local hk hn (fun h' hn' hs=>?_) hcls
  obtain⟨oL,_,_,hoL,_⟩:=id hn
  refine h _ ⟨I.ok,I.os,I.bare,⟨fun b o e n hb hx=>?_,fun b o e n hb hx=>?_,I.base.free,fun b o e hx=>?_,I.base.tups,I.base.frzs,I.base.tbls⟩,⟨_,hn',fun j y v' e1 e2 e3=>?_⟩,fun y c e=>?_,I.free,I.freeC,fun p hp=>?_,tracked ⟨oL,hoL,I.free⟩ hs,by simpa using I.len⟩ ⟨_,hs,.inl rfl⟩
  ·exact(hs.2 b (Qt (Qz (Qk e) I.ok.above))).trans (I.base.keep b o e n hb hx)
  ·obtain⟨sl,e1⟩:=I.base.slot b o e n hb hx
   exact⟨sl,(hs.2 b (Qt (Qz (Qk e) I.ok.above))).trans e1⟩
  ·obtain⟨o',e1⟩:=I.base.there b o e hx
   exact⟨o',(hs.2 b (Qt (Qz (Qk e) I.ok.above))).trans e1⟩
  ·by_cases hj:j=i
   ·subst hj
    rw [hi]at e1;cases e1
    rw [QT hiσ]at e2
    cases e2
    exact⟨u,r,.inl ⟨hk,by simp⟩⟩
   ·rw [QS (Ne.symm hj)]at e2
    obtain⟨u',r',q⟩:=hl j y v' e1 e2 e3
    refine⟨u',r',?_⟩
    rcases q with⟨k,e⟩ | ⟨k,c,e,z⟩
    ·refine .inl ⟨k,?_⟩
     have:y≠x:=fun e=>hj (zJC hN e1 (e ▸ hi))
     simp [this,e]
    ·exact .inr ⟨k,c,e,z.sameBut hs (cne y c e)⟩
  ·obtain⟨w',z⟩:=I.cell y c e
   exact⟨w',z.sameBut hs (cne y c e)⟩
  ·obtain⟨e,n,ne,nf,d⟩:=I.pin p hp
   exact⟨(hs.2 p.1 ne).trans e,n,ne,nf,d⟩
 ·have hfn:X.fn x=true:=by
   rcases hf with z | z
   ·exact z
   ·rw [z]at hk;cases hk
  obtain⟨c,hc⟩:=I.ok.has x (.inl hk)
  obtain⟨w',z⟩:=I.cell x c hc
  refine wpAny_storeName_cell I.ok.kind hk hc z (fun h' hc' hs=>?_)
  obtain⟨oc,hoc,hocd⟩:=id z
  refine h { s with heap:=h' } ⟨I.ok,I.os,I.bare,⟨fun b o e n hb hx=>?_,fun b o e n hb hx=>?_,I.base.free,fun b o e hx=>?_,I.base.tups,I.base.frzs,I.base.tbls⟩,⟨m,hn.sameBut hs (Ne.symm (cne x c hc)),fun j y v' e1 e2 e3=>?_⟩,fun y c' e=>?_,I.free,I.freeC,fun p hp=>?_,tracked ⟨oc,hoc,I.freeC x c hc⟩ hs,by simpa using I.len⟩ ⟨c,hs,.inr hc⟩
  ·exact(hs.2 b (Qt (Qz (Qk e) (I.ok.cab x c hfn hc)))).trans (I.base.keep b o e n hb hx)
  ·obtain⟨sl,e1⟩:=I.base.slot b o e n hb hx
   exact⟨sl,(hs.2 b (Qt (Qz (Qk e) (I.ok.cab x c hfn hc)))).trans e1⟩
  ·obtain⟨o',e1⟩:=I.base.there b o e hx
   exact⟨o',(hs.2 b (Qt (Qz (Qk e) (I.ok.cab x c hfn hc)))).trans e1⟩
  ·by_cases hj:j=i
   ·subst hj
    rw [hi]at e1;cases e1
    rw [QT hiσ]at e2
    cases e2
    exact⟨u,r,.inr ⟨.inl hk,c,hc,hc'⟩⟩
   ·rw [QS (Ne.symm hj)]at e2
    obtain⟨u',r',q⟩:=hl j y v' e1 e2 e3
    refine⟨u',r',?_⟩
    rcases q with q | ⟨k,c',e,z'⟩
    ·exact .inl q
    ·refine .inr ⟨k,c',e,z'.sameBut hs ?_⟩
     rintro rfl
     exact hj (zJC hN e1 (I.ok.inj _ _ _ e hc ▸ hi))
  ·by_cases hcc:c'=c
   ·subst hcc;exact⟨_,hc'⟩
   ·obtain⟨w2,z2⟩:=I.cell y c' e
    exact⟨w2,z2.sameBut hs hcc⟩
  ·obtain⟨e,n,ne,nf,d⟩:=I.pin p hp
   refine⟨(hs.2 p.1 ?_).trans e,n,ne,nf,d⟩
   intro q
   rw [q,hoc]at e
   have q':oc=p.2:=QF e
   exact d w' (by rw [<- q'];exact hocd)
theorem zKK{M:Model}{A:Around}{E:Value->Shared->Prop}{i:Nat}{x:Str}{v:V}{u:Value}{Q:Unit->Shared->Prop}(I:Inv X pins σ H s)(hN:X.N.Nodup)(hi:X.N[i]?=some x)(hx:Loc X.env.scope x)(r:RelV v u)
  (h:∀ s',Inv X pins (σ.set i (some v)) H s'->Q () s') (hf:X.fn x=true ∨ X.env.scope.names.lookup x=some .local:=by first | exact .inl rfl | exact .inr rfl | assumption):wpAny M A (storeName X.env x u) Q E s:=
 zKL I hN hi hx r (fun s' I' _=>h s' I') hf
theorem Inv.call'{s':Shared}{ch:List Addr}(I:Inv X pins σ H s)(ho:s'.os=s.os)(u:Un (frs X.stack) ch H H' s.heap s'.heap)(hok:HOk X.prog X.w H' s'.heap)(hg:AllBare s'.gens)
  (hch:∀ b∈ch,(b∈X.ex ∨ X.s₀.heap.objs.size<=b)/\b≠X.env.locals/\(∀ x c,X.env.cells.lookup x=some c->c≠b)/\∀ p∈X.pn++pins,p.1≠b):Inv X pins σ H' s':=by
 obtain⟨h',g',d',t',o'⟩:=s'
 have e:o'=s.os:=ho
 subst e
 exact I.call (g':=g') (t':=t') (d':=d') u hok hg hch
end
abbrev XK:=Value->Option Addr->Hp->Prop
abbrev St:=List (Option V)
abbrev VK:=V->Hp->Prop
abbrev TE:=St->Hp->VK->Prop
abbrev TT:=St->Hp->(Bool->Hp->Prop)->Prop
abbrev TA:=St->Hp->(List V->Hp->Prop)->Prop
structure Ends where
 nx:St->Hp->Prop
 rt:VK
 bk:St->Hp->Prop:=fun _ _=>False
 ct:St->Hp->Prop:=fun _ _=>False
abbrev TS:=Ends->St->Hp->Prop
def EP(X:Cx)(pins:List (Addr × Obj))(σ:St)(Q:VK)(u:Value)(s':Shared):Prop:=∃ v H',Inv X pins σ H' s'/\RelV v u/\Q v H'
def TP(X:Cx)(pins:List (Addr × Obj))(σ:St)(Q:Bool->Hp->Prop)(b:Bool)(s':Shared):Prop:=∃ H',Inv X pins σ H' s'/\Q b H'
def AP(X:Cx)(pins:List (Addr × Obj))(σ:St)(Q:List V->Hp->Prop)(us:List Value)(s':Shared):Prop:=∃ vs H',Inv X pins σ H' s'/\Vals vs us/\Q vs H'
def SP(X:Cx)(pins:List (Addr × Obj))(D:Ends)(f:Flow)(s':Shared):Prop:=
 match f with
 | .next=>∃ σ' H',Inv X pins σ' H' s'/\D.nx σ' H'
 | .brk=>∃ σ' H',Inv X pins σ' H' s'/\D.bk σ' H'
 | .cont=>∃ σ' H',Inv X pins σ' H' s'/\D.ct σ' H'
 | .ret u=>∃ v σ' H',Inv X pins σ' H' s'/\RelV v u/\D.rt v H'
def PE(X:Cx)(e:Expr)(t:TE):Prop:=
 ∀(pins:List (Addr × Obj)) (s:Shared) (σ:St) (H:Hp) (Q:VK),Inv X pins σ H s->t σ H Q->wpAny (model X.prog X.w) X.A (eval e X.env) (EP X pins σ Q) X.xe s
def PT(X:Cx)(e:Expr)(t:TT):Prop:=
 ∀(pins:List (Addr × Obj)) (s:Shared) (σ:St) (H:Hp) (Q:Bool->Hp->Prop),Inv X pins σ H s->t σ H Q->wpAny (model X.prog X.w) X.A (isTrue e X.env (eval e X.env)) (TP X pins σ Q) X.xe s
def PW(X:Cx)(e:Expr)(t:TT):Prop:=
 ∀(whole:Sem Value) (pins:List (Addr × Obj)) (s:Shared) (σ:St) (H:Hp) (Q:Bool->Hp->Prop),Inv X pins σ H s->t σ H Q->wpAny (model X.prog X.w) X.A (isTrue e X.env whole) (TP X pins σ Q) X.xe s
theorem PW.pt{X:Cx}{e:Expr}{t:TT}(h:PW X e t):PT X e t:=h _
def PA(X:Cx)(es:List Expr)(t:TA):Prop:=
 ∀(pos:Pos) (pins:List (Addr × Obj)) (s:Shared) (σ:St) (H:Hp) (Q:List V->Hp->Prop),Inv X pins σ H s->t σ H Q->wpAny (model X.prog X.w) X.A (spliced (backTo pos (starEach es X.env))) (AP X pins σ Q) X.xe s
def PS(X:Cx)(st:Stmt)(t:TS):Prop:=
 ∀(pins:List (Addr × Obj)) (s:Shared) (σ:St) (H:Hp) (D:Ends),Inv X pins σ H s->t D σ H->wpAny (model X.prog X.w) X.A (exec st X.env) (SP X pins D) X.xe s
def PSs(X:Cx)(st:List Stmt)(t:TS):Prop:=
 ∀(pins:List (Addr × Obj)) (s:Shared) (σ:St) (H:Hp) (D:Ends),Inv X pins σ H s->t D σ H->wpAny (model X.prog X.w) X.A (execs st X.env) (SP X pins D) X.xe s
theorem thn{α:Type}{t:Sem α}{Q Q':α->Shared->Prop}{M:Model}{A:Around}{E:Value->Shared->Prop}{s:Shared}(h:wpAny M A t Q E s)(hQ:∀ a s,Q a s->Q' a s):wpAny M A t Q' E s:=YU h hQ fun _ _ x=>x
end L2
namespace L2
open PySem PySem.Spec PyProof.Rows
section
variable {X:Cx}
def tVar(i:Nat):TE:=fun σ H Q=>∃ v,σ[i]?=some (some v)/\Q v H
def tC(v:V):TE:=fun _ H Q=>Q v H
theorem zGx{i:Nat}{x:Str}{pos:Pos}(hN:X.N[i]?=some x)(hv:Vis X.env.scope x)(hd:(x == ("__debug__":Str))=false:=by decide)(hcd:(x == ("__classdict__":Str))=false:=by decide):PE X (.Name x pos) (tVar i):=by
 intro pins s σ H Q I h
 obtain⟨v,e,h⟩:=h
 obtain⟨m,hn,hl⟩:=I.loc
 obtain⟨u,r,l⟩:=hl i x v hN e hv
 have fin:EP X pins σ Q u s:=⟨v,H,I,r,h⟩
 rcases l with⟨hk,hm⟩ | ⟨hk,c,hc,hcell⟩
 ·exact wpAny_Name (wpAny_loadName_local I.ok.kind hk hn hm fin) hd
 ·rcases hk with hk | hk
  ·exact wpAny_Name (wpAny_loadName_cell I.ok.kind hk hc hcell fin) hd
  ·exact wpAny_Name (wpAny_loadName_free I.ok.kind hk hc hcell fin hcd) hd
theorem zOK{i j pos}:PE X (.Constant (.int i) j pos) (tC (.int i)):=fun _ _ _ H _ I h=>wpAny_Constant_int ⟨.int i,H,I.tok _,⟨_,rfl⟩,h⟩
theorem pe_bl{b j pos}:PE X (.Constant (.bool b) j pos) (tC (.bl b)):=fun _ _ _ H _ I h=>Constant_bool ⟨.bl b,H,I,rfl,h⟩
theorem zOO{x j pos}:PE X (.Constant (.str x) j pos) (tC (.str x)):=fun _ _ _ H _ I h=>Calls.Constant_str ⟨.str x,H,I.tok _,⟨_,rfl⟩,h⟩
def Gl(X:Cx)(x:Str):Prop:=X.env.kindOf x=some .globalImplicit
theorem zI8{E:Value->Shared->Prop}{pins:List (Addr × Obj)}{s:Shared}{σ:St}{H:Hp}{x:Str}{u:Value}{pos:Pos}{Q:Value->Shared->Prop}(I:Inv X pins σ H s)(hg:Gl X x)(hm:X.mg x=some u)(h:Q u s)
  (hd:(x == ("__debug__":Str))=false:=by decide):wpAny (model X.prog X.w) X.A (eval (.Name x pos) X.env) Q E s:=
 Calls.Name_function_global I.ok.kind hg (Calls.loadGlobal_global (by rw [I.ok.glob];exact I.mod.glob.keeps I.bk) hm h) hd
theorem zB8{E:Value->Shared->Prop}{pins:List (Addr × Obj)}{s:Shared}{σ:St}{H:Hp}{x:Str}{u:Value}{pos:Pos}{Q:Value->Shared->Prop}(I:Inv X pins σ H s)(hg:Gl X x)(hm:X.mg x=none)(hv:bootBuiltins x=some u)(h:Q u s)
  (hn:x≠"__name__":=by decide) (hd:(x == ("__debug__":Str))=false:=by decide):wpAny (model X.prog X.w) X.A (eval (.Name x pos) X.env) Q E s:=by
 obtain⟨mb,h1,h2⟩:=I.mod.blt
 exact Calls.Name_function_global I.ok.kind hg (Calls.loadGlobal_builtin (by rw [I.ok.glob];exact I.mod.glob.keeps I.bk) hm (by rw [I.ok.blt];exact h1.keeps I.bk) ((h2 x hn).trans hv) h) hd
theorem zJS{x:Str}{v:V}{u:Value}{pos:Pos}(hg:Gl X x)(hm:X.mg x=some u)(r:RelV v u)(hd:(x == ("__debug__":Str))=false:=by decide):PE X (.Name x pos) (tC v):=
 fun _ _ _ H _ I h=>zI8 I hg hm ⟨v,H,I,r,h⟩ hd
theorem zOC{x:Str}{v:V}{u:Value}{pos:Pos}(hg:Gl X x)(hm:X.mg x=none)(hv:bootBuiltins x=some u)(r:RelV v u)(hn:x≠"__name__":=by decide)(hd:(x == ("__debug__":Str))=false:=by decide):PE X (.Name x pos) (tC v):=
 fun _ _ _ H _ I h=>zB8 I hg hm hv ⟨v,H,I,r,h⟩ hn hd
variable {a b:Expr}{ta tb:TE}{pos:Pos}
def tB(t:TE):TT:=fun σ H Q=>t σ H fun x H1=>∃ c,x=.bl c/\Q c H1
theorem zPf{e:Expr}{t:TE}(h:PE X e t)(he:∀ whole,isTrue e X.env whole=(do let v <- whole;standAt e.pos;holding [v] (truthy v)):=by intro _;rfl):PT X e (tB t):=by
 intro pins s σ H Q I hw
 refine isTrue_plain (thn (h pins s σ H _ I hw) fun v s1 ⟨x,H1,I1,r1,q1⟩=>?_) (he _)
 obtain⟨d,rfl,q⟩:=q1
 cases r1
 exact Ja ⟨H1,I1,q⟩
variable {tA tB':TT}{rest:List Expr}
def tAnd(t u:TT):TT:=fun σ H Q=>t σ H fun c H1=>if c=true then u σ H1 Q else Q false H1
def tOr(t u:TT):TT:=fun σ H Q=>t σ H fun c H1=>if c=true then Q true H1 else u σ H1 Q
def tNot(t:TT):TT:=fun σ H Q=>t σ H fun c H1=>Q (!c) H1
theorem zPl(ha:PT X a tA):PW X (.BoolOp .And [a] pos) tA:=by
 intro wh pins s σ H Q I h
 refine isTrue_and (thn (ha pins s σ H Q I h) fun c s1 e=>?_)
 cases c with
 | true=>exact isTrue_and_nil e
 | false=>exact e
theorem zPm(ha:PT X a tA):PW X (.BoolOp .Or [a] pos) tA:=by
 intro wh pins s σ H Q I h
 refine isTrue_or (thn (ha pins s σ H Q I h) fun c s1 e=>?_)
 cases c with
 | false=>exact isTrue_or_nil e
 | true=>exact e
theorem zPk(ha:PT X a tA)(hb:PW X (.BoolOp .And (b::rest) pos) tB'):PW X (.BoolOp .And (a::b::rest) pos) (tAnd tA tB'):=by
 intro wh pins s σ H Q I h
 refine isTrue_and (thn (ha pins s σ H _ I h) fun c s1 zz=>?_)
 obtain⟨H1,I1,q1⟩:=zz
 cases c with
 | true=>exact hb wh pins s1 σ H1 Q I1 q1
 | false=>exact⟨H1,I1,q1⟩
theorem pw_or(ha:PT X a tA)(hb:PW X (.BoolOp .Or (b::rest) pos) tB'):PW X (.BoolOp .Or (a::b::rest) pos) (tOr tA tB'):=by
 intro wh pins s σ H Q I h
 refine isTrue_or (thn (ha pins s σ H _ I h) fun c s1 zz=>?_)
 obtain⟨H1,I1,q1⟩:=zz
 cases c with
 | true=>exact⟨H1,I1,q1⟩
 | false=>exact hb wh pins s1 σ H1 Q I1 q1
theorem zPe(ha:PT X a tA):PT X (.UnaryOp .Not a pos) (tNot tA):=by
 intro pins s σ H Q I h
 exact isTrue_not (ha pins s σ H (fun c H1=>Q (!c) H1) I h)
def tAndV(ta tb:TE):TE:=fun σ H Q=>ta σ H fun x H1=>∃ c,x=.bl c/\if c=true then tb σ H1 Q else Q (.bl false) H1
def tNotV(ta:TE):TE:=fun σ H Q=>ta σ H fun x H1=>∃ c,x=.bl c/\Q (.bl (!c)) H1
theorem zOM{op}{t:TE}(h:PE X a t):PE X (.BoolOp op [a] pos) t:=fun pins s σ H Q I hw=>BoolOp_one (h pins s σ H Q I hw)
theorem zOB(ha:PE X a ta)(hb:PE X (.BoolOp .And (b::rest) pos) tb):PE X (.BoolOp .And (a::b::rest) pos) (tAndV ta tb):=by
 intro pins s σ H Q I h
 refine BoolOp_and (thn (ha pins s σ H _ I h) fun v s1 zz=>?_)
 obtain⟨x,H1,I1,r1,q1⟩:=zz
 obtain⟨c,rfl,q1⟩:=q1
 cases r1
 refine Ja ?_
 cases c with
 | true=>exact hb pins s1 σ H1 Q I1 q1
 | false=>exact⟨.bl false,H1,I1,rfl,q1⟩
theorem zOL(ha:PE X a ta):PE X (.UnaryOp .Not a pos) (tNotV ta):=by
 intro pins s σ H Q I h
 refine UnaryOp_ (thn (ha pins s σ H _ I h) fun v s1 zz=>?_)
 obtain⟨x,H1,I1,r1,q1⟩:=zz
 obtain⟨c,rfl,q1⟩:=q1
 cases r1
 exact not_of (Ja ⟨.bl (!c),H1,I1,rfl,q1⟩)
def tIf(t:TT)(ta tb:TE):TE:=fun σ H Q=>t σ H fun c H1=>if c=true then ta σ H1 Q else tb σ H1 Q
theorem zOJ{c:Expr}(hc:PT X c tA)(ha:PE X a ta)(hb:PE X b tb):PE X (.IfExp c a b pos) (tIf tA ta tb):=by
 intro pins s σ H Q I h
 refine wpAny_IfExp (thn (hc pins s σ H _ I h) fun d s1 zz=>?_)
 obtain⟨H1,I1,q1⟩:=zz
 cases d with
 | true=>exact ha pins s1 σ H1 Q I1 q1
 | false=>exact hb pins s1 σ H1 Q I1 q1
end
end L2
namespace L2
open PySem PySem.Spec PyProof.Rows
def SqL(K:PySem.W.Frag)(H:Hp)(a:Addr)(xs:List V):Prop:=
 Rd H a (.lst xs) ∨
  ∃(o:Obj) (its:Array Value) (n:Nat),K.lookup a=some o/\o.cls=.type "list"/\o.dict=none/\o.data=.seq its n/\its.size<=sizeLine/\Vals xs its.toList
def SqT(K:PySem.W.Frag)(H:Hp)(a:Addr)(xs:List V):Prop:=
 Rd H a (.tup xs) ∨
  ∃(o:Obj) (its:Array Value) (n:Nat),K.lookup a=some o/\o.cls=.type "tuple"/\o.data=.seq its n/\its.size<=sizeLine/\Vals xs its.toList
def absV:Value->Option V
 | .none=>some .non
 | .bool b=>some (.bl b)
 | .int i _=>some (.int i)
 | .str x _=>some (.str x)
 | .bytes b _=>some (.byt b)
 | .float b _=>some (.flt b)
 | .ref a=>some (.ref a)
 | .type n=>some (.ty n)
 | _=>none
theorem RelV.abs{x:V}{u:Value}(r:RelV x u):absV u=some x:=by
 cases x with
 | non=>cases r;rfl
 | bl _=>cases r;rfl
 | int _=>obtain⟨t,rfl⟩:=r;rfl
 | str _=>obtain⟨t,rfl⟩:=r;rfl
 | byt _=>obtain⟨t,rfl⟩:=r;rfl
 | flt _=>obtain⟨t,rfl⟩:=r;rfl
 | ref _=>cases r;rfl
 | ty _=>cases r;rfl
theorem RelV.inj{x y:V}{u:Value}(r:RelV x u)(q:RelV y u):x=y:=QF (r.abs.symm.trans q.abs)
theorem Vals.inj{xs ys:List V}{us:List Value}(h:Vals xs us)(h':Vals ys us):xs=ys:=by
 induction h generalizing ys with
 | nil=>cases h';rfl
 | cons r t ih=>
  cases h' with
  | cons r' t'=>rw [r.inj r',ih t']
section
variable {X:Cx}{pins:List (Addr × Obj)}{σ:St}{H:Hp}{s:Shared}{a:Addr}{xs ys:List V}
theorem SqL.of{K:PySem.W.Frag}(h:H a=some (.lst xs)):SqL K H a xs:=.inl (.inl h)
theorem Inv.list(I:Inv X pins σ H s)(h:SqL X.K H a xs):∃ its:List Value,Vals xs its/\PlainL s.heap a its.toArray/\xs.length<=sizeLine:=by
 rcases h with h | ⟨o,its,n,hk,hc,hd,hs,hz,r⟩
 ·obtain⟨z,its,n,r,e⟩:=h.ok I.hok
  exact⟨its,r,⟨_,n,e,rfl,rfl,rfl⟩,z⟩
 ·refine⟨its.toList,r,⟨o,n,I.kIn a o hk,hc,hd,by simpa using hs⟩,?_⟩
  have e:=r.length
  simp only [Qo]at e
  lia
theorem Inv.tuple(I:Inv X pins σ H s)(h:SqT X.K H a xs):∃ its:List Value,Vals xs its/\IsTup s.heap a its.toArray/\xs.length<=sizeLine:=by
 rcases h with h | ⟨o,its,n,hk,hc,hs,hz,r⟩
 ·obtain⟨z,its,r,p⟩:=h.ok I.hok
  exact⟨its,r,p,z⟩
 ·refine⟨its.toList,r,⟨o,I.kIn a o hk,hc,n,by simpa using hs⟩,?_⟩
  have e:=r.length
  simp only [Qo]at e
  lia
theorem Inv.list_inj(I:Inv X pins σ H s)(h:SqL X.K H a xs)(h':SqL X.K H a ys):xs=ys:=by
 obtain⟨its,r,⟨o,n,e,_,_,d⟩,_⟩:=I.list h
 obtain⟨its',r',⟨o',n',e',_,_,d'⟩,_⟩:=I.list h'
 rw [e]at e';cases e'
 rw [d]at d'
 injection d' with d1 _
 have:its=its':=by simpa using congrArg Array.toList d1
 subst this
 exact r.inj r'
theorem Inv.tuple_inj(I:Inv X pins σ H s)(h:SqT X.K H a xs)(h':SqT X.K H a ys):xs=ys:=by
 obtain⟨its,r,⟨o,e,_,n,d⟩,_⟩:=I.tuple h
 obtain⟨its',r',⟨o',e',_,n',d'⟩,_⟩:=I.tuple h'
 rw [e]at e';cases e'
 rw [d]at d'
 injection d' with d1 _
 have:its=its':=by simpa using congrArg Array.toList d1
 subst this
 exact r.inj r'
end
abbrev Cx.wish(X:Cx)(E:Value->Shared->Prop):Cx:={ X with xe:=E }
abbrev Cx.nox(X:Cx):Cx:=X.wish fun _ _=>False
theorem Cx.Ok.wish{X:Cx}(ok:X.Ok)(E:Value->Shared->Prop):(X.wish E).Ok:=
 ⟨ok.mod,ok.kind,ok.glob,ok.blt,ok.above,ok.inj,ok.has,ok.cab,ok.hd,ok.frames,ok.stk,ok.exf,ok.bs,ok.bsz,ok.noex,ok.exfs,ok.funs,ok.frf⟩
theorem Cx.Ok.unwish{X:Cx}{E:Value->Shared->Prop}(ok:(X.wish E).Ok):X.Ok:=
 ⟨ok.mod,ok.kind,ok.glob,ok.blt,ok.above,ok.inj,ok.has,ok.cab,ok.hd,ok.frames,ok.stk,ok.exf,ok.bs,ok.bsz,ok.noex,ok.exfs,ok.funs,ok.frf⟩
section
variable {X:Cx}{pins:List (Addr × Obj)}{σ:St}{H:Hp}{s:Shared}{E:Value->Shared->Prop}
theorem Inv.wish(I:Inv X pins σ H s)(E:Value->Shared->Prop):Inv (X.wish E) pins σ H s:=⟨I.ok.wish E,I.os,I.bare,I.base,I.loc,I.cell,I.free,I.freeC,I.pin,I.hok,I.len⟩
theorem Inv.unwish(I:Inv (X.wish E) pins σ H s):Inv X pins σ H s:=⟨I.ok.unwish,I.os,I.bare,I.base,I.loc,I.cell,I.free,I.freeC,I.pin,I.hok,I.len⟩
theorem SP.unwish{D:Ends}{f:Flow}{s':Shared}(h:SP (X.wish E) pins D f s'):SP X pins D f s':=by
 cases f with
 | next=>obtain⟨σ',H',I,q⟩:=h;exact⟨σ',H',I.unwish,q⟩
 | brk=>obtain⟨σ',H',I,q⟩:=h;exact⟨σ',H',I.unwish,q⟩
 | cont=>obtain⟨σ',H',I,q⟩:=h;exact⟨σ',H',I.unwish,q⟩
 | ret u=>obtain⟨v,σ',H',I,r,q⟩:=h;exact⟨v,σ',H',I.unwish,r,q⟩
theorem PSs.nox{st:List Stmt}{t:TS}(h:PSs X.nox st t):PSs X st t:=fun pins s σ H D I hw=>
 YU (h pins s σ H D (I.wish _) hw) (fun _ _ q=>q.unwish) fun _ _ z=>False.elim z
end
section
variable {X:Cx}{st:Stmt}{rest:List Stmt}{t u:TS}{e:Expr}{te:TE}{pos:Pos}
def tNext:TS:=fun D σ H=>D.nx σ H
def tSeq(t u:TS):TS:=fun D σ H=>t { D with nx:=u D } σ H
theorem zPb:PSs X [] tNext:=fun _ _ σ H _ I h=>wpAny_execs_nil ⟨σ,H,I,h⟩
theorem zPa(h1:PS X st t)(h2:PSs X rest u):PSs X (st::rest) (tSeq t u):=by
 intro pins s σ H D I h
 refine wpAny_execs_cons (thn (h1 pins s σ H { D with nx:=u D } I h) fun f s1 q=>?_)
 cases f with
 | next=>
  obtain⟨σ',H',I',q⟩:=q
  exact h2 pins s1 σ' H' D I' q
 | ret v=>exact q
 | brk=>exact q
 | cont=>exact q
theorem zPc(h1:PS X st t):PSs X [st] t:=by
 intro pins s σ H D I h
 refine wpAny_execs_cons (thn (h1 pins s σ H D I h) fun f s1 q=>?_)
 cases f with
 | next=>exact wpAny_execs_nil q
 | ret v=>exact q
 | brk=>exact q
 | cont=>exact q
theorem Inv.quiet{pins:List (Addr × Obj)}{σ:St}{H:Hp}{s:Shared}(I:Inv X pins σ H s):interactive X.env=false:=by simp [interactive,I.ok.kind]
def tDrop(te:TE):TS:=fun D σ H=>te σ H fun _ H1=>D.nx σ H1
theorem zGB(he:PE X e te)(hs:swapsWith e none pos.line X.env=pure false:=by rfl):PS X (.Expr e pos) (tDrop te):=by
 intro pins s σ H D I h
 exact wpAny_Expr_any (thn (he pins s σ H _ I h) fun v s1 ⟨x,H1,I1,r1,q1⟩=>⟨σ,H1,I1,q1⟩) I.quiet hs
def tRet(te:TE):TS:=fun D σ H=>te σ H D.rt
theorem zO8(he:PE X e te):PS X (.Return (some e) pos) (tRet te):=by
 intro pins s σ H D I h
 exact wpAny_Return_some (thn (he pins s σ H _ I h) fun v s1 ⟨x,H1,I1,r1,q1⟩=>⟨x,σ,H1,I1,r1,q1⟩)
def tIfS(c:TT)(t u:TS):TS:=fun D σ H=>c σ H fun b H1=>if b=true then t D σ H1 else u D σ H1
theorem ps_if{c:Expr}{a b:List Stmt}{tc:TT}(hc:PT X c tc)(ha:PSs X a t)(hb:PSs X b u):PS X (.If c a b pos) (tIfS tc t u):=by
 intro pins s σ H D I h
 refine wpAny_If (thn (hc pins s σ H _ I h) fun d s1 zz=>?_)
 obtain⟨H1,I1,q1⟩:=zz
 cases d with
 | true=>exact ha pins s1 σ H1 D I1 q1
 | false=>exact hb pins s1 σ H1 D I1 q1
end
abbrev TG:=V->St->Hp->(St->Hp->Prop)->Prop
abbrev TGs:=List V->St->Hp->(St->Hp->Prop)->Prop
def PG(X:Cx)(target:Expr)(t:TG):Prop:=
 ∀(pins:List (Addr × Obj)) (s:Shared) (σ:St) (H:Hp) (v:V) (u:Value) (Q:St->Hp->Prop),Inv X pins σ H s->RelV v u->t v σ H Q->
  wpAny (model X.prog X.w) X.A (assign target X.env u) (fun _ s'=>∃ σ' H',Inv X pins σ' H' s'/\Q σ' H') X.xe s
def PGs(X:Cx)(ts:List Expr)(t:TGs):Prop:=
 ∀(pins:List (Addr × Obj)) (s:Shared) (σ:St) (H:Hp) (vs:List V) (us:List Value) (Q:St->Hp->Prop),Inv X pins σ H s->Vals vs us->t vs σ H Q->
  wpAny (model X.prog X.w) X.A (assignInOrder ((assignEach ts X.env).map (·.2)) us) (fun _ s'=>∃ σ' H',Inv X pins σ' H' s'/\Q σ' H') X.xe s
section
variable {X:Cx}{pos:Pos}
def zEp(i:Nat):TG:=fun v σ H Q=>Q (σ.set i (some v)) H
theorem zOR{i:Nat}{x:Str}(hN:X.N.Nodup)(hi:X.N[i]?=some x)(hx:Loc X.env.scope x)(hf:X.fn x=true ∨ X.env.scope.names.lookup x=some .local:=by first | exact .inl rfl | exact .inr rfl | assumption):PG X (.Name x pos) (zEp i):=by
 intro pins s σ H v u Q I r h
 exact wpAny_assign_Name (zKK I hN hi hx r (fun s' I'=>⟨_,H,I',h⟩) hf)
def gNil:TGs:=fun vs σ H Q=>vs=[]/\Q σ H
def gCons(t:TG)(u:TGs):TGs:=fun vs σ H Q=>∃ v r,vs=v::r/\t v σ H fun σ' H'=>u r σ' H' Q
theorem zOU:PGs X [] gNil:=by
 intro pins s σ H vs us Q I r h
 obtain⟨e,h⟩:=h
 subst e
 cases r
 exact assignInOrder_nil ⟨σ,H,I,h⟩
theorem zOT{e:Expr}{es:List Expr}{t:TG}{u:TGs}(h1:PG X e t)(h2:PGs X es u)
  (hs:(assignEach (e::es) X.env).map (·.2)=assign e X.env::(assignEach es X.env).map (·.2):=by rfl):PGs X (e::es) (gCons t u):=by
 intro pins s σ H vs us Q I r h
 obtain⟨v,vr,e1,h⟩:=h
 subst e1
 cases r with
 | cons r rr=>
  rw [hs]
  refine assignInOrder_cons (thn (h1 pins s σ H _ _ _ I r h) fun _ s1 zz=>?_)
  obtain⟨σ1,H1,I1,q1⟩:=zz
  exact h2 pins s1 σ1 H1 _ _ Q I1 rr q1
def gTup(K:PySem.W.Frag)(n:Nat)(t:TGs):TG:=fun v σ H Q=>∃ a xs,v=.ref a/\SqT K H a xs/\xs.length=n/\t xs σ H Q
theorem zOS{es:List Expr}{k:Nat}{t:TGs}{n:Nat}(hc:X.calm=true)(h:PGs X es t)
  (hn:(assignEach es X.env).length=n:=by rfl) (hst:(assignEach es X.env).findIdx? (·.1)=none:=by rfl):PG X (.Tuple es k pos) (gTup X.K n t):=by
 intro pins s σ H v u Q I r hw
 obtain⟨a,xs,e1,hq,hl,hw⟩:=hw
 subst e1
 cases r
 obtain⟨its,rv,ht,hz⟩:=I.tuple hq
 refine assign_Tuple_tuple (I.ok.hd hc) ht (by simp [hn,<- hl,rv.length]) hst fun h' hx=>?_
 have I1:Inv X pins σ H { s with heap:=h' }:=I.kept (t':=s.toks) fun b o e=>hx b o (Qt (Qk e)) e
 exact h pins _ σ H xs _ Q I1 (by simpa using rv) hw
def tAsg(te:TE)(g:TG):TS:=fun D σ H=>te σ H fun x H1=>g x σ H1 D.nx
theorem zO5{tg e:Expr}{te:TE}{g:TG}(he:PE X e te)(hg:PG X tg g)(hs:swapsWithSole [tg] e pos.line X.env=pure false:=by rfl)(hw:swappedStores [tg] e X.env=pure none:=by rfl)
  (h1:(assignEach [tg] X.env).map (·.2)=[assign tg X.env]:=by rfl):PS X (.Assign [tg] e pos) (tAsg te g):=by
 intro pins s σ H D I h
 refine wpAny_Assign_stores (thn (he pins s σ H _ I h) fun v s1 ⟨x,H1,I1,r1,q1⟩=>?_) hs hw
 rw [h1]
 exact thn (hg pins s1 σ H1 x v _ I1 r1 q1) fun _ s2 q=>q
theorem zEO{i:Nat}{x:Str}{e:Expr}{te:TE}{pos':Pos}(hN:X.N.Nodup)(hi:X.N[i]?=some x)(hx:Loc X.env.scope x)(he:PE X e te)(hs:swapsWith e (some (.Name x pos')) pos.line X.env=pure false:=by rfl)(hf:X.fn x=true ∨ X.env.scope.names.lookup x=some .local:=by first | exact .inl rfl | exact .inr rfl | assumption):
  PS X (.Assign [.Name x pos'] e pos) (tAsg te (zEp i)):=by
 intro pins s σ H D I h
 refine wpAny_Assign_Name (thn (he pins s σ H _ I h) fun v s1 ⟨y,H1,I1,r1,q1⟩=>?_) hs
 exact zKK I1 hN hi hx r1 (fun s2 I2=>⟨_,H1,I2,q1⟩) hf
end
section
variable {X:Cx}{pos:Pos}
def zP9(c:TT)(tb:TS):TS:=fun D σ H=>∃ W:Nat->St->Hp->Prop,(∃ m,W m σ H)/\∀ m σ H,W m σ H->
 c σ H fun b H1=>if b=true then ∃ N:St->Hp->Prop,(∀ σ' H',N σ' H'->∃ m',m'<m/\W m' σ' H')/\tb { D with nx:=N,ct:=N,bk:=D.nx } σ H1 else D.nx σ H1
theorem zO9{c:Expr}{body:List Stmt}{tc:TT}{tb:TS}(hp:PassesOwn (model X.prog X.w) X.A X.env X.xe)(hc:PT X c tc)(hb:PSs X body tb):PS X (.While c body [] pos) (zP9 tc tb):=by
 intro pins s σ H D I h
 obtain⟨W,⟨m0,w0⟩,turn⟩:=h
 refine wpAny_While (codeAny_whileLoop (fun n s'=>∃ σ' H',Inv X pins σ' H' s'/\W n σ' H') ?_ m0 ⟨σ,H,I,w0⟩)
 rintro n s1 ⟨σ1,H1,I1,w1⟩
 refine Y8 hp (thn (hc pins s1 σ1 H1 _ I1 (turn n σ1 H1 w1)) fun b s2 zz=>?_)
 obtain⟨H2,I2,q2⟩:=zz
 cases b with
 | true=>
  obtain⟨N,hN,q2⟩:=q2
  rw [if_pos rfl]
  refine Y8 hp (thn (hb pins s2 σ1 H2 _ I2 q2) fun f s3 q3=>?_)
  cases f with
  | next=>
   obtain⟨σ3,H3,I3,n3⟩:=q3
   obtain⟨m',hm,w3⟩:=hN σ3 H3 n3
   exact⟨m',hm,σ3,H3,I3,w3⟩
  | cont=>
   obtain⟨σ3,H3,I3,n3⟩:=q3
   obtain⟨m',hm,w3⟩:=hN σ3 H3 n3
   exact⟨m',hm,σ3,H3,I3,w3⟩
  | brk=>exact q3
  | ret v=>exact q3
 | false=>
  rw [if_neg Qu]
  exact wpAny_execs_nil ⟨σ1,H2,I2,q2⟩
end
structure It where
 go:Nat->Hp->Prop
 yld:Nat->Hp->V->Hp->Prop
 stop:Nat->Hp->Prop
def FpOk(X:Cx)(pins:List (Addr × Obj))(H:Hp)(b:Addr):Prop:=
 H b=none/\b≠X.env.locals/\b∉X.fs/\(b∈X.ex ∨ X.s₀.heap.objs.size<=b)/\(∀ x c,X.env.cells.lookup x=some c->c≠b)/\∀ p∈X.pn++pins,p.1≠b
theorem Inv.fpOk{X:Cx}{pins:List (Addr × Obj)}{σ:St}{H H':Hp}{s:Shared}{b:Addr}(I:Inv X pins σ H s)(hb:s.heap.objs.size<=b)(hn:H' b=none):FpOk X pins H' b:=by
 refine⟨hn,YO (Qz I.lt hb),I.nofs hb,.inr (Ql I.sz hb),fun x c e z=>?_,fun p hp z=>?_⟩
 ·obtain⟨v,q⟩:=I.cell x c e
  exact absurd (Qz q.lt (by rw [z];exact hb)) (YN _)
 ·exact absurd (Qz (Qk (I.pin p hp).1) (by rw [z];exact hb)) (YN _)
structure Turn(P:Program)(w:World)(K:PySem.W.Frag)(tg:Expr)(J:It)(fp:List Addr)(it:Addr)(tn:Nat->Heap->Prop):Prop where
 mem:it∈fp
 obj:∀ i h,tn i h->∀ b∈fp,∃ o,h.get? b=some o/\∀ v,o.data≠.cell v
 keep:∀ i h h',tn i h->(∀ b∈fp,∀ o,h.get? b=some o->h'.get? b=some o)->tn i h'
 item:∀(X:Cx),X.prog=P->X.w=w->X.K=K->X.calm=true->∀(i:Nat) (pins:List (Addr × Obj)) (s:Shared) (σ:St) (H:Hp) (E:Value->Shared->Prop),Inv X pins σ H s->(∀ b∈fp,FpOk X pins H b)->tn i s.heap->J.go i H->
  wpAny (model P w) X.A (pyNext (.ref it)) (fun r s1=>∃ u,r=some u /\
   wpAny (model P w) X.A (letOwnedTupleGo tg (.ref it) u) (fun _ s2=>∃ x H',Inv X pins σ H' s2/\RelV x u/\J.yld i H x H'/\tn (i+1) s2.heap/\∀ b∈fp,H' b=none) E s1) E s
 done:∀(X:Cx),X.prog=P->X.w=w->X.K=K->X.calm=true->∀(i:Nat) (pins:List (Addr × Obj)) (s:Shared) (σ:St) (H:Hp) (E:Value->Shared->Prop),Inv X pins σ H s->(∀ b∈fp,FpOk X pins H b)->tn i s.heap->J.stop i H->
  wpAny (model P w) X.A (pyNext (.ref it)) (fun r s1=>r=none/\Inv X pins σ H s1) E s
 self:∀(A:Around) (i:Nat) (s:Shared) (Q:Value->Shared->Prop) (E:Value->Shared->Prop),tn i s.heap->Q (.ref it) s->wpAny (model P w) A (pyIter (.ref it)) Q E s
abbrev TI:=St->Hp->(It->Hp->Prop)->Prop
def PIE(X:Cx)(pins:List (Addr × Obj))(σ:St)(tg:Expr)(R:It->Hp->Prop)(itv:Value)(s2:Shared):Prop:=
 ∃(it:Addr) (fp:List Addr) (tn:Nat->Heap->Prop) (J:It) (H':Hp),itv=.ref it/\Inv X pins σ H' s2/\Turn X.prog X.w X.K tg J fp it tn/\tn 0 s2.heap/\(∀ b∈fp,FpOk X pins H' b)/\R J H'
def PI(X:Cx)(tg iter:Expr)(wi:TI):Prop:=
 ∀(pins:List (Addr × Obj)) (s:Shared) (σ:St) (H:Hp) (R:It->Hp->Prop),Inv X pins σ H s->wi σ H R->
  wpAny (model X.prog X.w) X.A (eval iter X.env) (fun v s1=>wpAny (model X.prog X.w) X.A (pyIter v) (PIE X pins σ tg R) X.xe s1) X.xe s
theorem zDH{M:Model}{A:Around}{E:Value->Shared->Prop}{s:Shared}{tg:Expr}{it:Addr}{u:Value}{o:Obj}{n:String}{vs:Array Value}{Q:Unit->Shared->Prop}(ho:s.heap.get? it=some o)(hc:o.cls=.type n)(hd:o.data=.fields vs)
  (hn:["enumerate","zip","dict_itemiterator","dict_reverseitemiterator","odict_iterator","itertools.zip_longest","itertools.pairwise"].contains n=false) (hQ:Q () s):wpAny M A (letOwnedTupleGo tg (.ref it) u) Q E s:=by
 unfold letOwnedTupleGo
 cases tg <;> first
  | exact Qb hQ
  | (cases u <;> first
    | exact Qb hQ
    | (refine Qa (wpAny_load ho ?_)
       rw [hc,hd]
       show wpAny M A (if(["enumerate","zip","dict_itemiterator","dict_reverseitemiterator","odict_iterator","itertools.zip_longest","itertools.pairwise"].contains n && vs[0]? == some (rawInt _))=true then _ else _) Q E s
       rw [if_neg (by intro h;rw [hn,Bool.false_and]at h;cases h)]
       exact Qb hQ))
def Itl(K:PySem.W.Frag)(a:Addr):It:=
 ⟨fun i H=>∃ xs x,SqL K H a xs/\xs[i]?=some x,fun i H x H'=>H'=H/\∀ xs,SqL K H a xs->xs[i]?=some x,fun i H=>∃ xs,SqL K H a xs/\xs.length<=i⟩
def Itt(K:PySem.W.Frag)(a:Addr):It:=
 ⟨fun i H=>∃ xs x,SqT K H a xs/\xs[i]?=some x,fun i H x H'=>H'=H/\∀ xs,SqT K H a xs->xs[i]?=some x,fun i H=>∃ xs,SqT K H a xs/\xs.length<=i⟩
def Itr(lo:Int)(n:Nat):It:=⟨fun i _=>i<n,fun i H x H'=>H'=H/\x=.int (lo+i),fun i _=>n<=i⟩
theorem zQi{P:Program}{w:World}{K:PySem.W.Frag}{tg:Expr}(a it:Addr):Turn P w K tg (Itl K a) [it] it (fun i h=>h.IsListIter it a i) where
 mem:=by simp
 obj:=fun i h st b hb=>by
  have e:b=it:=by simpa using hb
  subst e
  obtain⟨o,e,c,d⟩:=st
  exact⟨o,e,fun v z=>by rw [d]at z;cases z⟩
 keep:=fun i h h' st k=>st.at fun o e=>k it (by simp) o e
 item:=by
  intro X hP hw hK hc i pins s σ H E I hf st hg
  subst hP hw hK
  obtain⟨xs,x,hq,hx⟩:=hg
  obtain⟨its,rv,p,hz⟩:=I.list hq
  obtain⟨u,hu,ru⟩:=rv.get hx
  obtain⟨f0,f1,f2,f3,f4,f5⟩:=hf it (by simp)
  refine wpAny_pyNext_list_item st p.isList (x:=u) (by simpa using hu) fun h' st' sb=>?_
  have I1:Inv X pins σ H { s with heap:=h' }:=I.turned (t':=s.toks) (fun b o hb e=>(sb.2 b hb).trans e) f0 f1 f3 f4 f5
  obtain⟨o,e,c,d⟩:=id st'
  exact⟨u,rfl,zDH (s:={ s with heap:=h' }) e c d (by decide) ⟨x,H,I1,ru,⟨rfl,fun ys hy=>by rw [I.list_inj hy hq];exact hx⟩,st',fun b hb=>(hf b hb).1⟩⟩
 done:=by
  intro X hP hw hK hc i pins s σ H E I hf st hg
  subst hP hw hK
  obtain⟨xs,hq,hx⟩:=hg
  obtain⟨its,rv,p,hz⟩:=I.list hq
  obtain⟨f0,f1,f2,f3,f4,f5⟩:=hf it (by simp)
  have hl:=rv.length
  exact wpAny_pyNext_list_end (I.ok.hd hc) st p.isList (by simp;lia) fun h' eb=>⟨rfl,I.turned (t':=s.toks) (fun b o hb e=>eb b o hb e) f0 f1 f3 f4 f5⟩
 self:=fun _ _ _ _ _ st h=>wpAny_pyIter_listiter st h
theorem zQl{P:Program}{w:World}{K:PySem.W.Frag}{tg:Expr}(a it:Addr):Turn P w K tg (Itt K a) [it] it (fun i h=>h.IsTupleIter it a i) where
 mem:=by simp
 obj:=fun i h st b hb=>by
  have e:b=it:=by simpa using hb
  subst e
  obtain⟨o,e,c,d⟩:=st
  exact⟨o,e,fun v z=>by rw [d]at z;cases z⟩
 keep:=fun i h h' st k=>st.at fun o e=>k it (by simp) o e
 item:=by
  intro X hP hw hK hc i pins s σ H E I hf st hg
  subst hP hw hK
  obtain⟨xs,x,hq,hx⟩:=hg
  obtain⟨its,rv,p,hz⟩:=I.tuple hq
  obtain⟨u,hu,ru⟩:=rv.get hx
  obtain⟨f0,f1,f2,f3,f4,f5⟩:=hf it (by simp)
  refine wpAny_pyNext_tuple_item st (show s.heap.IsTuple a its.toArray from p) (x:=u) (by simpa using hu) fun h' st' sb=>?_
  have I1:Inv X pins σ H { s with heap:=h' }:=I.turned (t':=s.toks) (fun b o hb e=>(sb.2 b hb).trans e) f0 f1 f3 f4 f5
  obtain⟨o,e,c,d⟩:=id st'
  exact⟨u,rfl,zDH (s:={ s with heap:=h' }) e c d (by decide) ⟨x,H,I1,ru,⟨rfl,fun ys hy=>by rw [I.tuple_inj hy hq];exact hx⟩,st',fun b hb=>(hf b hb).1⟩⟩
 done:=by
  intro X hP hw hK hc i pins s σ H E I hf st hg
  subst hP hw hK
  obtain⟨xs,hq,hx⟩:=hg
  obtain⟨its,rv,p,hz⟩:=I.tuple hq
  obtain⟨f0,f1,f2,f3,f4,f5⟩:=hf it (by simp)
  have hl:=rv.length
  exact wpAny_pyNext_tuple_end (I.ok.hd hc) st (show s.heap.IsTuple a its.toArray from p) (by simp;lia) fun h' eb=>⟨rfl,I.turned (t':=s.toks) (fun b o hb e=>eb b o hb e) f0 f1 f3 f4 f5⟩
 self:=fun _ _ _ _ _ st h=>wpAny_pyIter_tupleiter st h
theorem zQj{P:Program}{w:World}{K:PySem.W.Frag}{tg:Expr}(it:Addr)(lo:Int)(n:Nat):Turn P w K tg (Itr lo n) [it] it (fun i h=>IsRangeIter h it (lo+(i:Nat) * 1) ((n:Int)-(i:Nat)) 1) where
 mem:=by simp
 obj:=fun i h st b hb=>by
  have e:b=it:=by simpa using hb
  subst e
  exact⟨_,st,fun v z=>by
   have z':Data.fields _=Data.cell v:=z
   cases z'⟩
 keep:=fun i h h' st k=>k it (by simp) _ st
 item:=by
  intro X hP hw hK hc i pins s σ H E I hf st hg
  subst hP hw hK
  obtain⟨f0,f1,f2,f3,f4,f5⟩:=hf it (by simp)
  have W:=Walks.range (prog:=X.prog) (w:=X.w) (I.ok.hd hc) it lo 1 n
  refine W.item i s _ _ hg st fun v h' tk hv st' kk=>?_
  obtain⟨t,rfl⟩:=hv
  have I1:Inv X pins σ H { s with heap:=h',toks:=tk }:=I.turned (fun b o hb e=>kk b o (by simpa using hb) e) f0 f1 f3 f4 f5
  refine⟨_,rfl,zDH (s:={ s with heap:=h',toks:=tk }) (n:="range_iterator") st' rfl rfl (by decide) ⟨.int (lo+i),H,I1,⟨t,?_⟩,⟨rfl,rfl⟩,st',fun b hb=>(hf b hb).1⟩⟩
  rw [Int.mul_one]
 done:=by
  intro X hP hw hK hc i pins s σ H E I hf st hg
  subst hP hw hK
  obtain⟨f0,f1,f2,f3,f4,f5⟩:=hf it (by simp)
  exact wpAny_pyNext_range_end (I.ok.hd hc) st (by have:n<=i:=hg;lia) fun h' eb=>⟨rfl,I.turned (t':=s.toks) (fun b o hb e=>eb b o hb e) f0 f1 f3 f4 f5⟩
 self:=fun _ _ _ _ _ st h=>wpAny_pyIter_rangeiter st h
end L2
namespace L2
open PySem PySem.Spec PyProof.Rows
section
variable {X:Cx}{tg:Expr}
theorem zPr{pins:List (Addr × Obj)}{σ:St}{H:Hp}{s:Shared}{R:It->Hp->Prop}{E:Value->Shared->Prop}{lo hi:Int}{t u v:Tok}{tk:Nat}(I:Inv X pins σ H s)(h1:-(2 ^ 62)<=lo)(h2:lo<2 ^ 62)(h3:-(2 ^ 62)<=hi)(h4:hi<2 ^ 62)
  (q:R (Itr lo (hi-lo).toNat) H):wpAny (model X.prog X.w) X.A (pyIter (.ref s.heap.objs.size)) (PIE X pins σ tg R) E { s with heap:=s.heap.push { cls:=.type "range",data:=.fields #[.int lo t,.int hi u,.int 1 v] },toks:=tk }:=by
 refine wpAny_pyIter_range (IsRange.new ..) (small_one h1 h2 h3 h4) ?_
 have I1:Inv X pins σ H { s with heap:=s.heap.push { cls:=.type "range",data:=.fields #[.int lo t,.int hi u,.int 1 v] },toks:=tk }:=I.kept fun b o e=>Qc _ e
 refine⟨(s.heap.push { cls:=.type "range",data:=.fields #[.int lo t,.int hi u,.int 1 v] }).objs.size,[(s.heap.push { cls:=.type "range",data:=.fields #[.int lo t,.int hi u,.int 1 v] }).objs.size],_,_,H,rfl,
  I1.kept (t':=tk) fun b o e=>Qc _ e,zQj _ lo (hi-lo).toNat,?_,fun b hb=>?_,q⟩
 ·have e1:lo+((0:Nat):Int) * 1=lo:=by simp
  have e2:(((hi-lo).toNat:Nat):Int)-((0:Nat):Int)=Builtin.Range.rangeSize lo hi 1:=by rw [rangeSize_one];split <;> lia
  show IsRangeIter _ _ (lo+((0:Nat):Int) * 1) ((((hi-lo).toNat:Nat):Int)-((0:Nat):Int)) 1
  rw [e1,e2]
  exact Qs _ rfl
 ·have e:b=(s.heap.push { cls:=.type "range",data:=.fields #[.int lo t,.int hi u,.int 1 v] }).objs.size:=by simpa using hb
  subst e
  exact I1.fpOk (Qh _) (I1.hok.fresh (Qh _))
def zBA(ta:TA):TI:=fun σ H R=>ta σ H fun vs H1=>∃ j:Int,vs=[.int j]/\-(2 ^ 62)<=j/\j<2 ^ 62/\R (Itr 0 j.toNat) H1
theorem zOW{a:Expr}{ta:TA}{p pos:Pos}(hg:Gl X "range")(hm:X.mg "range"=none)(ha:PA X [a] ta)(hs:starEach [a] X.env=[(false,eval a X.env)]:=by rfl):PI X tg (.Call (.Name "range" p) [a] [] pos) (zBA ta):=by
 intro pins s σ H R I h
 refine Call_ (zB8 I hg hm boot_range (YE (thn (ha pos pins s σ H _ I h) fun us s1 ⟨vs,H1,I1,r1,q1⟩=>?_) hs rfl))
 obtain⟨j,e,q1,q2,q⟩:=q1
 subst e
 cases r1 with
 | cons r rr=>
  cases rr
  obtain⟨t,rfl⟩:=r
  exact call_range_1 (zPr I1 (by lia) (by lia) q1 q2 (by simpa using q))
def tFor(wi:TI)(g:TG)(tb:TS):TS:=fun D σ H=>wi σ H fun J H1=>∃ W:Nat->Nat->St->Hp->Prop,(∃ m,W 0 m σ H1)/\∀ i m σ H,W i m σ H->
 (J.stop i H/\D.nx σ H) ∨ (J.go i H/\∃ N:St->Hp->Prop,(∀ σ' H',N σ' H'->∃ m',m'<m/\W (i+1) m' σ' H')/\∀ x H',J.yld i H x H'->g x σ H' fun σ2 H2=>tb { D with nx:=N,ct:=N,bk:=D.nx } σ2 H2)
def zDW(fp:List Addr)(h:Heap):List (Addr × Obj):=fp.filterMap fun b=>(h.get? b).map fun o=>(b,o)
theorem zEF{fp:List Addr}{h:Heap}{b:Addr}{o:Obj}(hb:b∈fp)(e:h.get? b=some o):(b,o)∈zDW fp h:=List.mem_filterMap.mpr ⟨b,hb,by rw [e];rfl⟩
theorem zOk{fp:List Addr}{h:Heap}{p:Addr × Obj}(hp:p∈zDW fp h):p.1∈fp/\h.get? p.1=some p.2:=by
 obtain⟨b,hb,e⟩:=List.mem_filterMap.mp hp
 cases q:h.get? b with
 | none=>rw [q]at e;cases e
 | some o=>
  rw [q]at e
  have e':(b,o)=p:=QF e
  subst e'
  exact⟨hb,q⟩
theorem Inv.pinned{pins:List (Addr × Obj)}{σ:St}{H:Hp}{s:Shared}{fp:List Addr}(I:Inv X pins σ H s)(hf:∀ b∈fp,FpOk X pins H b)(ho:∀ b∈fp,∃ o,s.heap.get? b=some o/\∀ v,o.data≠.cell v):Inv X (pins++zDW fp s.heap) σ H s:=
 I.pins_of fun p hp=>(QC.mp hp).elim (fun z=>I.pin p (Qx _ z)) fun z=>by
  obtain⟨hb,e⟩:=zOk z
  obtain⟨f0,f1,f2,_⟩:=hf p.1 hb
  obtain⟨o,e',d⟩:=ho p.1 hb
  rw [e]at e';cases e'
  exact⟨e,f0,f1,f2,d⟩
theorem Inv.unpinned{pins pl:List (Addr × Obj)}{σ:St}{H:Hp}{s:Shared}(I:Inv X (pins++pl) σ H s):Inv X pins σ H s:=I.pins_of fun p hp=>I.pin p (Qx _ (QO _ hp))
theorem zO7{iter:Expr}{body:List Stmt}{wi:TI}{g:TG}{tb:TS}{pos:Pos}(hp:PassesOwn (model X.prog X.w) X.A X.env X.xe)(hc:X.calm=true)(hi:PI X tg iter wi)(hg:PG X tg g)(hb:PSs X body tb)
  (hs:∀ x,foldedSetIterable iter X.env x=pure x:=by intro _;rfl):PS X (.For tg iter body [] pos) (tFor wi g tb):=by
 intro pins s σ H D I h
 refine wpAny_For (thn (hi pins s σ H _ I h) fun v s1 h1=>thn h1 fun itv s2 h2=>?_) hs
 obtain⟨it,fp,tn,J,H2,e,I2,T,st2,f2,W,⟨m0,w0⟩,turn⟩:=h2
 subst e
 have stat:∀{H':Hp},(∀ b∈fp,H' b=none)->∀ b∈fp,FpOk X pins H' b:=fun hn b hb=>⟨hn b hb,(f2 b hb).2⟩
 refine codeAny_forLoop_any (fun n s'=>∃ i σ' H',Inv X pins σ' H' s'/\tn i s'.heap/\(∀ b∈fp,H' b=none)/\W i n σ' H') ?_ m0 ⟨0,σ,H2,I2,st2,fun b hb=>(f2 b hb).1,w0⟩
 rintro n s3 ⟨i,σ3,H3,I3,st3,fr3,w3⟩
 rcases turn i n σ3 H3 w3 with⟨stop,qn⟩ | ⟨go,N,hN,step⟩
 ·refine Y8 hp (thn (T.done X rfl rfl rfl hc i pins s3 σ3 H3 X.xe I3 (stat fr3) st3 stop) fun r s4 zz=>?_)
  obtain⟨hr,I4⟩:=zz
  subst hr
  exact wpAny_execs_nil ⟨σ3,H3,I4,qn⟩
 ·refine Y8 hp (thn (T.item X rfl rfl rfl hc i pins s3 σ3 H3 X.xe I3 (stat fr3) st3 go) fun r s4 zz=>?_)
  obtain⟨u,hr,h4⟩:=zz
  subst hr
  refine Y8 hp (thn h4 fun _ s5 zz=>?_)
  obtain⟨x,H5,I5,r5,y5,st5,fr5⟩:=zz
  have I5':=I5.pinned (stat fr5) (T.obj _ _ st5)
  refine Y8 hp (thn (hg _ s5 σ3 H5 x u _ I5' r5 (step x H5 y5)) fun _ s6 zz=>?_)
  obtain⟨σ6,H6,I6,q6⟩:=zz
  refine Y8 hp (thn (hb _ s6 σ6 H6 _ I6 q6) fun f s7 q7=>?_)
  have again:∀{σ7:St}{H7:Hp},Inv X (pins++zDW fp s5.heap) σ7 H7 s7->N σ7 H7->∃ m,m<n/\∃ i σ' H',Inv X pins σ' H' s7/\tn i s7.heap/\(∀ b∈fp,H' b=none)/\W i m σ' H':=fun{σ7 H7} I7 n7=>by
   obtain⟨m',hm,w7⟩:=hN σ7 H7 n7
   refine⟨m',hm,i+1,σ7,H7,I7.unpinned,T.keep _ _ _ st5 fun b hb o e=>(I7.pin (b,o) (Qx _ (Qx _ (zEF hb e)))).1,fun b hb=>?_,w7⟩
   obtain⟨o,e,d⟩:=T.obj _ _ st5 b hb
   exact(I7.pin (b,o) (Qx _ (Qx _ (zEF hb e)))).2.1
  cases f with
  | next=>obtain⟨σ7,H7,I7,n7⟩:=q7;exact again I7 n7
  | cont=>obtain⟨σ7,H7,I7,n7⟩:=q7;exact again I7 n7
  | brk=>obtain⟨σ7,H7,I7,q7⟩:=q7;exact⟨σ7,H7,I7.unpinned,q7⟩
  | ret v=>obtain⟨x7,σ7,H7,I7,r7,q7⟩:=q7;exact⟨x7,σ7,H7,I7.unpinned,r7,q7⟩
end
end L2
namespace L2
open PySem PySem.Spec PyProof.Rows
abbrev R2:=V->V->Hp->VK->Prop
def OpR(X:Cx)(f:Value->Value->Sem Value)(r:R2):Prop:=
 ∀(pins:List (Addr × Obj)) (s:Shared) (σ:St) (H:Hp) (x y:V) (v u:Value) (Q:VK),Inv X pins σ H s->RelV x v->RelV y u->r x y H Q->
  wpAny (model X.prog X.w) X.A (f v u) (EP X pins σ Q) X.xe s
def UnR(X:Cx)(f:Value->Sem Value)(r:V->Hp->VK->Prop):Prop:=
 ∀(pins:List (Addr × Obj)) (s:Shared) (σ:St) (H:Hp) (x:V) (v:Value) (Q:VK),Inv X pins σ H s->RelV x v->r x H Q->
  wpAny (model X.prog X.w) X.A (f v) (EP X pins σ Q) X.xe s
def zAF(X:Cx)(f:Value)(r:List V->Hp->VK->Prop):Prop:=
 ∀(pins:List (Addr × Obj)) (s:Shared) (σ:St) (H:Hp) (xs:List V) (us:List Value) (Q:VK),Inv X pins σ H s->Vals xs us->r xs H Q->
  wpAny (model X.prog X.w) X.A (call f us) (EP X pins σ Q) X.xe s
def tOp(r:R2)(ta tb:TE):TE:=fun σ H Q=>ta σ H fun x H1=>tb σ H1 fun y H2=>r x y H2 Q
def tUn(r:V->Hp->VK->Prop)(ta:TE):TE:=fun σ H Q=>ta σ H fun x H1=>r x H1 Q
def rI(C:Int->Int->Prop)(g:Int->Int->V):R2:=fun x y H Q=>∃ i j,x=.int i/\y=.int j/\C i j/\Q (g i j) H
def rI0(g:Int->Int->V):R2:=fun x y H Q=>∃ i j,x=.int i/\y=.int j/\Q (g i j) H
def rU(g:Int->V):V->Hp->VK->Prop:=fun x H Q=>∃ i,x=.int i/\Q (g i) H
section
variable {X:Cx}{a b c:Expr}{ta tb tc:TE}{pos:Pos}
theorem binT(ha:PE X a ta)(hb:PE X b tb){pins:List (Addr × Obj)}{s:Shared}{σ:St}{H:Hp}{R:V->V->Hp->Prop}(I:Inv X pins σ H s)
  (h:ta σ H fun x H1=>tb σ H1 fun y H2=>R x y H2) {Q:Value->Shared->Prop}{f:Value->Value->Sem Value}
  (hf:∀ v u s2 x y H2,Inv X pins σ H2 s2->RelV x v->RelV y u->R x y H2->wpAny (model X.prog X.w) X.A (f v u) Q X.xe s2):
  wpAny (model X.prog X.w) X.A (eval a X.env) (fun v s₁=>wpAny (model X.prog X.w) X.A (eval b X.env) (fun u s₂=>wpAny (model X.prog X.w) X.A (f v u) Q X.xe s₂) X.xe s₁) X.xe s:=by
 refine thn (ha pins s σ H _ I h) fun v s1 zz=>?_
 obtain⟨x,H1,I1,r1,q1⟩:=zz
 refine thn (hb pins s1 σ H1 _ I1 q1) fun u s2 zz=>?_
 obtain⟨y,H2,I2,r2,q2⟩:=zz
 exact hf v u s2 x y H2 I2 r1 r2 q2
theorem pe_op{op:Operator}{r:R2}(ho:OpR X (binaryOp op) r)(ha:PE X a ta)(hb:PE X b tb):PE X (.BinOp a op b pos) (tOp r ta tb):=by
 intro pins s σ H Q I h
 exact wpAny_BinOp (binT ha hb I h fun v u s2 x y H2 I2 rx ry q=>ho pins s2 σ H2 x y v u Q I2 rx ry q)
theorem pe_un{op:UnaryOp}{r:V->Hp->VK->Prop}(ho:UnR X (unaryOp op) r)(ha:PE X a ta):PE X (.UnaryOp op a pos) (tUn r ta):=by
 intro pins s σ H Q I h
 exact UnaryOp_ (thn (ha pins s σ H _ I h) fun v s1 ⟨x,H1,I1,r1,q1⟩=>ho pins s1 σ H1 x v Q I1 r1 q1)
theorem opI{f:Value->Value->Sem Value}{C:Int->Int->Prop}{g:Int->Int->Int}
  (rule:∀(i j:Int) (t u:Tok) (s:Shared) (Q:Value->Shared->Prop) (E:Value->Shared->Prop),C i j->Q (.int (g i j) s.toks) { s with toks:=s.toks+1 }->wpAny (model X.prog X.w) X.A (f (.int i t) (.int j u)) Q E s):
  OpR X f (rI C fun i j=>.int (g i j)):=by
 intro pins s σ H x y v u Q I rx ry h
 obtain⟨i,j,rfl,rfl,hc,q⟩:=h
 obtain⟨t,rfl⟩:=rx
 obtain⟨t',rfl⟩:=ry
 exact rule i j t t' s _ _ hc ⟨.int (g i j),H,I.tok _,⟨_,rfl⟩,q⟩
theorem opI0{f:Value->Value->Sem Value}{g:Int->Int->Int}
  (rule:∀(i j:Int) (t u:Tok) (s:Shared) (Q:Value->Shared->Prop) (E:Value->Shared->Prop),Q (.int (g i j) s.toks) { s with toks:=s.toks+1 }->wpAny (model X.prog X.w) X.A (f (.int i t) (.int j u)) Q E s):
  OpR X f (rI0 fun i j=>.int (g i j)):=by
 intro pins s σ H x y v u Q I rx ry h
 obtain⟨i,j,rfl,rfl,q⟩:=h
 obtain⟨t,rfl⟩:=rx
 obtain⟨t',rfl⟩:=ry
 exact rule i j t t' s _ _ ⟨.int (g i j),H,I.tok _,⟨_,rfl⟩,q⟩
theorem opB0{f:Value->Value->Sem Value}{g:Int->Int->Bool}
  (rule:∀(i j:Int) (t u:Tok) (s:Shared) (Q:Value->Shared->Prop) (E:Value->Shared->Prop),Q (.bool (g i j)) s->wpAny (model X.prog X.w) X.A (f (.int i t) (.int j u)) Q E s):
  OpR X f (rI0 fun i j=>.bl (g i j)):=by
 intro pins s σ H x y v u Q I rx ry h
 obtain⟨i,j,rfl,rfl,q⟩:=h
 obtain⟨t,rfl⟩:=rx
 obtain⟨t',rfl⟩:=ry
 exact rule i j t t' s _ _ ⟨.bl (g i j),H,I,rfl,q⟩
def CDiv(i j:Int):Prop:=0<j/\j<1073741824
def CPow(i j:Int):Prop:=0<=j/\j<=1000000/\i.natAbs<2 ^ 64
def CMul(i j:Int):Prop:=(-(2 ^ 64)<i/\i<2 ^ 64) ∨ (-(2 ^ 64)<j/\j<2 ^ 64)
theorem CMul.ok{i j:Int}(h:CMul i j):IntMulOk i j:=by
 rcases h with⟨h1,h2⟩ | ⟨h1,h2⟩
 ·exact .of_left (intBits_le_64 h1 h2)
 ·exact .of_right (intBits_le_64 h1 h2)
theorem zOl:OpR X (binaryOp .Add) (rI0 fun i j=>.int (i+j)):=opI0 fun _ _ _ _ _ _ _ q=>add_int q
theorem zOs:OpR X (binaryOp .Sub) (rI0 fun i j=>.int (i-j)):=opI0 fun _ _ _ _ _ _ _ q=>sub_int q
theorem zOq:OpR X (binaryOp .Mult) (rI CMul fun i j=>.int (i * j)):=opI fun _ _ _ _ _ _ _ hc q=>mul_int q hc.ok
theorem zOn:OpR X (binaryOp .FloorDiv) (rI CDiv fun i j=>.int (i / j)):=opI fun i j _ _ _ _ _ hc q=>by
 have h1:(0:Int)<j:=hc.1
 have h2:j<1073741824:=hc.2
 exact floordiv_int (by lia) (by rw [Int.fdiv_eq_ediv_of_nonneg i (by lia)];exact q) (.inl (PyProof.noPylong_small (by lia)))
theorem zOp:OpR X (binaryOp .Mod) (rI (fun _ j=>0<j) fun i j=>.int (i % j)):=opI fun i j _ _ _ _ _ hc q=>by
 have h1:(0:Int)<j:=hc
 exact mod_int' (by lia) (by rw [Int.fmod_eq_emod_of_nonneg i (by lia)];exact q)
theorem zOr:OpR X (binaryOp .Pow) (rI CPow fun i j=>.int (i ^ j.toNat)):=opI fun _ _ _ _ _ _ _ hc q=>pow_int_small hc.1 hc.2.1 hc.2.2 q
theorem unI{f:Value->Sem Value}{g:Int->Int}
  (rule:∀(i:Int) (t:Tok) (s:Shared) (Q:Value->Shared->Prop) (E:Value->Shared->Prop),Q (.int (g i) s.toks) { s with toks:=s.toks+1 }->wpAny (model X.prog X.w) X.A (f (.int i t)) Q E s):
  UnR X f (rU fun i=>.int (g i)):=by
 intro pins s σ H x v Q I rx h
 obtain⟨i,rfl,q⟩:=h
 obtain⟨t,rfl⟩:=rx
 exact rule i t s _ _ ⟨.int (g i),H,I.tok _,⟨_,rfl⟩,q⟩
theorem zQq:UnR X (unaryOp .USub) (rU fun i=>.int (-i)):=unI fun _ _ _ _ _ q=>neg_int q
end
section
variable {X:Cx}{a b c:Expr}{ta tb tc:TE}{pos:Pos}
theorem op_lt:OpR X (compareOp .Lt) (rI0 fun i j=>.bl (decide (i<j))):=opB0 fun _ _ _ _ _ _ _ q=>lt_int q
theorem op_le:OpR X (compareOp .LtE) (rI0 fun i j=>.bl (decide (i<=j))):=opB0 fun _ _ _ _ _ _ _ q=>le_int q
theorem op_gt:OpR X (compareOp .Gt) (rI0 fun i j=>.bl (decide (j<i))):=opB0 fun _ _ _ _ _ _ _ q=>gt_int q
theorem OpR.or{f:Value->Value->Sem Value}{r r':R2}(h:OpR X f r)(h':OpR X f r'):OpR X f (fun x y H Q=>r x y H Q ∨ r' x y H Q):=by
 intro pins s σ H x y v u Q I rx ry q
 rcases q with q | q
 ·exact h pins s σ H x y v u Q I rx ry q
 ·exact h' pins s σ H x y v u Q I rx ry q
theorem zAD(b:Expr){op:CmpOp}(h:op≠.In:=by decide)(h2:op≠.NotIn:=by decide):behindInMarks op b=false:=by
 have e1:(op == CmpOp.In)=false:=by cases op <;> first | rfl | exact absurd rfl h
 have e2:(op == CmpOp.NotIn)=false:=by cases op <;> first | rfl | exact absurd rfl h2
 cases b <;> simp [behindInMarks,e1,e2]
theorem zOG{op:CmpOp}{r:R2}(ho:OpR X (compareOp op) r)(ha:PE X a ta)(hb:PE X b tb)(hm:behindInMarks op b=false):PE X (.Compare a [op] [b] pos) (tOp r ta tb):=by
 intro pins s σ H Q I h
 exact wpAny_Compare1 (binT ha hb I h fun v u s2 x y H2 I2 rx ry q=>ho pins s2 σ H2 x y v u Q I2 rx ry q) hm
def zKO(t:TE):TT:=fun σ H Q=>t σ H fun x H'=>∃ k,x=.bl k/\Q k H'
theorem zPd{op:CmpOp}{r:R2}(ho:OpR X (compareOp op) r)(ha:PE X a ta)(hb:PE X b tb)(hm:behindInMarks op b=false):PT X (.Compare a [op] [b] pos) (zKO (tOp r ta tb)):=by
 intro pins s σ H Q I h
 refine wpAny_isTrue_Compare1 (thn (ha pins s σ H _ I h) fun v s1 ⟨x,H1,I1,r1,q1⟩=>thn (hb pins s1 σ H1 _ I1 q1) fun u s2 ⟨y,H2,I2,r2,q2⟩=>
  thn (ho pins s2 σ H2 x y v u _ I2 r1 r2 q2) fun c s3 ⟨z,H3,I3,r3,k,e,q3⟩=>?_) hm
 subst e
 cases r3
 exact Ja ⟨H3,I3,q3⟩
def zKN(r r':R2)(ta tb tc:TE):TE:=fun σ H Q=>ta σ H fun x H1=>tb σ H1 fun y H2=>r x y H2 fun z H3=>∃ k,z=.bl k /\
 (if k=true then tc σ H3 fun w' H4=>r' y w' H4 Q else Q (.bl false) H3)
theorem zOF{op op':CmpOp}{r r':R2}(ho:OpR X (compareOp op) r)(ho':OpR X (compareOp op') r')(ha:PE X a ta)(hb:PE X b tb)(hc:PE X c tc)
  (hm:lastMarks [op,op'] [b,c]=false:=by with_unfolding_all rfl):PE X (.Compare a [op,op'] [b,c] pos) (zKN r r' ta tb tc):=by
 intro pins s σ H Q I h
 refine Compare_chain (thn (ha pins s σ H _ I h) fun v s1 ⟨x,H1,I1,r1,q1⟩=>chain_link (thn (hb pins s1 σ H1 _ I1 q1) fun u s2 ⟨y,H2,I2,r2,q2⟩=>
  thn (ho pins s2 σ H2 x y v u _ I2 r1 r2 q2) fun d s3 ⟨z,H3,I3,r3,k,e,q3⟩=>?_)) hm
 subst e
 cases r3
 refine Ja ?_
 cases k with
 | false=>exact ite_ff ⟨.bl false,H3,I3,rfl,q3⟩
 | true=>exact ite_tt (chain_last (thn (hc pins s3 σ H3 _ I3 q3) fun w' s4 ⟨z',H4,I4,r4,q4⟩=>ho' pins s4 σ H4 y z' u w' Q I4 r2 r4 q4))
theorem zGl:(sizeLine:Nat)<2 ^ 63:=by rw [Yq];decide
theorem zBw{x:V}{us:List Value}(r:Vals [x] us):∃ u,us=[u]/\RelV x u:=by
 cases r with
 | cons r1 r2=>cases r2;exact⟨_,rfl,r1⟩
theorem zK2{x y:V}{us:List Value}(r:Vals [x,y] us):∃ u w',us=[u,w']/\RelV x u/\RelV y w':=by
 cases r with
 | cons r1 r2=>
  cases r2 with
  | cons r3 r4=>cases r4;exact⟨_,_,rfl,r1,r3⟩
theorem zLq:zAF X (.builtin "abs") (fun xs H Q=>∃ i,xs=[.int i]/\Q (.int (if i<0 then -i else i)) H):=by
 intro pins s σ H xs us Q I r h
 obtain⟨i,rfl,q⟩:=h
 obtain⟨u,rfl,t,rfl⟩:=zBw r
 exact call_abs_int fun u tk=>⟨.int (if i<0 then -i else i),H,I.tok _,⟨_,rfl⟩,q⟩
theorem zLx(hc:X.calm=true):zAF X (.builtin "min") (fun xs H Q=>∃ i j,xs=[.int i,.int j]/\Q (.int (if j<i then j else i)) H):=by
 intro pins s σ H xs us Q I r h
 obtain⟨i,j,rfl,q⟩:=h
 obtain⟨u,w',rfl,⟨t,rfl⟩,⟨t',rfl⟩⟩:=zK2 r
 refine min_two_ints (I.ok.hd hc) fun h' tk k=>⟨_,H,I.kept k,?_,q⟩
 by_cases hj:j<i
 ·rw [if_pos hj,if_pos hj];exact⟨_,rfl⟩
 ·rw [if_neg hj,if_neg hj];exact⟨_,rfl⟩
end
end L2
namespace L2
open PySem PySem.Spec PyProof.Rows
section
variable {prog:Program}{w:World}{A:Around}{E:Value->Shared->Prop}{s:Shared}{K:PySem.W.Frag}{x dx C f:Addr}{mA:Str->Option Value}{name:Str}{v:Value}
end
section
variable {P:Program}{w:World}{H H':Hp}{h h':Heap}{a C dx:Addr}{fs fs':List (Str × V)}
end
section
variable {X:Cx}{pins:List (Addr × Obj)}{σ:St}{H:Hp}{s:Shared}{a C dx:Addr}{fs:List (Str × V)}{f:Str}{v:V}{A:Around}{E:Value->Shared->Prop}
end
section
variable {X:Cx}{o e value:Expr}{f:Str}{pos pos' tpos:Pos}{ta tv:TE}
end
section
variable {X:Cx}{pins:List (Addr × Obj)}{σ:St}{H:Hp}{s:Shared}{A:Around}{E:Value->Shared->Prop}{Q:Value->Shared->Prop}{c:Value}{b:Bool}
end
end L2
namespace L2
open PySem PySem.Spec PyProof.Rows
structure Room(k:Nat)(A:Around):Prop where
 hd:A.handled=none
 dp:A.depth+3 * k+5<recursionLimit
 un:A.units+16 * k+200<cLine
 gd:A.guards=some []
theorem Room.mono{j k:Nat}{A:Around}(r:Room k A)(h:j<=k):Room j A:=⟨r.hd,by have:=r.dp;lia,by have:=r.un;lia,r.gd⟩
theorem Room.deeper{k:Nat}{A:Around}(r:Room (k+1) A)(env:Env):Room k (A.deeper env):=
 ⟨r.hd,by have:=r.dp;show A.depth+1+3 * k+5<_;lia,by have:=r.un;show A.units+3+16 * k+200<_;lia,r.gd⟩
theorem Room.depth{k:Nat}{A:Around}(r:Room k A):A.depth<recursionLimit:=by have:=r.dp;lia
def tNil:TA:=fun _ H Q=>Q [] H
def tCons(ta:TE)(tr:TA):TA:=fun σ H Q=>ta σ H fun x H1=>tr σ H1 fun xs H2=>Q (x::xs) H2
section
variable {X:Cx}{e:Expr}{es:List Expr}{te:TE}{t:TA}{pos:Pos}
theorem zEL:PA X [] tNil:=fun _ _ _ _ H Q I h=>Calls.spliced_nil ⟨[],H,I,.nil,h⟩
theorem zDU(ha:PE X e te)(hr:PA X es t)(hs:starEach (e::es) X.env=(false,eval e X.env)::starEach es X.env:=by rfl):PA X (e::es) (tCons te t):=by
 intro pos pins s σ H Q I h
 rw [hs]
 show wpAny _ _ (spliced ((false,eval e X.env)::backTo pos (starEach es X.env))) _ _ s
 refine Calls.spliced_cons (thn (ha pins s σ H _ I h) fun u s1 zz=>?_)
 obtain⟨x,H1,I1,r1,q1⟩:=zz
 exact thn (hr pos pins s1 σ H1 _ I1 q1) fun us s2 ⟨xs,H2,I2,r2,q2⟩=>⟨x::xs,H2,I2,.cons r1 r2,q2⟩
def tTup(t:TA):TE:=fun σ H Q=>t σ H fun xs H1=>xs.length<=sizeLine/\∀ p,H1 p=none->Q (.ref p) (upd H1 p (.tup xs))
def tLst(t:TA):TE:=fun σ H Q=>t σ H fun xs H1=>xs.length<=sizeLine/\∀ p,H1 p=none->Q (.ref p) (upd H1 p (.lst xs))
theorem zOP{x1}(h:PA X es t):PE X (.Tuple es x1 pos) (tTup t):=by
 intro pins s σ H Q I hq
 refine wpAny_Tuple_spliced (thn (h pos pins s σ H _ I hq) fun us s1 ⟨xs,H1,I1,r,z,q⟩=>⟨by rw [<- r.length];exact z,?_⟩)
 have hf:H1 s1.heap.objs.size=none:=I1.hok.fresh (Qh _)
 refine⟨.ref s1.heap.objs.size,upd H1 s1.heap.objs.size (.tup xs),I1.laid (t':=s1.toks) (fun b u e=>Qc _ e) (Qh _) ?_,rfl,q _ hf⟩
 exact⟨z,us,r,⟨_,Qs _ rfl,rfl,_,rfl⟩⟩
theorem zJU(h:PA X es t):PE X (.List es pos) (tLst t):=by
 intro pins s σ H Q I hq
 refine wpAny_List_spliced (thn (h pos pins s σ H _ I hq) fun us s1 ⟨xs,H1,I1,r,z,q⟩=>⟨by rw [<- r.length];exact z,?_⟩)
 have hf:H1 s1.heap.objs.size=none:=I1.hok.fresh (Qh _)
 refine⟨.ref s1.heap.objs.size,upd H1 s1.heap.objs.size (.lst xs),I1.laid (t':=s1.toks) (fun b u e=>Qc _ e) (Qh _) ?_,rfl,q _ hf⟩
 exact⟨z,us,0,r,Qs _ rfl⟩
end
abbrev Sp:=List V->Hp->VK->XK->Prop
abbrev CXT:=List Env->Hp->Shared->XK->Value->Shared->Prop
structure Env0(P:Program)(w:World)(K:PySem.W.Frag)(mg:Str->Option Value)(base:Heap)(A:Around)(outer:List Env)(s:Shared)(H:Hp):Prop where
 frames:A.frames=some outer
 mod:Mod K mg base
 bs:∀ b o,base.get? b=some o->s.heap.get? b=some o/\H b=none
 bsz:base.objs.size<=s.heap.objs.size
 funs:s.heap.FunFrames base outer
 frf:∀ b∈frs outer,H b=none
 hok:HOk P w H s.heap
 bare:AllBare s.gens
def CE(outer:List Env)(P:Program)(w:World)(H:Hp)(s:Shared)(Q:VK)(u:Value)(s':Shared):Prop:=
 ∃ v H',s'.os=s.os/\AllBare s'.gens/\Un (frs outer) [] H H' s.heap s'.heap/\HOk P w H' s'.heap/\RelV v u/\Q v H'
def CR(CX:CXT)(outer:List Env)(P:Program)(w:World)(H:Hp)(s:Shared)(Q:VK)(E:XK)(r:Result)(s':Shared):Prop:=
 match r with
 | .ok (.ret u)=>CE outer P w H s Q u s'
 | .ok _=>False
 | .error e=>CX outer H s E e s'
structure FnOk(P:Program)(w:World)(K:PySem.W.Frag)(mg:Str->Option Value)(base:Heap)(CX:CXT)(k:Nat)(f:Addr)(fd:FuncData)(ps:List Str)(sp:Sp):Prop where
 len:∀ vs H Q E,sp vs H Q E->vs.length=ps.length
 run:∀(A:Around) (outer:List Env) (s:Shared) (H:Hp) (args:Args) (us:List Value) (vs:List V) (Q:VK) (E:XK),Room k A->Env0 P w K mg base A outer s H->BindsTo s fd args (ps.zip us)->Vals vs us->sp vs H Q E->
  codeAny (model P w) A (.call (.ref f) args) (CR CX outer P w H s Q E) s
theorem FnOk.imp{P:Program}{w:World}{K:PySem.W.Frag}{mg:Str->Option Value}{base:Heap}{CX:CXT}{k:Nat}{f:Addr}{fd:FuncData}{ps:List Str}{sp sp':Sp}(F:FnOk P w K mg base CX k f fd ps sp)
  (h:∀ vs H Q E,sp' vs H Q E->sp vs H Q E):FnOk P w K mg base CX k f fd ps sp':=
 ⟨fun vs H Q E q=>F.len vs H Q E (h _ _ _ _ q),fun A outer s H args us vs Q E hr he hb hv hs=>F.run A outer s H args us vs Q E hr he hb hv (h _ _ _ _ hs)⟩
section
variable {X:Cx}{pins:List (Addr × Obj)}{σ:St}{H:Hp}{s s':Shared}
theorem Inv.env0(I:Inv X pins σ H s):Env0 X.prog X.w X.K X.mg X.base X.A X.stack s H:=
 ⟨I.ok.frames,I.ok.mod,I.bs,Ql I.ok.bsz I.sz,I.stack,I.stkFree,I.hok,I.bare⟩
theorem Inv.after{Q:VK}{u:Value}(I:Inv X pins σ H s)(h:CE X.stack X.prog X.w H s Q u s'):EP X pins σ Q u s':=by
 obtain⟨v,H',os,bare,un,hok,r,q⟩:=h
 obtain⟨hh,g,d,t,os'⟩:=s'
 obtain rfl:os'=s.os:=os
 exact⟨v,H',I.call (h':=hh) (g':=g) (d':=d) (t':=t) (ch:=[]) un hok bare (fun b z=>absurd z (by simp)),r,q⟩
end
def tCall(sp:Sp)(dvs:List V)(E:XK)(t:TA):TE:=fun σ H Q=>t σ H fun vs H1=>sp (vs++dvs) H1 Q E
def Binds(K:PySem.W.Frag)(fd:FuncData)(ps:List Str)(ds:List Value):Prop:=
 ∀(s:Shared) (us:List Value),K.In s.heap->(us++ds).length=ps.length->BindsTo s fd ⟨us,[]⟩ (ps.zip (us++ds))
theorem Binds.all{K:PySem.W.Frag}{fd:FuncData}{ps:List Str}(h:∀ us:List Value,us.length=ps.length->bindArgs fd ⟨us,[]⟩=pure (ps.zip us)):Binds K fd ps []:=fun s us _ hl=>by
 rw [Yk]at hl ⊢
 exact .of_eq (h us hl)
def zFi(CX:CXT)(X:Cx)(E:XK):Prop:=∀(pins:List (Addr × Obj)) (σ:St) (H:Hp) (s:Shared) (e:Value) (s':Shared),Inv X pins σ H s->CX X.stack H s E e s'->X.xe e s'
section
variable {X:Cx}{CX:CXT}{k:Nat}{f C:Addr}{fd:FuncData}{ps:List Str}{sp:Sp}{dvs:List V}{ds:List Value}{E:XK}{x m:Str}{p pos apos:Pos}{e o:Expr}{es:List Expr}{ta:TE}{t:TA}
theorem zPF{pins:List (Addr × Obj)}{σ:St}{H:Hp}{s:Shared}{Q:VK}{us:List Value}{vs:List V}(F:FnOk X.prog X.w X.K X.mg X.base CX k f fd ps sp)(hr:Room k X.A)(hb:Binds X.K fd ps ds)(hd:Vals dvs ds)(hx:zFi CX X E)
  (I:Inv X pins σ H s) (r:Vals vs us) (h:sp (vs++dvs) H Q E):wpAny (model X.prog X.w) X.A (call (.ref f) us) (EP X pins σ Q) X.xe s:=by
 have r2:Vals (vs++dvs) (us++ds):=r.append hd
 have hl:(us++ds).length=ps.length:=by rw [<- r2.length];exact F.len _ _ _ _ h
 refine wpAny_call (Jy (F.run X.A X.stack s H ⟨us,[]⟩ (us++ds) (vs++dvs) Q E hr I.env0 (hb s us I.kIn hl) r2 h) fun r s' hq=>?_)
 cases r with
 | error e=>exact hx pins σ H s e s' I hq
 | ok fl=>
  cases fl with
  | ret u=>exact I.after hq
  | next=>exact False.elim hq
  | brk=>exact False.elim hq
  | cont=>exact False.elim hq
theorem zOD(F:FnOk X.prog X.w X.K X.mg X.base CX k f fd ps sp)(hr:Room k X.A)(hg:Gl X x)(hm:X.mg x=some (.ref f))(hk:PySem.W.keepIn X.K (.ref f)=true)(hb:Binds X.K fd ps ds)(hd:Vals dvs ds)(hx:zFi CX X E)
  (ha:PA X (e::es) t) (hdb:(x == ("__debug__":Str))=false:=by decide) (he:starEach (e::es) X.env=(false,eval e X.env)::starEach es X.env:=by rfl) (hpl:(backTo pos (starEach es X.env)).any (·.1)=false:=by rfl):
  PE X (.Call (.Name x p) (e::es) [] pos) (tCall sp dvs E t):=by
 intro pins s σ H Q I h
 refine Jm (zI8 I hg hm ?_ hdb)
 refine PySem.W.callWith_K (h₀:=X.base) I.ok.mod.kin hk (thn (ha pos pins s σ H _ I h) fun us s1 ⟨vs,H1,I1,r,q⟩=>⟨I1.kIn,?_⟩) he hpl
 exact zPF F hr hb hd hx I1 r q
end
section
variable {X:Cx}{CX:CXT}{k:Nat}{f C:Addr}{fd:FuncData}{ps ks:List Str}{sp:Sp}{E:XK}{x m:Str}{p pos apos kpos:Pos}{e o:Expr}{es:List Expr}{kws:List Keyword}{te ta:TE}{t tk:TA}{nm:Option Str}
variable {g:List Value->List Value->List Value}{gV:List V->List V->List V}
end
structure zAp(N P:List Str)(sc:Scope):Prop where
 kind:sc.kind=.function
 co:sc.isCoroutine=false
 gen:sc.isGenerator=false
 nd:N.Nodup
 pre:N.take P.length=P
 par:∀ x∈P,sc.names.lookup x=some .local ∨ sc.names.lookup x=some .cell
 nofree:∀ y∈sc.names,y.2≠.free
theorem zHw{kindOf:Str->Option NameKind}{x:Str}:∀{binds:List (Str × Value)}{m:Str->Option Value},(∀ v,(x,v)∉binds)->bindL kindOf binds m x=m x
 | [],_,_=>rfl
 | (n,v)::r,m,h=>by
  unfold bindL
  rw [zHw fun w hw=>h w (Qd _ hw)]
  split
  ·have:x≠n:=by rintro rfl;exact h v Qe
   simp [this]
  ·rfl
theorem zHu{kindOf:Str->Option NameKind}{x:Str}:∀{binds:List (Str × Value)}{m:Str->Option Value},(∀ v,(x,v)∉binds)->bindC kindOf binds m x=m x
 | [],_,_=>rfl
 | (n,v)::r,m,h=>by
  unfold bindC
  rw [zHu fun w hw=>h w (Qd _ hw)]
  split
  ·rfl
  ·have:x≠n:=by rintro rfl;exact h v Qe
   simp [this]
theorem zHv{kindOf:Str->Option NameKind}{x:Str}{v:Value}:∀{P:List Str}{vs:List Value}{i:Nat}{m:Str->Option Value},P.Nodup->P[i]?=some x->vs[i]?=some v->kindOf x=some .local->
  bindL kindOf (P.zip vs) m x=some v
 | [],_,_,_,_,h,_,_=>by simp at h
 | _::_,[],_,_,_,_,h,_=>by simp at h
 | p::P,w::vs,0,m,nd,h1,h2,hk=>by
  simp at h1 h2;subst h1;subst h2
  show bindL kindOf ((p,w)::P.zip vs) m p=_
  unfold bindL
  rw [zHw fun v hv=>(Yl.mp nd).1 (List.of_mem_zip hv).1,if_pos hk]
  simp
 | p::P,w::vs,i+1,m,nd,h1,h2,hk=>by
  show bindL kindOf ((p,w)::P.zip vs) m x=_
  unfold bindL
  exact zHv (i:=i) (Yl.mp nd).2 (by simpa using h1) (by simpa using h2) hk
theorem zHt{kindOf:Str->Option NameKind}{x:Str}{v:Value}:∀{P:List Str}{vs:List Value}{i:Nat}{m:Str->Option Value},P.Nodup->P[i]?=some x->vs[i]?=some v->kindOf x≠some .local->
  bindC kindOf (P.zip vs) m x=some v
 | [],_,_,_,_,h,_,_=>by simp at h
 | _::_,[],_,_,_,_,h,_=>by simp at h
 | p::P,w::vs,0,m,nd,h1,h2,hk=>by
  simp at h1 h2;subst h1;subst h2
  show bindC kindOf ((p,w)::P.zip vs) m p=_
  unfold bindC
  rw [zHu fun v hv=>(Yl.mp nd).1 (List.of_mem_zip hv).1,if_neg hk]
  simp
 | p::P,w::vs,i+1,m,nd,h1,h2,hk=>by
  show bindC kindOf ((p,w)::P.zip vs) m x=_
  unfold bindC
  exact zHt (i:=i) (Yl.mp nd).2 (by simpa using h1) (by simpa using h2) hk
def start(N:List Str)(vs:List V):St:=vs.map some++List.replicate (N.length-vs.length) none
def cxOf(CX:CXT)(P:Program)(w:World)(K:PySem.W.Frag)(mg:Str->Option Value)(base:Heap)(N:List Str)(qual:Str)(scope:Scope)(f:Addr)(cd:Value)(A:Around)(outer:List Env)(s:Shared)(H:Hp)(E:XK):Cx where
 prog:=P
 w:=w
 K:=K
 mg:=mg
 base:=base
 A:=A.deeper (envOfC qual scope s.heap.objs.size f cd)
 N:=N
 s₀:=s
 H₀:=H
 env:=envOfC qual scope s.heap.objs.size f cd
 outer:=outer
 stack:=envOfC qual scope s.heap.objs.size f cd::outer
 ex:=[]
 calm:=true
 fn:=fun _=>true
 pn:=[]
 xe:=fun e s'=>wpAny (model P w) (A.deeper (envOfC qual scope s.heap.objs.size f cd)) (leaving (envOfC qual scope s.heap.objs.size f cd) e) (fun _ s''=>CX outer H s E e s'') (fun e' s''=>CX outer H s E e' s'') s'
theorem zHB{sc:Scope}{n:Nat}{x:Str}(h:sc.names.lookup x=some .cell):∃ c,(cellsFrom n sc.names []).lookup x=some c:=by
 have q:=PySem.W.cellsFrom_some sc.names n [] (.inl h)
 exact Jf.mp q
theorem zM0{CX:CXT}{P:Program}{w:World}{K:PySem.W.Frag}{mg:Str->Option Value}{base:Heap}{N ps:List Str}{qual:Str}{scope:Scope}{f:Addr}{cd:Value}{A:Around}{outer:List Env}{s s1:Shared}{H:Hp}{E:XK}{us:List Value}{vs:List V}
  (S:zAp N ps scope) (hd:A.handled=none) (e0:Env0 P w K mg base A outer s H) (hl:vs.length=ps.length) (r:Vals vs us)
  (x:InCallC s s.heap.objs.size (bindL (envOfC qual scope s.heap.objs.size f cd).kindOf (ps.zip us) fun _=>none) (cellsFrom (s.heap.objs.size+1) scope.names []) (bindC (envOfC qual scope s.heap.objs.size f cd).kindOf (ps.zip us) fun _=>none) s1):
  Inv (cxOf CX P w K mg base N qual scope f cd A outer s H E) [] (start N vs) H s1:=by
 have hpl:ps.length<=N.length:=by have:=congrArg List.length S.pre;rw [QV]at this;lia
 obtain⟨h1,tk,rfl,hk⟩:=x.done
 have noA:∀ b:Addr,b∉(cxOf CX P w K mg base N qual scope f cd A outer s H E).ex:=fun b z=>absurd (show b∈([]:List Addr)from z) (by simp)
 refine⟨⟨e0.mod,S.kind,rfl,rfl,Qh _,fun y z c h1 h2=>?_,fun y hy=>?_,fun y c _ h=>?_,fun _=>hd,Around.frames_deeper e0.frames,.inr ⟨rfl,rfl⟩,fun b z=>absurd z (noA b),e0.bs,e0.bsz,fun b _ _=>noA b,fun b z=>absurd z (noA b),e0.funs,e0.frf⟩,
  rfl,e0.bare,Un.kept hk,⟨_,x.toInCall.ns,fun i y v h1 h2 h3=>?_⟩,fun y c h=>⟨_,x.cell y c h⟩,e0.hok.fresh (Qh _),fun y c h=>?_,fun p hp=>absurd (show p∈([]:List (Addr × Obj))from hp) (by simp),e0.hok.kept hk,?_⟩
 ·exact name_of_addr x.apart (PySem.mem_of_lookup h1) (PySem.mem_of_lookup h2)
 ·have hy:scope.names.lookup y=some .cell ∨ scope.names.lookup y=some .free:=hy
  rcases hy with hy | hy
  ·exact zHB hy
  ·exact absurd rfl (S.nofree _ (PySem.mem_of_lookup hy))
 ·exact YA (x.above y c (PySem.mem_of_lookup h))
 ·have hi:i<vs.length:=by
   unfold start at h2
   by_cases hi:i<vs.length
   ·exact hi
   ·rw [YF (by simpa using hi)]at h2
    rw [Jg]at h2
    split at h2 <;> cases h2
  have ha:vs[i]?=some v:=by
   unfold start at h2
   rw [YL (by simpa using hi),QM]at h2
   cases e:vs[i]? with
   | none=>rw [e]at h2;cases h2
   | some a=>rw [e]at h2;cases h2;rfl
  obtain⟨u,hu,rv⟩:=r.get ha
  have hp:ps[i]?=some y:=by
   rw [<- S.pre,List.getElem?_take_of_lt (by lia)];exact h1
  have ndP:ps.Nodup:=by rw [<- S.pre];exact S.nd.sublist (List.take_sublist _ _)
  refine⟨u,rv,?_⟩
  rcases S.par y (QP hp)with k | k
  ·exact .inl ⟨k,zHv ndP hp hu k⟩
  ·obtain⟨c,e⟩:=zHB (n:=s.heap.objs.size+1) k
   refine .inr ⟨.inl k,c,e,?_⟩
   have q:=x.cell y c e
   rw [zHt ndP hp hu (by show scope.names.lookup y≠_;rw [k];decide)]at q
   exact q
 ·exact e0.hok.fresh (YA (x.above y c (PySem.mem_of_lookup h)))
 ·unfold start
  show _=N.length
  rw [Qp,Qj,List.length_replicate]
  lia
theorem fn_of{CX:CXT}{P:Program}{w:World}{K:PySem.W.Frag}{mg:Str->Option Value}{base:Heap}{k:Nat}{f:Addr}{name qual:Str}{params:Arguments}{body:List Stmt}{scope:Scope}{dV kV doc pm cdv ct oc:Value}{an od:Option Addr}
  {osl:Array (Option Value)}{N ps:List Str}{sp:Sp} (lk:K.lookup f=some ⟨oc,od,.func (PySem.W.fnOf name qual params body scope dV kV doc pm an cdv ct),osl⟩) (hcd:PySem.W.codeIn K cdv qual=true) (S:zAp N ps scope)
  (len:∀ vs H Q E,sp vs H Q E->vs.length=ps.length)
  (hbody:∀(A:Around) (outer:List Env) (s:Shared) (H:Hp) (vs:List V) (Q:VK) (E:XK),Room k (A.deeper (envOfC qual scope s.heap.objs.size f cdv))->sp vs H Q E->
   ∃ t,PSs (cxOf CX P w K mg base N qual scope f cdv A outer s H E) body t/\t { nx:=fun _ H'=>Q .non H',rt:=Q } (start N vs) H):
  FnOk P w K mg base CX (k+1) f (PySem.W.fnOf name qual params body scope dV kV doc pm an cdv ct) ps sp:=by
 refine⟨len,fun A outer s H args us vs Q E hr e0 hb r hsp=>?_⟩
 have hl:=len _ _ _ _ hsp
 have KX:K.In s.heap:=e0.mod.kin.keeps fun b o e=>(e0.bs b o e).1
 have lim:s.heap.NoLimit:=e0.mod.nolimit.keeps fun b o e=>(e0.bs b o e).1
 have hkind:∀ y∈ps.zip us,scope.names.lookup y.1=some .local ∨ (scope.names.lookup y.1=some .cell/\((cellsFrom (s.heap.objs.size+1) scope.names []).lookup y.1).isSome=true):=fun zz hy=>by
  obtain⟨n,v⟩:=zz
  rcases S.par n (List.of_mem_zip hy).1 with q | q
  ·exact .inl q
  ·exact .inr ⟨q,PySem.W.cellsFrom_some _ _ _ (.inl q)⟩
 refine codeAny_call_function hr.depth (KX _ _ lk) rfl S.co S.gen rfl (PySem.W.codeRec_of KX hcd) (hb _ _ _ _ ?_)
 refine wpAny_newFunctionEnv_cells S.kind hkind fun env he s1 x=>?_
 subst he
 refine⟨lim.keeps x.toInCall.keep,codeAny_func ?_⟩
 obtain⟨t,ht,hq⟩:=hbody A outer s H vs Q E (hr.deeper _) hsp
 have I:Inv (cxOf CX P w K mg base N qual scope f cdv A outer s H E) [] (start N vs) H s1:=zM0 S hr.hd e0 hl r x
 refine YU (ht [] s1 (start N vs) H _ I hq) (fun fl s' hs=>?_) fun e s' hs=>hs
 have fin:∀{σ':St}{H':Hp}{v:V}{u:Value},Inv (cxOf CX P w K mg base N qual scope f cdv A outer s H E) [] σ' H' s'->RelV v u->Q v H'->CE outer P w H s Q u s':=
  fun{σ' H' v u} J rv q=>⟨v,H',J.os,J.bare,J.base,J.hok,rv,q⟩
 cases fl with
 | ret u=>
  obtain⟨v,σ',H',J,rv,q⟩:=hs
  exact fin J rv q
 | next=>
  obtain⟨σ',H',J,q⟩:=hs
  exact fin (v:=V.non) (u:=Value.none) J rfl q
 | brk=>
  obtain⟨_,_,_,q⟩:=hs
  exact False.elim q
 | cont=>
  obtain⟨_,_,_,q⟩:=hs
  exact False.elim q
end L2
namespace L2
open PySem PySem.Spec PyProof.Rows
section
variable {X:Cx}{x:Str}{p pos:Pos}{e:Expr}{es:List Expr}{t:TA}{id T:String}{r:List V->Hp->VK->Prop}
def tCB(r:List V->Hp->VK->Prop)(t:TA):TE:=fun σ H Q=>t σ H fun vs H1=>r vs H1 Q
theorem zJR(hc:zAF X (.builtin id) r)(hg:Gl X x)(hm:X.mg x=none)(hv:bootBuiltins x=some (.builtin id))(ha:PA X (e::es) t)(hn:x≠"__name__":=by decide)(hdb:(x == ("__debug__":Str))=false:=by decide)
  (he:starEach (e::es) X.env=(false,eval e X.env)::starEach es X.env:=by rfl) (hpl:(backTo pos (starEach es X.env)).any (·.1)=false:=by rfl):PE X (.Call (.Name x p) (e::es) [] pos) (tCB r t):=by
 intro pins s σ H Q I h
 refine Jm (zB8 I hg hm hv ?_ hn hdb)
 exact PyProof.Rows.callWith_builtin1 (thn (ha pos pins s σ H _ I h) fun us s1 ⟨vs,H1,I1,r1,q1⟩=>hc pins s1 σ H1 vs us Q I1 r1 q1) he hpl
theorem zOE(hc:zAF X (.type T) r)(hg:Gl X x)(hm:X.mg x=none)(hv:bootBuiltins x=some (.type T))(ha:PA X (e::es) t)(hn:x≠"__name__":=by decide)(hdb:(x == ("__debug__":Str))=false:=by decide)
  (he:starEach (e::es) X.env=(false,eval e X.env)::starEach es X.env:=by rfl) (hpl:(backTo pos (starEach es X.env)).any (·.1)=false:=by rfl):PE X (.Call (.Name x p) (e::es) [] pos) (tCB r t):=by
 intro pins s σ H Q I h
 refine Jm (zB8 I hg hm hv ?_ hn hdb)
 exact YE (thn (ha pos pins s σ H _ I h) fun us s1 ⟨vs,H1,I1,r1,q1⟩=>hc pins s1 σ H1 vs us Q I1 r1 q1) he hpl
end
end L2
namespace HT
open PySem PyProof.Rows
def lexLt:List Int->List Int->Bool
 | [],[]=>false
 | [],_::_=>true
 | _::_,[]=>false
 | x::xs,y::ys=>if x=y then lexLt xs ys else decide (x<y)
theorem lexLt_cons(x y:Int)(xs ys:List Int):lexLt (x::xs) (y::ys)=if x=y then lexLt xs ys else decide (x<y):=rfl
theorem zNx:lexLt [] []=false:=rfl
theorem zNw(y:Int)(ys:List Int):lexLt [] (y::ys)=true:=rfl
theorem zNv(x:Int)(xs:List Int):lexLt (x::xs) []=false:=rfl
theorem zMq(A:Around)(s:Shared)(a:Int)(t:Tok)(c:Int)(u:Tok):∃ e,SeqAt.EqAt A s (.int a t) (.int c u) e/\(e=true ↔ a=c):=
 ⟨(a == c),SeqAt.EqAt.int_int a t c u,by simp⟩
theorem rcLt_int(A:Around)(s:Shared)(a:Int)(t:Tok)(c:Int)(u:Tok)(prog:Program)(w:World)(E:Value->Shared->Prop)(Q:Value->Shared->Prop)(h:Q (.bool (decide (a<c))) s):
  wpAny (model prog w) A (richCompare .Lt (.int a t) (.int c u)) Q E s:=
 (PyProof.Rows.lt_int h:wpAny (model prog w) A (compareOp .Lt (.int a t) (.int c u)) Q E s)
section
open PySem.SeqAt
open PySem.AutoSeq1 (wpAny_loadPart')
open PySem.MeetsSeq PySem.MeetsSeq2 PySem.MeetsSeq3
theorem zQg(l b:Addr)(items items2:Array Value)(n n2:Nat)(dd dd2:Option Addr)(sl sl2:Array (Option Value))(ns ms:List Int)(hi:IntsAre items.toList ns)(hj:IntsAre items2.toList ms):
  Meets (Builtin.«tuple.__lt__» ⟨[.ref l,.ref b],[]⟩)
   (fun _ R s=>s.heap.get? l=some { cls:=.type "tuple",dict:=dd,data:=.seq items n,slots:=sl }/\s.heap.get? b=some { cls:=.type "tuple",dict:=dd2,data:=.seq items2 n2,slots:=sl2 } /\
    R (.ok (.ret (.bool (lexLt ns ms)))) s):=
 .of_wp fun prog w A R s h=>by
  obtain⟨hp,g,d,tk,os⟩:=s;obtain⟨hl,hb,h⟩:=h
  have f2:=AutoSeq1.sub_tuple_tuple
  have z1:items.size=ns.length:=by rw [<- hi.length];simp
  have z2:items2.size=ms.length:=by rw [<- hj.length];simp
  wp_walk using wpAny_loadPart' hl,wpAny_loadPart' hb,Jh _ (fun rest b s'=>b.1=none/\s'=⟨hp,g,d,tk,os⟩/\∃(vs ws:List Value) (ns' ms':List Int),rest=vs.zip ws /\
   IntsAre vs ns'/\IntsAre ws ms'/\ns'.length+items2.size=ms'.length+items.size/\R (.ok (.ret (.bool (lexLt ns' ms')))) ⟨hp,g,d,tk,os⟩) _
  case turn=>
   rintro⟨y,x⟩ rest b s' ⟨hb',rfl,vs,ws,ns',ms',hz,hvi,hwi,hlen,hR⟩
   cases hvi with
   | nil=>rw [List.zip_nil_left]at hz;cases hz
   | cons a t hvi'=>
    cases hwi with
    | nil=>rw [List.zip_nil_right]at hz;cases hz
    | cons c u hwi'=>
     rw [List.zip_cons_cons]at hz
     injection hz with hyx hrest
     injection hyx with hy hx
     subst hy hx
     rw [lexLt_cons]at hR
     simp only [QL]at hlen
     obtain⟨e,he,hiff⟩:=zMq A.in1 ⟨hp,g,d,tk,os⟩ a t c u
     refine Qa (he prog w _ _ ?_)
     cases e with
     | true=>
      rw [if_pos (hiff.mp rfl)]at hR
      wp_walk
      exact⟨rfl,rfl,_,_,_,_,hrest,hvi',hwi',by lia,hR⟩
     | false=>
      rw [if_neg (fun q=>absurd (hiff.mpr q) Qu)]at hR
      have hri:=rcLt_int A.in1 ⟨hp,g,d,tk,os⟩ a t c u prog w
      wp_walk using hri
      exact⟨_,rfl,by simpa using hR⟩
  case fin=>
   rintro⟨b1,b2⟩ s' ⟨hb',rfl,vs,ws,ns',ms',hz,hvi,hwi,hlen,hR⟩
   simp only at hb'
   subst hb'
   have hv:lexLt ns' ms'=decide (items.size<items2.size):=by
    cases hvi with
    | nil=>
     cases hwi with
     | nil=>
      simp only [JK]at hlen
      rw [zNx]
      exact(decide_eq_false (by lia)).symm
     | cons c u hw=>
      simp only [JK,QL]at hlen
      rw [zNw]
      exact(decide_eq_true (by lia)).symm
    | cons a t hv=>
     cases hwi with
     | nil=>
      simp only [JK,QL]at hlen
      rw [zNv]
      exact(decide_eq_false (by lia)).symm
     | cons c u hw=>
      rw [List.zip_cons_cons]at hz
      cases hz
   rw [hv]at hR
   wp_walk
   exact⟨_,rfl,by simpa [Builtin.Tuple.tupleCompareSizes]using hR⟩
  case h=>
   exact⟨rfl,rfl,items.toList,items2.toList,ns,ms,rfl,hi,hj,by lia,h⟩
end
section
variable {prog:Program}{w:World}{A:Around}{E:Value->Shared->Prop}{s:Shared}
theorem lt_tupInts{l b:Addr}{items items2:Array Value}{ns ms:List Int}{Q:Value->Shared->Prop}(hl:IsTup s.heap l items)(hb:IsTup s.heap b items2)(hi:IntsAre items.toList ns)(hj:IntsAre items2.toList ms)
  (hu:A.units<cLine) (h:Q (.bool (lexLt ns ms)) s):wpAny (model prog w) A (compareOp .Lt (.ref l) (.ref b)) Q E s:=by
 obtain⟨⟨cls,dd,data,sl⟩,ho,hc,n,hd⟩:=id hl
 obtain⟨⟨cls2,dd2,data2,sl2⟩,ho2,hc2,n2,hd2⟩:=id hb
 simp only at hc hd hc2 hd2
 subst hc hd hc2 hd2
 exact richCompare_meets_room (op:=.Lt) ⟨_,ho,rfl⟩ ⟨_,ho2,rfl⟩ PySem.F.slot_tuple_lt PySem.F.entry_tuple_lt (PySem.F.args_tuple_lt_2 _ _) (zQg l b items items2 n n2 dd dd2 sl sl2 ns ms hi hj)
  ⟨ho,ho2,show Value.bool (lexLt ns ms)≠Value.notImplemented/\Q (.bool (lexLt ns ms)) s from⟨(fun x=>nomatch x),h⟩⟩ hu
theorem cat_tup{t b:Addr}{vs ws:List Value}{Q:Value->Shared->Prop}(ht:IsTup s.heap t vs.toArray)(hb:IsTup s.heap b ws.toArray)(hv:vs≠[])
  (h1:ws=[]->Q (.ref t) s) (h2:ws≠[]->Q (.ref s.heap.objs.size) { s with heap:=s.heap.push { cls:=.type "tuple",data:=.seq (vs++ws).toArray } })
  (hsz:vs.length+ws.length<=sizeLine):wpAny (model prog w) A (binaryOp .Add (.ref t) (.ref b)) Q E s:=by
 obtain⟨⟨cls,dd,data,sl⟩,ho,hc,n,hd⟩:=id ht
 obtain⟨⟨cls2,dd2,data2,sl2⟩,ho2,hc2,n2,hd2⟩:=id hb
 simp only at hc hd hc2 hd2
 subst hc hd hc2 hd2
 have e:vs.toArray++ws.toArray=(vs++ws).toArray:=by simp
 by_cases hw:ws=[]
 ·exact concat_meets ⟨_,ho,rfl⟩ ⟨_,ho2,rfl⟩ noFill_tuple_add seq_tuple_add PySem.F.slot_tuple_add PySem.F.entry_tuple_add (PySem.F.args_tuple_add_2 _ _)
   (tuple_addW1 t b vs.toArray ws.toArray n n2 dd dd2 sl sl2 (by simpa using hv) (by simp [hw])) ⟨ho,ho2,h1 hw⟩
 ·refine concat_meets ⟨_,ho,rfl⟩ ⟨_,ho2,rfl⟩ noFill_tuple_add seq_tuple_add PySem.F.slot_tuple_add PySem.F.entry_tuple_add (PySem.F.args_tuple_add_2 _ _)
   (tuple_addW2 t b vs.toArray ws.toArray n n2 dd dd2 sl sl2 (by simpa using hv) (by simpa using hw) (by rw [Qw,Qw];exact hsz)) ⟨ho,ho2,?_⟩
  rw [e]
  exact h2 hw
def sIx(n d:Nat):Option Int->Nat
 | none=>d
 | some v=>if v<0 then(v+(n:Int)).toNat else min v.toNat n
theorem sIx_none(n d:Nat):sIx n d none=d:=rfl
theorem sIx_nat(n d k:Nat):sIx n d (some (k:Int))=min k n:=by
 show(if(k:Int)<0 then((k:Int)+(n:Int)).toNat else min (k:Int).toNat n)=min k n
 rw [if_neg (by lia),YS]
theorem zPI(n d:Nat)(hd:d<=n)(o:Option Int):sIx n d o<=n:=by
 cases o with
 | none=>exact hd
 | some v=>
  show(if v<0 then(v+(n:Int)).toNat else min v.toNat n)<=n
  by_cases hv:v<0
  ·rw [if_pos hv];lia
  ·rw [if_neg hv];exact Nat.min_le_right _ _
theorem sb1{i:Int}{n:Nat}(h:i<0):max 0 (min (i+(n:Int)) (n:Int))=(((i+(n:Int)).toNat:Nat):Int):=by
 rw [Int.min_eq_left (by lia),Int.max_comm,<- Int.ofNat_toNat]
theorem sb4{i:Int}{n:Nat}(h:¬ i<0):min i (n:Int)=((min i.toNat n:Nat):Int):=by
 obtain⟨k,rfl⟩:=Int.eq_ofNat_of_zero_le (Int.not_lt.mp h)
 rw [YS]
 by_cases c:k<=n
 ·rw [Nat.min_eq_left c,Int.min_eq_left (Int.ofNat_le.mpr c)]
 ·rw [Jz (Nat.le_of_not_le c),Int.min_eq_right (Int.ofNat_le.mpr (Nat.le_of_not_le c))]
theorem sb2{i:Int}{n:Nat}(h:¬ i<0):max 0 (min i (n:Int))=((min i.toNat n:Nat):Int):=by
 rw [sb4 h,Int.max_eq_right (Y3 _)]
theorem sb3{i:Int}{n:Nat}:max (i+(n:Int)) 0=(((i+(n:Int)).toNat:Nat):Int):=(Int.ofNat_toNat _).symm
theorem zHD(v:Int)(n d:Nat):(if v<0 then max (v+(n:Int)) 0 else min v (n:Int))=((sIx n d (some v):Nat):Int):=by
 show(if v<0 then max (v+(n:Int)) 0 else min v (n:Int))=(((if v<0 then(v+(n:Int)).toNat else min v.toNat n):Nat):Int)
 by_cases hv:v<0
 ·simp only [if_pos hv];exact sb3
 ·simp only [if_neg hv];exact sb4 hv
theorem zLa(lo hi:Option Int)(n:Nat):Builtin.Slice.sliceAdjust lo hi 1 (n:Int)=(((sIx n 0 lo:Nat):Int),((sIx n n hi:Nat):Int)):=by
 have h1:¬ ((1:Int)<0):=by lia
 unfold Builtin.Slice.sliceAdjust
 simp only [h1,if_false]
 refine YW ?_ ?_
 ·cases lo with
  | none=>rfl
  | some v=>exact zHD v n 0
 ·cases hi with
  | none=>rfl
  | some v=>exact zHD v n n
theorem zOZ(i j:Nat):Builtin.Slice.slicePlaces (i:Int) (j:Int) 1=j-i:=by
 unfold Builtin.Slice.slicePlaces
 have h1:(1:Int) > 0:=by lia
 simp only [h1,if_true,Int.ediv_one]
 split <;> lia
theorem zKx{v:Value}{o:Option Int}{Q:Option Int->Shared->Prop}(p:IsPart v o)(h:Q o s):wpAny (model prog w) A (Builtin.Slice.slicePartIndex v) Q E s:=by
 cases p with
 | none=>exact slicePart_none h
 | int i t=>exact slicePart_int h
theorem zKw{sl:Addr}{vl vu:Value}{lo hi:Option Int}{n:Nat}{Q:Int × Int × Nat->Shared->Prop}(hs:s.heap.IsSliceOf sl vl vu .none)(pl:IsPart vl lo)(pu:IsPart vu hi)
  (h:Q (((sIx n 0 lo:Nat):Int),1,sIx n n hi-sIx n 0 lo) s):wpAny (model prog w) A (Builtin.Slice.sliceApplied (.ref sl) (pure (n:Int))) Q E s:=by
 obtain⟨os,hos,hcs,hds⟩:=id hs
 unfold Builtin.Slice.sliceApplied Builtin.Slice.sliceFields
 refine Qa (Qa (JO hos hds (x:=vl) rfl (Qa (JO hos hds (x:=vu) rfl (Qa (JO hos hds (x:=.none) rfl (Qb ?_)))))))
 refine Qa (slicePart_none ?_)
 show wpAny _ _ (if((1:Int) == 0)=true then _ else _) _ _ s
 rw [if_neg (by decide)]
 refine Qa (zKx pl (Qa (zKx pu (Qa (Qb ?_)))))
 show wpAny _ _ (match Builtin.Slice.sliceAdjust lo hi 1 (n:Int)with | (lo,hi)=>pure (lo,(1:Int),Builtin.Slice.slicePlaces lo hi 1)) _ _ s
 rw [zLa lo hi n]
 show wpAny _ _ (pure (((sIx n 0 lo:Nat):Int),(1:Int),Builtin.Slice.slicePlaces ((sIx n 0 lo:Nat):Int) ((sIx n n hi:Nat):Int) 1)) _ _ s
 rw [zOZ]
 exact Qb h
theorem zOY(xs:Array Value)(i k:Nat):((List.range k).filterMap fun(m:Nat)=>xs[((i:Int)+(m:Int) * 1).toNat]?).toArray=((xs.toList.drop i).take k).toArray:=by
 have e:(fun(m:Nat)=>xs[((i:Int)+(m:Int) * 1).toNat]?)=fun m=>xs[i+m]?:=by
  funext m
  have:((i:Int)+(m:Int) * 1).toNat=i+m:=by lia
  rw [this]
 rw [e]
 have:=pick_run xs i k
 rw [List.filterMap_map]at this
 have e2:((fun x=>xs[x]?) ∘ fun x=>i+x)=fun m=>xs[i+m]?:=rfl
 rw [e2]at this
 rw [this]
theorem getItem_tuple_cut{t sl:Addr}{items:Array Value}{vl vu:Value}{lo hi:Option Int}{Q:Value->Shared->Prop}(ht:IsTup s.heap t items)(hs:s.heap.IsSliceOf sl vl vu .none)(pl:IsPart vl lo)(pu:IsPart vu hi)
  (hw:¬ (sIx items.size 0 lo=0/\sIx items.size items.size hi=items.size))
  (h:Q (.ref s.heap.objs.size) { s with heap:=s.heap.push { cls:=.type "tuple",data:=.seq ((items.toList.drop (sIx items.size 0 lo)).take (sIx items.size items.size hi-sIx items.size 0 lo)).toArray } })
  (hsz:items.size<=sizeLine):wpAny (model prog w) A (getItem (.ref t) (.ref sl)) Q E s:=by
 have htake:sizeOk (.seq ((items.toList.drop (sIx items.size 0 lo)).take (sIx items.size items.size hi-sIx items.size 0 lo)).toArray):=by
  show((items.toList.drop (sIx items.size 0 lo)).take (sIx items.size items.size hi-sIx items.size 0 lo)).toArray.size<=sizeLine
  rw [Qw,QV,Yp,Qo]
  lia
 have hj:sIx items.size items.size hi<=items.size:=zPI _ _ (Qh _) hi
 obtain⟨os,hos,hcs,hds⟩:=id hs
 have hTs:s.TypeIs (.ref sl) "slice":=⟨os,hos,hcs⟩
 unfold getItem
 try with_reducible refine Yf ?_
 first | refine Qa (Qb ?_) | skip
 refine Qa (wpAny_sequenceKey ht.typeIs (by decide) ?_)
 refine Qa (Ym (name:=Str.ofString "__getitem__") ht.typeIs YK
  (Yg YK ht.typeIs entry_tuple_getitem ?_ (args_tuple_getitem _ _)))
 show wpAny _ _ (Builtin.Tuple.tupleItemsOf (.ref t) >>= _) _ _ s
 refine Qa (tupleItemsOf_ ht ?_)
 refine Qa (Jb hTs ?_)
 rw [if_pos (by decide)]
 refine Qa (zKw hs pl pu ?_)
 have hno:¬ ((((sIx items.size 0 lo:Nat):Int) == 0 && (1:Int) == 1 && (sIx items.size items.size hi-sIx items.size 0 lo) == items.size)=true):=by
  intro q
  rw [QH,QH]at q
  have q1:((sIx items.size 0 lo:Nat):Int)=0:=QW q.1.1
  have q2:sIx items.size items.size hi-sIx items.size 0 lo=items.size:=QW q.2
  exact hw ⟨by lia,by lia⟩
 show wpAny _ _ (if(((sIx items.size 0 lo:Nat):Int) == 0 && (1:Int) == 1 && (sIx items.size items.size hi-sIx items.size 0 lo) == items.size)=true then _ else _) _ _ s
 rw [if_neg hno,zOY]
 first
  | exact Qa (m:=Builtin.Tuple.tupleExact _) (Q8 (Qb ⟨_,rfl,Qb h⟩) htake)
  | exact Qa (m:=Builtin.Tuple.tupleExact _) (Q8 (Qa (Qb (Qb ⟨_,rfl,Qb h⟩))) htake)
  | exact Qa (Qa (m:=Builtin.Tuple.tupleExact _) (Q8 (Qb (Qb ⟨_,rfl,Qb h⟩)) htake))
  | exact Qa (Qa (m:=Builtin.Tuple.tupleExact _) (Q8 (Qb ⟨_,rfl,Qb h⟩) htake))
end
end HT
namespace L2
open PySem PySem.Spec PyProof.Rows
abbrev TO:=St->Hp->(Option Int->Hp->Prop)->Prop
def PO(X:Cx)(e:Option Expr)(t:TO):Prop:=
 ∀(pins:List (Addr × Obj)) (s:Shared) (σ:St) (H:Hp) (Q:Option Int->Hp->Prop),Inv X pins σ H s->t σ H Q->
  wpAny (model X.prog X.w) X.A (evalPart e X.env) (fun u s'=>∃ o H',Inv X pins σ H' s'/\IsPart u o/\Q o H') X.xe s
def zP8:TO:=fun _ H Q=>Q none H
def tPart(t:TE):TO:=fun σ H Q=>t σ H fun x H1=>∃ i,x=.int i/\Q (some i) H1
theorem zGd{ns:List Int}:∀{us:List Value},Vals (ns.map V.int) us->IntsAre us ns:=by
 induction ns with
 | nil=>intro us r;rw [List.map_nil]at r;cases r;exact .nil
 | cons n ns ih=>
  intro us r
  rw [Qm]at r
  cases r with
  | cons r1 r2=>
   obtain⟨t,e⟩:=r1
   subst e
   exact .cons n t (ih r2)
section
variable {X:Cx}{e:Expr}{te:TE}{lo hi:Option Expr}{tl th:TO}{pos p2:Pos}
theorem zO1:PO X none zP8:=by
 intro pins s σ H Q I h
 rw [evalPart_none]
 exact Qb ⟨none,H,I,.none,h⟩
theorem zO2(h:PE X e te):PO X (some e) (tPart te):=by
 intro pins s σ H Q I hw
 rw [evalPart_some]
 refine thn (h pins s σ H _ I hw) fun u s1 zz=>?_
 obtain⟨x,H1,I1,r1,q1⟩:=zz
 obtain⟨i,rfl,q⟩:=q1
 obtain⟨t,rfl⟩:=r1
 exact⟨some i,H1,I1,.int i t,q⟩
def SlR(X:Cx)(r:V->Option Int->Option Int->Hp->VK->Prop):Prop:=
 ∀(pins:List (Addr × Obj)) (s:Shared) (σ:St) (H:Hp) (x:V) (v vl vu:Value) (lo hi:Option Int) (sl:Addr) (Q:VK),Inv X pins σ H s->RelV x v->s.heap.IsSliceOf sl vl vu .none->IsPart vl lo->IsPart vu hi->r x lo hi H Q->
  ∃ T id,typeLookup (.type T) "__getitem__"=pure (some (.builtin id))/\s.TypeIs v T/\wpAny (model X.prog X.w) X.A (getItem v (.ref sl)) (EP X pins σ Q) X.xe s
theorem SlR.or{r r':V->Option Int->Option Int->Hp->VK->Prop}(h:SlR X r)(h':SlR X r'):SlR X (fun x lo hi H Q=>r x lo hi H Q ∨ r' x lo hi H Q):=by
 intro pins s σ H x v vl vu lo hi sl Q I rx hs pl pu q
 rcases q with q | q
 ·exact h pins s σ H x v vl vu lo hi sl Q I rx hs pl pu q
 ·exact h' pins s σ H x v vl vu lo hi sl Q I rx hs pl pu q
def tSl(r:V->Option Int->Option Int->Hp->VK->Prop)(te:TE)(tl th:TO):TE:=fun σ H Q=>te σ H fun x H1=>tl σ H1 fun l H2=>th σ H2 fun u H3=>r x l u H3 Q
theorem zON{r:V->Option Int->Option Int->Hp->VK->Prop}(hr:SlR X r)(he:PE X e te)(hl:PO X lo tl)(hu:PO X hi th):PE X (.Subscript e (.Slice lo hi none p2) pos) (tSl r te tl th):=by
 intro pins s σ H Q I h
 refine Subscript_ (thn (he pins s σ H _ I h) fun v s1 zz=>?_)
 obtain⟨x,H1,I1,r1,q1⟩:=zz
 refine wpAny_Slice (thn (hl pins s1 σ H1 _ I1 q1) fun vl s2 ⟨l,H2,I2,pl,q2⟩=>thn (hu pins s2 σ H2 _ I2 q2) fun vu s3 zz=>?_)
 obtain⟨u,H3,I3,pu,q3⟩:=zz
 rw [evalPart_none]
 refine Qb ?_
 have I4:Inv X pins σ H3 { s3 with heap:=s3.heap.push { cls:=.type "slice",data:=.fields #[vl,vu,.none] } }:=I3.kept (t':=s3.toks) fun b ob q=>Qc _ q
 obtain⟨T,id,hT,ht,hg⟩:=hr pins { s3 with heap:=s3.heap.push { cls:=.type "slice",data:=.fields #[vl,vu,.none] } } σ H3 x v vl vu l u s3.heap.objs.size Q I4 r1 (Heap.IsSliceOf.new ..) pl pu q3
 show wpAny (model X.prog X.w) X.A (subscriptTail e (.Slice lo hi none p2) v (.ref s3.heap.objs.size)) (EP X pins σ Q) X.xe { s3 with heap:=s3.heap.push { cls:=.type "slice",data:=.fields #[vl,vu,.none] } }
 exact tail_any (ops:=[.ref s3.heap.objs.size,v]) ht hT hg (by with_unfolding_all rfl)
def cutV(xs:List V)(lo hi:Option Int):List V:=(xs.drop (HT.sIx xs.length 0 lo)).take (HT.sIx xs.length xs.length hi-HT.sIx xs.length 0 lo)
theorem zHH(xs:List V)(lo hi:Option Int):(cutV xs lo hi).length<=xs.length:=by
 unfold cutV
 rw [QV,Yp]
 lia
def rSlT(K:PySem.W.Frag):V->Option Int->Option Int->Hp->VK->Prop:=fun x lo hi H Q=>∃ a xs,x=.ref a/\SqT K H a xs /\
 ¬ (HT.sIx xs.length 0 lo=0/\HT.sIx xs.length xs.length hi=xs.length)/\∀ p,H p=none->Q (.ref p) (upd H p (.tup (cutV xs lo hi)))
theorem zPP:SlR X (rSlT X.K):=by
 intro pins s σ H x v vl vu lo hi sl Q I rx hs pl pu h
 obtain⟨a,xs,rfl,hx,hw,q⟩:=h
 cases rx
 obtain⟨its,r,ht,hz⟩:=I.tuple hx
 have hlen:its.toArray.size=xs.length:=by rw [Qw];exact r.length.symm
 refine⟨"tuple",_,YK.lookup,ht.typeIs,?_⟩
 refine HT.getItem_tuple_cut ht hs pl pu (by rw [hlen];exact hw) ?_ (by rw [hlen];exact hz)
 rw [hlen]
 refine⟨.ref s.heap.objs.size,_,I.laid (t':=s.toks) (o:=.tup (cutV xs lo hi)) (fun b ob q=>Qc _ q) (Qh _) ?_,rfl,q _ (I.hok.fresh (Qh _))⟩
 exact⟨Ql (zHH xs lo hi) hz,_,(r.drop (HT.sIx xs.length 0 lo)).take (HT.sIx xs.length xs.length hi-HT.sIx xs.length 0 lo),IsTup.new _ _⟩
def rLtT(K:PySem.W.Frag):R2:=fun x y H Q=>∃ a b ns ms,x=.ref a/\y=.ref b/\SqT K H a (ns.map V.int)/\SqT K H b (ms.map V.int)/\Q (.bl (HT.lexLt ns ms)) H
theorem zOo(hu:X.A.units<cLine):OpR X (compareOp .Lt) (rLtT X.K):=by
 intro pins s σ H x y v u Q I rx ry h
 obtain⟨a,b,ns,ms,rfl,rfl,ha,hb,q⟩:=h
 cases rx
 cases ry
 obtain⟨its,r1,p1,_⟩:=I.tuple ha
 obtain⟨its2,r2,p2,_⟩:=I.tuple hb
 have i1:IntsAre its.toArray.toList ns:=zGd r1
 have i2:IntsAre its2.toArray.toList ms:=zGd r2
 exact HT.lt_tupInts p1 p2 i1 i2 hu ⟨.bl (HT.lexLt ns ms),H,I,rfl,q⟩
def rCatT(K:PySem.W.Frag):R2:=fun x y H Q=>∃ a b xs ys,x=.ref a/\y=.ref b/\SqT K H a xs/\SqT K H b ys/\xs≠[]/\xs.length+ys.length<=sizeLine /\
 (ys=[]->Q (.ref a) H)/\(ys≠[]->∀ p,H p=none->Q (.ref p) (upd H p (.tup (xs++ys))))
theorem Vals.nil_iff{xs:List V}{us:List Value}(r:Vals xs us):us=[] ↔ xs=[]:=by
 cases r with
 | nil=>simp
 | cons _ _=>simp
theorem zOm:OpR X (binaryOp .Add) (rCatT X.K):=by
 intro pins s σ H x y v u Q I rx ry h
 obtain⟨a,b,xs,ys,rfl,rfl,ha,hb,hx,hz,q1,q2⟩:=h
 cases rx
 cases ry
 obtain⟨its,r1,p1,_⟩:=I.tuple ha
 obtain⟨its2,r2,p2,_⟩:=I.tuple hb
 refine HT.cat_tup p1 p2 (fun z=>hx (r1.nil_iff.mp z)) (fun z=>⟨.ref a,H,I,rfl,q1 (r2.nil_iff.mp z)⟩) (fun z=>?_) (by rw [<- r1.length,<- r2.length];exact hz)
 refine⟨.ref s.heap.objs.size,_,I.laid (t':=s.toks) (o:=.tup (xs++ys)) (fun b ob q=>Qc _ q) (Qh _) ?_,rfl,q2 (fun w=>z (r2.nil_iff.mpr w)) _ (I.hok.fresh (Qh _))⟩
 exact⟨by rw [Qp];exact hz,_,r1.append r2,IsTup.new _ _⟩
end
end L2
namespace L2
open PySem PySem.Spec PyProof.Rows
def ixN(n:Nat)(i:Int):Option Nat:=if 0<=i then(if i<n then some i.toNat else none)else if -(n:Int)<=i then some (i+n).toNat else none
def atI{α:Type}(xs:List α)(i:Int):Option α:=(ixN xs.length i).bind fun j=>xs[j]?
theorem zNa{n:Nat}{i:Int}{j:Nat}(h:ixN n i=some j):seqIndex? i n=some j/\j<n/\-(n:Int)<=i/\i<n:=by
 unfold ixN at h
 by_cases h0:0<=i
 ·rw [if_pos h0]at h
  by_cases h1:i<n
  ·rw [if_pos h1]at h
   have e:i.toNat=j:=QF h
   exact⟨by rw [seqIndex_of h0 h1,e],by lia,by lia,h1⟩
  ·rw [if_neg h1]at h;cases h
 ·rw [if_neg h0]at h
  by_cases h1:-(n:Int)<=i
  ·rw [if_pos h1]at h
   have e:(i+n).toNat=j:=QF h
   exact⟨by rw [seqIndex_neg (by lia) h1,e],by lia,h1,by lia⟩
  ·rw [if_neg h1]at h;cases h
theorem zHr{α:Type}{xs:List α}{i:Int}{v:α}(h:atI xs i=some v):∃ j,seqIndex? i xs.length=some j/\xs[j]?=some v/\j<xs.length/\-(xs.length:Int)<=i/\i<xs.length:=by
 unfold atI at h
 cases e:ixN xs.length i with
 | none=>rw [e]at h;cases h
 | some j=>
  rw [e]at h
  obtain⟨h1,h2,h3,h4⟩:=zNa e
  exact⟨j,h1,h,h2,h3,h4⟩
def zFj(b:Expr):Prop:=∀ o i,subscripted b false o i=operate [o,i] (getItem o i)
def IxR(X:Cx)(r:R2):Prop:=
 ∀(value slice:Expr) (pins:List (Addr × Obj)) (s:Shared) (σ:St) (H:Hp) (x y:V) (v u:Value) (Q:VK),Inv X pins σ H s->RelV x v->RelV y u->r x y H Q->
  subscripted slice false v u=operate [v,u] (getItem v u)->wpAny (model X.prog X.w) X.A (subscriptTail value slice v u) (EP X pins σ Q) X.xe s
def MtR(X:Cx)(id:String)(r:V->List V->Hp->VK->Prop):Prop:=
 ∀(pins:List (Addr × Obj)) (s:Shared) (σ:St) (H:Hp) (x:V) (xs:List V) (v:Value) (us:List Value) (Q:VK),Inv X pins σ H s->RelV x v->Vals xs us->r x xs H Q->
  wpAny (model X.prog X.w) X.A (call (.builtin id) (v::us)) (EP X pins σ Q) X.xe s
section
variable {X:Cx}{a b:Expr}{ta tb:TE}{pos:Pos}
theorem IxR.or{r r':R2}(h:IxR X r)(h':IxR X r'):IxR X (fun x y H Q=>r x y H Q ∨ r' x y H Q):=by
 intro value slice pins s σ H x y v u Q I rx ry q hs
 rcases q with q | q
 ·exact h value slice pins s σ H x y v u Q I rx ry q hs
 ·exact h' value slice pins s σ H x y v u Q I rx ry q hs
theorem zJT{r:R2}(hr:IxR X r)(ha:PE X a ta)(hb:PE X b tb)(hs:zFj b):PE X (.Subscript a b pos) (tOp r ta tb):=by
 intro pins s σ H Q I h
 exact Subscript_ (binT ha hb I h fun v u s2 x y H2 I2 rx ry q=>hr a b pins s2 σ H2 x y v u Q I2 rx ry q (hs _ _))
def rIxL(K:PySem.W.Frag):R2:=fun x y H Q=>∃ p xs i v,x=.ref p/\y=.int i/\SqL K H p xs/\atI xs i=some v/\Q v H
def rIxT(K:PySem.W.Frag):R2:=fun x y H Q=>∃ p xs i v,x=.ref p/\y=.int i/\SqT K H p xs/\atI xs i=some v/\Q v H
theorem zNb:IxR X (rIxL X.K):=by
 intro value slice pins s σ H x y v u Q I rx ry h hs
 obtain⟨p,xs,i,z,rfl,rfl,hq,he,q⟩:=h
 cases rx
 obtain⟨t,rfl⟩:=ry
 obtain⟨its,r,pl,hz⟩:=I.list hq
 obtain⟨j,h1,h2,h3,h4,h5⟩:=zHr he
 obtain⟨w,ew,rw'⟩:=r.get h2
 have hl:=r.length
 have hn:=zGl
 have fin:EP X pins σ Q w s:=⟨z,H,I,rw',q⟩
 by_cases h0:0<=i
 ·have hj:i.toNat=j:=by
   rw [seqIndex_of h0 h5]at h1
   exact QF h1
  exact item_listR pl.isList h0 (by lia) (by rw [hj];simpa using ew) fin hs
 ·have hj:(i+(its.toArray.size:Int)).toNat=j:=by
   rw [seqIndex_neg (by lia) h4]at h1
   rw [Qw,<- hl]
   exact QF h1
  exact subscriptTail_builtinR (x:=w) pl.isList.typeIs slot_list_getitem.lookup
   (wpAny_getItem_list_neg (Q:=fun r s'=>r=w/\EP X pins σ Q r s') pl.isList (by lia) (by rw [Qw] <;> lia) (by lia) (by rw [hj];simpa using ew) ⟨rfl,fin⟩) hs
theorem zNd:IxR X (rIxT X.K):=by
 intro value slice pins s σ H x y v u Q I rx ry h hs
 obtain⟨p,xs,i,z,rfl,rfl,hq,he,q⟩:=h
 cases rx
 obtain⟨t,rfl⟩:=ry
 obtain⟨its,r,pl,hz⟩:=I.tuple hq
 obtain⟨j,h1,h2,h3,h4,h5⟩:=zHr he
 obtain⟨w,ew,rw'⟩:=r.get h2
 have hl:=r.length
 have hn:=zGl
 have fin:EP X pins σ Q w s:=⟨z,H,I,rw',q⟩
 exact subscriptTail_builtinR (x:=w) pl.typeIs slot_tuple_getitem.lookup
  (getItem_tuple (j:=j) (Q:=fun r s'=>r=w/\EP X pins σ Q r s') pl (by lia) (by lia) (by rw [Qw,<- hl];exact h1) (by simpa using ew) ⟨rfl,fin⟩) hs
theorem zPR(lo hi:Option Int)(n:Nat):(sliceBounds lo hi none n).1=((HT.sIx n 0 lo:Nat):Int)/\(sliceBounds lo hi none n).2.1=((HT.sIx n n hi:Nat):Int)/\(sliceBounds lo hi none n).2.2=1:=by
 refine⟨?_,?_,rfl⟩
 ·cases lo with
  | none=>simp [sliceBounds,HT.sIx]
  | some i=>
   simp only [sliceBounds,HT.sIx,Option.getD_none,show(1:Int) > 0 by decide,if_true]
   by_cases h:i<0
   ·simp only [h,if_true];exact HT.sb1 h
   ·simp only [h,if_false];exact HT.sb2 h
 ·cases hi with
  | none=>simp [sliceBounds,HT.sIx]
  | some i=>
   simp only [sliceBounds,HT.sIx,Option.getD_none,show(1:Int) > 0 by decide,if_true]
   by_cases h:i<0
   ·simp only [h,if_true];exact HT.sb1 h
   ·simp only [h,if_false];exact HT.sb2 h
theorem zPQ(its:List Value)(lo hi:Option Int):slicePick its.toArray lo hi none=((its.drop (HT.sIx its.length 0 lo)).take (HT.sIx its.length its.length hi-HT.sIx its.length 0 lo)).toArray:=by
 obtain⟨h1,h2,h3⟩:=zPR lo hi its.toArray.size
 unfold slicePick
 rw [h1,h2,h3]
 simp only [sliceRange_one,pick_run,Qw] <;> rfl
def rSlL(K:PySem.W.Frag):V->Option Int->Option Int->Hp->VK->Prop:=fun x lo hi H Q=>∃ a xs,x=.ref a/\SqL K H a xs/\∀ p,H p=none->Q (.ref p) (upd H p (.lst (cutV xs lo hi)))
theorem zPO:SlR X (rSlL X.K):=by
 intro pins s σ H x v vl vu lo hi sl Q I rx hs pl pu h
 obtain⟨a,xs,rfl,hx,q⟩:=h
 cases rx
 obtain⟨its,r,ht,hz⟩:=I.list hx
 have hlen:=r.length
 refine⟨"list",_,slot_list_getitem.lookup,ht.isList.typeIs,?_⟩
 refine wpAny_getItem_list_slice ht.isList hs pl pu .none (by simp) ?_ (by rw [Qw] <;> lia)
 rw [zPQ,<- hlen]
 refine⟨.ref s.heap.objs.size,_,I.laid (t':=s.toks) (o:=.lst (cutV xs lo hi)) (fun b ob q=>Qc _ q) (Qh _) ?_,rfl,q _ (I.hok.fresh (Qh _))⟩
 exact⟨Ql (zHH xs lo hi) hz,_,0,(r.drop (HT.sIx xs.length 0 lo)).take (HT.sIx xs.length xs.length hi-HT.sIx xs.length 0 lo),Qs _ rfl⟩
theorem zLu:zAF X (.builtin "len") (fun xs H Q=>∃ p ys,xs=[.ref p]/\(SqL X.K H p ys ∨ SqT X.K H p ys)/\Q (.int ys.length) H):=by
 intro pins s σ H xs us Q I r h
 obtain⟨p,ys,rfl,hq,q⟩:=h
 obtain⟨u,rfl,rx⟩:=zBw r
 cases rx
 have hn:=zGl
 rcases hq with hq | hq
 ·obtain⟨its,r',pl,hz⟩:=I.list hq
  have hlen:=r'.length
  exact Calls.call_len_list pl.isList (by simp only [Qw] <;> lia) ⟨.int ys.length,H,I.tok _,⟨s.toks+1,by rw [Qw,hlen]⟩,q⟩
 ·obtain⟨its,r',pl,hz⟩:=I.tuple hq
  have hlen:=r'.length
  exact len_tuple pl (by simp only [Qw] <;> lia) ⟨.int ys.length,H,I.tok _,⟨s.toks+1,by rw [Qw,hlen]⟩,q⟩
theorem zAF.or{f:Value}{r r':List V->Hp->VK->Prop}(h:zAF X f r)(h':zAF X f r'):zAF X f (fun xs H Q=>r xs H Q ∨ r' xs H Q):=by
 intro pins s σ H xs us Q I rs q
 rcases q with q | q
 ·exact h pins s σ H xs us Q I rs q
 ·exact h' pins s σ H xs us Q I rs q
theorem zLv:zAF X (.type "list") (fun xs H Q=>∃ p ys,xs=[.ref p]/\(SqL X.K H p ys ∨ SqT X.K H p ys)/\∀ l,H l=none->Q (.ref l) (upd H l (.lst ys))):=by
 intro pins s σ H xs us Q I r h
 obtain⟨p,ys,rfl,hq,q⟩:=h
 obtain⟨u,rfl,rx⟩:=zBw r
 cases rx
 have fin:∀(its:List Value),Vals ys its->ys.length<=sizeLine->∀(h':Heap) (c':Nat),(∀ b o',s.heap.get? b=some o'->h'.get? b=some o')->
   h'.get? s.heap.objs.size=some { cls:=.type "list",dict:=none,data:=.seq its.toArray c',slots:=#[] }->EP X pins σ Q (.ref s.heap.objs.size) { s with heap:=h' }:=fun its r' hz h' c' kp e=>
  ⟨.ref s.heap.objs.size,_,I.laid (t':=s.toks) kp (Qh _) (show zAU X.prog X.w _ h' _ (.lst ys)from⟨hz,its,c',r',e⟩),rfl,q _ (I.hok.fresh (Qh _))⟩
 rcases hq with hq | hq
 ·obtain⟨its,r',pl,hz⟩:=I.list hq
  have hlen:=r'.length
  obtain⟨o,ho,hc,n,hd⟩:=pl.isList
  exact call_list_seq p (.inl rfl) ho hc hd (fun h' c' kp e=>fin its r' hz h' c' kp e) (by simp only [Qw] <;> lia)
 ·obtain⟨its,r',pl,hz⟩:=I.tuple hq
  have hlen:=r'.length
  obtain⟨o,ho,hc,n,hd⟩:=pl
  exact call_list_seq p (.inr rfl) ho hc hd (fun h' c' kp e=>fin its r' hz h' c' kp e) (by simp only [Qw] <;> lia)
theorem zLA:zAF X (.type "tuple") (fun xs H Q=>∃ p ys,xs=[.ref p]/\((SqL X.K H p ys/\∀ l,H l=none->Q (.ref l) (upd H l (.tup ys))) ∨ (SqT X.K H p ys/\Q (.ref p) H))):=by
 intro pins s σ H xs us Q I r h
 obtain⟨p,ys,rfl,h⟩:=h
 obtain⟨u,rfl,rx⟩:=zBw r
 cases rx
 rcases h with⟨hq,q⟩ | ⟨hq,q⟩
 ·obtain⟨its,r',pl,hz⟩:=I.list hq
  have hlen:=r'.length
  refine call_tuple_list pl.isList (fun h' kp=>?_) (by simp only [Qw] <;> lia)
  have I1:Inv X pins σ H { s with heap:=h' }:=I.kept (t':=s.toks) kp
  have I2:Inv X pins σ (upd H h'.objs.size (.tup ys)) { s with heap:=h'.push { cls:=.type "tuple",data:=.seq its.toArray } }:=
   I1.laid (t':=s.toks) (fun b o e=>Qc _ e) (Qh _) (show zAU X.prog X.w _ _ _ (.tup ys)from⟨hz,its,r',IsTup.new _ _⟩)
  exact⟨.ref h'.objs.size,_,I2,rfl,q _ (I1.hok.fresh (Qh _))⟩
 ·obtain⟨its,r',pl,hz⟩:=I.tuple hq
  exact call_tuple_same pl ⟨.ref p,H,I,rfl,q⟩
def tyV(K:PySem.W.Frag)(T:String)(x:V)(H:Hp):Prop:=match x with
 | .str _=>T="str"
 | .int _=>T="int"
 | .ref p=>(T="list"/\∃ xs,SqL K H p xs) ∨ (T="tuple"/\∃ o,K.lookup p=some o/\o.cls=.type "tuple"/\o.dict=none) ∨
   (T="dict"/\((∃ kvs,H p=some (.dK kvs)) ∨ ∃ kvs,H p=some (.dT kvs))) ∨ (T="set"/\∃ S n,H p=some (.set S n))
 | _=>False
theorem zQo{pins:List (Addr × Obj)}{σ:St}{H:Hp}{s:Shared}{T:String}{x:V}{v:Value}(I:Inv X pins σ H s)(r:RelV x v)(ty:tyV X.K T x H):
  s.TypeIs v T/\∀ a,v=.ref a->∃ ob,s.heap.get? a=some ob/\ob.dict=none:=by
 cases x with
 | str z=>
  obtain⟨t,rfl⟩:=r
  cases(show T="str" from ty)
  exact⟨typeIs_str s z t,fun _ e=>nomatch e⟩
 | int i=>
  obtain⟨t,rfl⟩:=r
  cases(show T="int" from ty)
  exact⟨typeIs_int s i t,fun _ e=>nomatch e⟩
 | ref p=>
  cases r
  rcases ty with⟨rfl,xs,hq⟩ | ⟨rfl,o,hk,hc,hd⟩ | ⟨rfl,hk⟩ | ⟨rfl,S,n,hk⟩
  ·obtain⟨its,_,pl,_⟩:=I.list hq
   refine⟨pl.isList.typeIs,fun a e=>?_⟩
   cases e
   obtain⟨o,n,e,c,hd,_⟩:=pl
   exact⟨o,e,hd⟩
  ·refine⟨⟨o,I.kIn p o hk,hc⟩,fun a e=>?_⟩
   cases e
   exact⟨o,I.kIn _ o hk,hd⟩
  ·have z:∃ o,s.heap.get? p=some o/\o.ExactDict:=by
    rcases hk with⟨kvs,hk⟩ | ⟨kvs,hk⟩
    ·obtain⟨_,_,_,_,o,_,_,e,ex,_⟩:=I.hok p _ hk
     exact⟨o,e,ex⟩
    ·obtain⟨_,_,_,_,o,_,_,e,ex,_⟩:=I.hok p _ hk
     exact⟨o,e,ex⟩
   obtain⟨o,e,ex⟩:=z
   refine⟨⟨o,e,ex.1⟩,fun a e2=>?_⟩
   cases e2
   exact⟨o,e,ex.2.1⟩
  ·obtain⟨o,_,_,_,e,ex,_⟩:=I.hok p _ hk
   refine⟨⟨o,e,ex.1⟩,fun a e2=>?_⟩
   cases e2
   exact⟨o,e,ex.2.1⟩
 | _=>exact False.elim ty
def tBM(K:PySem.W.Frag)(T:String)(r:V->List V->Hp->VK->Prop)(to:TE)(t:TA):TE:=fun σ H Q=>to σ H fun x H1=>tyV K T x H1/\t σ H1 fun xs H2=>r x xs H2 Q
variable {o e:Expr}{es:List Expr}{to:TE}{t:TA}{name:Str}{apos cpos:Pos}{T id:String}{r:V->List V->Hp->VK->Prop}
theorem zJQ(pa:PlainAttrs T)(slot:Slot T name id)(hty:typeOf (.builtin id)=pure (.type "method_descriptor"))(hm:MtR X id r)(ho:PE X o to)(ha:PA X (e::es) t)
  (hbase:attributeBase o name X.env (eval o X.env)=eval o X.env:=by rfl)
  (hfew:((backTo cpos (starEach (e::es) X.env)).all (fun x => !x.1) && (backToKw cpos (keywordEach [] X.env)).all (fun x=>x.1.isSome)
   && decide ((e::es).length+([]:List Keyword).length+(if([]:List Keyword).isEmpty then 0 else 1)<30))=true:=by rfl)
  (hline:(apos.endLine == cpos.line)=true:=by rfl) (hs:starEach (e::es) X.env=(false,eval e X.env)::starEach es X.env:=by rfl) (hplain:(backTo cpos (starEach es X.env)).any (·.1)=false:=by rfl):
  PE X (.Call (.Attribute o name apos) (e::es) [] cpos) (tBM X.K T r to t):=by
 intro pins s σ H Q I h
 refine wpAny_Call_method_late hbase hfew hline rfl (thn (ho pins s σ H _ I h) fun v s1 zz=>?_)
 obtain⟨x,H1,I1,r1,ty,q1⟩:=zz
 obtain⟨h1,h2⟩:=zQo I1 r1 ty
 refine⟨T,id,pa,slot,hty,h1,h2,?_⟩
 have hA:=ha cpos pins s1 σ H1 _ I1 q1
 rw [hs]at hA ⊢
 refine Calls.callWith_builtin (by show(false || (backTo cpos (starEach es X.env)).any (·.1))=false;rw [hplain] <;> rfl) (Calls.evalArgs_plain ?_)
 exact thn hA fun us s2 ⟨vs,H2,I2,r2,q2⟩=>hm pins s2 σ H2 x vs v us Q I2 r1 r2 q2
end
end L2
namespace L2
open PySem PySem.Spec PyProof.Rows
def MtM(X:Cx)(id:String)(r:V->List V->Hp->VK->Prop):Prop:=
 ∀(pins:List (Addr × Obj)) (s:Shared) (σ:St) (H:Hp) (x:V) (xs:List V) (v:Value) (us:List Value) (Q:VK),Inv X pins σ H s->RelV x v->Vals xs us->r x xs H Q->
  wpAny (model X.prog X.w) X.A (call (.builtin id) (v::us)) (EP X pins σ Q) X.xe s
theorem Vals.one{x:V}{us:List Value}(h:Vals [x] us):∃ u,us=[u]/\RelV x u:=by
 cases h with
 | cons r h=>cases h;exact⟨_,rfl,r⟩
section
variable {X:Cx}{pins:List (Addr × Obj)}{σ:St}{H:Hp}{s:Shared}{l b:Addr}{xs ys zs:List V}
theorem Inv.lset{its its':List Value}{n:Nat}{f:Array Value->Array Value}{t':Nat}(I:Inv X pins σ H s)(hH:H l=some (.lst xs))
  (e:s.heap.get? l=some { cls:=.type "list",data:=.seq its.toArray n }) (hf:f its.toArray=its'.toArray) (hv:Vals ys its') (hz:ys.length<=sizeLine):
  Inv X pins σ (upd H l (.lst ys)) { s with heap:=s.heap.update l (Obj.mapSeq f),toks:=t' }:=by
 have q:=PySem.IsL.update e f
 rw [hf]at q
 refine I.write (x:=l) (e:=l) (by rw [hH];exact trivial) (.inl rfl) (fun b' u hb hu=>(Heap.get?_update_other s.heap (Obj.mapSeq f) (Ne.symm hb)).trans hu) ⟨_,q⟩ ?_
 exact⟨hz,its',_,hv,q⟩
theorem Inv.lstM(I:Inv X pins σ H s)(hH:H l=some (.lst xs)):xs.length<=sizeLine/\∃(its:List Value) (n:Nat),Vals xs its/\xs.length=its.length/\s.heap.get? l=some { cls:=.type "list",data:=.seq its.toArray n }:=by
 obtain⟨z,its,n,r,e⟩:=I.hok l _ hH
 exact⟨z,its,n,r,r.length,e⟩
theorem zOi{n:Nat}(h:n<=sizeLine):Builtin.List.listTooLong n=false:=by
 unfold Builtin.List.listTooLong
 exact decide_eq_false (by lia)
end
section
variable {X:Cx}
def zPn:V->List V->Hp->VK->Prop:=fun x vs H Q=>∃ l xs y,x=.ref l/\vs=[y]/\H l=some (.lst xs)/\xs.length<sizeLine/\Q .non (upd H l (.lst (xs++[y])))
theorem zJs:MtM X "list.append" zPn:=by
 intro pins s σ H x vs v us Q I rx rv h
 obtain⟨l,xs,y,rfl,rfl,hH,hz,q⟩:=h
 cases rx
 obtain⟨u,rfl,ru⟩:=rv.one
 obtain⟨z,its,n,r,hl,e⟩:=I.lstM hH
 refine call_meets F.slot_list_append ⟨_,e,rfl⟩ F.entry_list_append (F.args_list_append_2 _ _) (PySem.list_append l its.toArray n u (by rw [Qw];lia)) ⟨e,?_⟩
 refine⟨.non,_,I.lset (its':=its++[u]) hH e (by simp) (r.append (.cons ru .nil)) ?_,rfl,q⟩
 rw [Qp,Yd]
 lia
end
section
variable {prog:Program}{w:World}{A:Around}{E:Value->Shared->Prop}{s:Shared}
end
section
variable {X:Cx}
end
end L2
namespace Att
open PySem PySem.W PySem.Calls PyProof.Rows
theorem zMZ{P:Params}{h:Heap}:∀(ns:List Int) (vs:List Value),WellAll P h vs (ns.map WData.int)->IntsAre vs ns:=by
 intro ns
 induction ns with
 | nil=>
  intro vs w
  rw [List.map_nil]at w
  cases w
  exact .nil
 | cons n ns ih=>
  intro vs w
  rw [Qm]at w
  cases w with
  | cons a b=>
   cases a
   exact .cons _ _ (ih _ b)
theorem zPJ{l:OpenLaw}{n:Nat}(hn:l.most=some n){P:Params}{h:Heap}{args:List WData}{vals:List Value}
  (hpre:l.row.toRowW.claim.pre args=true) (hwl:WellAll P h vals args):
  ∃ a vs ns,vals=[Value.ref a]/\args=[WData.list (ns.map WData.int)]/\h.get? a=some { cls:=.type "list",data:=.seq vs.toArray }/\IntsAre vs ns/\ns.length<=n:=by
 have hsh:WShape.hasAll [] args [.list .int]=true:=(pre_splitW hpre).1
 have hc:l.pre.holds [] { args:=args }=true:=(pre_splitW hpre).2
 obtain⟨d,r,rfl,h1,h2⟩:=hasAllW_cons hsh
 obtain rfl:=hasAllW_nil h2
 obtain⟨xs,rfl,h3⟩:=hasW_list h1
 obtain⟨ns,rfl⟩:=items_int h3
 have hlen:ns.length<=n:=by
  unfold OpenLaw.pre at hc
  have h4:(WTm.not (.lt (.lit (.int (n:Int))) (.len (.arg 0)))).holds [] { args:=[.list (ns.map .int)] }=true:=by
   have h4:=(holds_andW hc).1
   rw [hn]at h4
   exact h4
  have h5:=condW_of h4 (w_not (w_lt w_lit (w_len_list (w_arg rfl))))
  rw [Qj]at h5
  refine Y2 fun q=>?_
  have q':(n:Int)<((ns.length:Nat):Int):=by lia
  first
   | (rw [decide_eq_true q']at h5;exact absurd h5 (by decide))
   | (simp at h5;lia)
 cases hwl with
 | cons w1 w2=>
  cases w2
  cases w1 with
  | list ho hall=>exact⟨_,_,ns,rfl,rfl,ho,zMZ ns _ hall,hlen⟩
theorem zO3(l:OpenLaw)(args:List WData):l.row.toRowW.claim.post args (.bool true) args=true:=
 postW_of (r:=l.row.toRowW) (X:=(true == true))
  (show WShape.has [] (.bool true) .bool=true by first | rfl | decide | simp [WShape.has,WShape.arms,WShape.armsAll])
  (show(WTm.eq .res (.lit (.bool true))).value [] { args:=args,res:=some (.bool true),after:=args }=some (.bool (true == true))from w_eq_bool (w_res rfl) w_lit) rfl
theorem attach_call{l:OpenLaw}{n:Nat}{q:Program}{loose:List Str}{XP:(Str->Option Value)->Heap->Prop}{YP:World->Heap->Prop}{d:DefRec}
  (hn:l.most=some n) (hdf:d.params.defaults=[])
  (call:∀(w:World) (s₀ s₁:Shared) (mg mb:Str->Option Value) (fa:Addr) (o:Obj) (pm cd doc:Value) (a:Addr) (vs:List Value) (ns:List Int),
   Ground q loose [] XP w s₀ mg mb s₁.heap->YP w s₁.heap->
   s₁.heap.get? fa=some o->o.data=.func (docDef d.name d.params d.body d.scope pm cd doc)->s₁.heap.CodeRec cd d.name->mg d.name=some (.ref fa)->
   s₁.heap.get? a=some { cls:=.type "list",data:=.seq vs.toArray }->IntsAre vs ns->ns.length<=n->s₁.gens=#[]->
   codeAny (model l.prog w) callerA (.call (.ref fa) ⟨[.ref a],[]⟩) (fun r s'=>r=.ok (.ret (.bool true))/\OldK s₁.heap s'.heap/\s'.os=s₁.os/\AllBare s'.gens) s₁):
  WalkO q loose XP YP l.row.toRowW d [] (fun f vs=>PySem.call f vs):=by
 intro w s₀ s₁ mg mb G Y fa o pm cd doc dV kV ho hd hcd hD hmg hg args vals as hpre hlay hrd hwl hlo
 obtain rfl:dV=.none:=Dflts.none hD hdf
 obtain rfl:kV=.none:=Dflts.noKw hD
 obtain⟨a,vs,ns,rfl,rfl,hobj,hints,hlen⟩:=zPJ hn hpre hwl
 refine enter_call (Jy (call w s₀ s₁ mg mb fa o pm cd doc a vs ns G Y ho (fd_plain hd) hcd hmg hobj hints hlen hg) fun r s' hq=>?_)
 obtain⟨rfl,h2,h3,h4⟩:=hq
 exact⟨.inl ⟨.bool true,.bool true,[],rfl,fun _=>rfl,.bool true,zO3 l _,fun _=>⟨List.Pairwise.nil,fun _ hm=>(nomatch hm)⟩⟩,h2,h3,h4⟩
section
variable {prog:Program}{w:World}{A:Around}{E:Value->Shared->Prop}{s:Shared}{K:Frag}
end
end Att
namespace L2
open PySem PySem.Spec PyProof.Rows
theorem zK3:∀{vs:List Value}{ns:List Int},IntsAre vs ns->Vals (ns.map V.int) vs
 | _,_,.nil=>.nil
 | _,_,.cons n t h=>.cons ⟨t,rfl⟩ (zK3 h)
def Only(H:Hp):Prop:=∀ b,H b=none ∨ ∃ o xs,H b=some (.frz o (.lst xs))
theorem zNq{P:Program}{w:World}{K:PySem.W.Frag}{mg mb:Str->Option Value}{CX:CXT}{k:Nat}{fa a:Addr}{fd:FuncData}{x:Str}{sp:Sp}{s₁:Shared}{vs:List Value}{ns:List Int}
  (KX:K.In s₁.heap) (hns:s₁.heap.Ns mainGlobals mg) (hb:s₁.heap.Ns builtinsNs mb) (hbb:∀ x:Str,x≠"__name__"->mb x=bootBuiltins x) (hlim:s₁.heap.NoLimit) (hg:s₁.gens=#[])
  (ha:s₁.heap.get? a=some { cls:=.type "list",data:=.seq vs.toArray }) (hi:IntsAre vs ns) (hl:ns.length<=sizeLine) (hr:Room k callerA)
  (F:∀ base:Heap,K.In base->base.Ns mainGlobals mg->FnOk P w K mg base CX k fa fd [x] sp) (hbind:∀(s:Shared) (u:Value),BindsTo s fd ⟨[u],[]⟩ [(x,u)])
  (hsp:∀ H:Hp,Only H->SqL K H a (ns.map V.int)->sp [.ref a] H (fun v _=>v=.bl true) fun _ _ _=>False)
  (hCX:∀ H e s',CX [] H s₁ (fun _ _ _=>False) e s'->False):
  codeAny (model P w) callerA (.call (.ref fa) ⟨[.ref a],[]⟩) (fun r s'=>r=.ok (.ret (.bool true))/\OldK s₁.heap s'.heap/\s'.os=s₁.os/\AllBare s'.gens) s₁:=by
 have rv:=zK3 hi
 have lenV:=hi.length
 have core:∀ H:Hp,Only H->SqL K H a (ns.map V.int)->HOk P w H s₁.heap->(∀ b,H b≠none->b=a)->(H a≠none->K.lookup a=none)->
   codeAny (model P w) callerA (.call (.ref fa) ⟨[.ref a],[]⟩) (fun r s'=>r=.ok (.ret (.bool true))/\OldK s₁.heap s'.heap/\s'.os=s₁.os/\AllBare s'.gens) s₁:=by
  intro H hO hS hok hA hK
  have base_of:∀{b:Addr}{o:Obj},s₁.heap.get? b=some o->H b=none->(hidT s₁.heap H).get? b=some o:=fun e n=>zMR e n
  have noA:∀{b:Addr}{o:Obj}{es:Array DictEntry}{ep:Nat},s₁.heap.get? b=some o->o.data=.dict es ep->H b=none:=fun{b o es ep} e d=>by
   cases q:H b with
   | none=>rfl
   | some u=>
    have e':b=a:=hA b (by rw [q];simp)
    subst e'
    rw [ha]at e;cases e
    have d':Data.seq vs.toArray _=Data.dict es ep:=d
    cases d'
  have nsK:∀{b:Addr}{m:Str->Option Value},s₁.heap.Ns b m->(hidT s₁.heap H).Ns b m:=fun{b m} ⟨o,es,ep,e,d,r⟩=>⟨o,es,ep,base_of e (noA e d),d,r⟩
  have hKb:K.In (hidT s₁.heap H):=fun b o e=>base_of (KX b o e) (by
   cases q:H b with
   | none=>rfl
   | some u=>
    have e':b=a:=hA b (by rw [q];simp)
    subst e'
    rw [hK (by rw [q];simp)]at e;cases e)
  have hM:Mod K mg (hidT s₁.heap H):=⟨hKb,nsK hns,⟨mb,nsK hb,hbb⟩,let⟨mc,h1,h2⟩:=hlim;⟨mc,nsK h1,h2⟩⟩
  have e0:Env0 P w K mg (hidT s₁.heap H) callerA [] s₁ H:=⟨rfl,hM,fun b o e=>zOj e,Nat.le_of_eq (zMS _ _),trivial,fun b hb=>absurd (show b∈([]:List Addr)from hb) (by simp),hok,.of_eq hg⟩
  refine Jy ((F _ hKb (nsK hns)).run callerA [] s₁ H ⟨[.ref a],[]⟩ [.ref a] [.ref a] _ _ hr e0 (hbind s₁ (.ref a)) (.cons rfl .nil) (hsp H hO hS)) fun r s' h=>?_
  cases r with
  | error e=>exact(hCX H e s' h).elim
  | ok fl=>
   cases fl with
   | next=>exact False.elim h
   | brk=>exact False.elim h
   | cont=>exact False.elim h
   | ret u=>
    obtain⟨v,H',os,bare,un,hok',r',q⟩:=h
    have q':v=.bl true:=q
    subst q'
    obtain rfl:u=Value.bool true:=r'
    refine⟨rfl,OldK.of_keep fun b o e=>?_,os,bare⟩
    cases q:H b with
    | none=>exact un.keep b o e q (by intro z;exact absurd (show b∈([]:List Addr)from z) (by simp)) (by simp)
    | some u=>
     rcases hO b with z | ⟨ob,xs,z⟩
     ·rw [q]at z;cases z
     ·have z2:=un.frzs b ob _ z
      obtain⟨e1,_⟩:=hok b _ z
      obtain⟨e2,_⟩:=hok' b _ z2
      rw [e]at e1;cases e1
      exact e2
 cases hk:K.lookup a with
 | some o=>
  have e:=KX a o hk
  rw [ha]at e
  cases e
  refine core (fun _=>none) (fun _=>.inl rfl) (.inr ⟨_,vs.toArray,_,hk,rfl,rfl,rfl,by rw [Qw,lenV];exact hl,by simpa using rv⟩) (fun b u z=>by have z':(none:Option HO)=some u:=z;cases z') (fun b z=>absurd rfl z) fun z=>absurd rfl z
 | none=>
  refine core (fun b=>if b=a then some (.frz { cls:=.type "list",data:=.seq vs.toArray } (.lst (ns.map V.int)))else none) (fun b=>?_) (.inl (.inr ⟨{ cls:=.type "list",data:=.seq vs.toArray },if_pos rfl⟩)) (fun b u z=>?_) (fun b z=>?_) fun _=>hk
  ·by_cases hb:b=a
   ·exact .inr ⟨_,_,if_pos hb⟩
   ·exact .inl (if_neg hb)
  ·by_cases hb:b=a
   ·have z':=(if_pos hb).symm.trans z
    cases z'
    subst hb
    exact⟨ha,by rw [Qj];exact hl,vs,_,rv,ha⟩
   ·have z':=(if_neg hb).symm.trans z
    cases z'
  ·by_cases hb:b=a
   ·exact hb
   ·exact absurd (if_neg hb) z
end L2
namespace L2
open PySem PySem.Spec PyProof.Rows
theorem walk_of{l:PySem.W.OpenLaw}{n k:Nat}{q:Program}{loose:List Str}{XP:(Str->Option Value)->Heap->Prop}{YP:World->Heap->Prop}{d:DefRec}{K:Params->PySem.W.Frag}{CX:World->CXT}{sp:World->Sp}{x:Str}
  (hn:l.most=some n) (hn2:n<=sizeLine) (hdf:d.params.defaults=[]) (hr:Room k callerA)
  (hY:∀(w:World) (h:Heap),YP w h->(K w.params).In h)
  (F:∀(w:World) (mg:Str->Option Value) (fa:Addr) (h:Heap),(K w.params).In h->h.Ns mainGlobals mg->mg d.name=some (.ref fa)->
   ∃ fd:FuncData,(∀(s:Shared) (u:Value),BindsTo s fd ⟨[u],[]⟩ [(x,u)]) /\
    ∀ base:Heap,(K w.params).In base->base.Ns mainGlobals mg->FnOk l.prog w (K w.params) mg base (CX w) k fa fd [x] (sp w))
  (hsp:∀(w:World) (H:Hp) (a:Addr) (ns:List Int),ns.length<=n->Only H->SqL (K w.params) H a (ns.map V.int)->sp w [.ref a] H (fun v _=>v=.bl true) fun _ _ _=>False)
  (hCX:∀(w:World) (H:Hp) (s:Shared) (e:Value) (s':Shared),CX w [] H s (fun _ _ _=>False) e s'->False):
  PySem.W.WalkO q loose XP YP l.row.toRowW d [] (fun f vs=>PySem.call f vs):=by
 refine Att.attach_call hn hdf fun w s₀ s₁ mg mb fa o pm cd doc a vs ns G Y ho hd hcd hmg hobj hints hlen hg=>?_
 have KX:=hY w _ Y
 obtain⟨fd,hb,hF⟩:=F w mg fa _ KX G.T.g hmg
 exact zNq KX G.T.g G.T.b G.T.builtins G.T.nolimit hg hobj hints (Ql hlen hn2) hr hF hb (fun H hO hS=>hsp w H a ns hlen hO hS) fun H e s'=>hCX w H s₁ e s'
end L2
namespace L2
open PySem PySem.Spec PyProof.Rows
def zBp(s:Stmt):Arguments:=match s with
 | .FunctionDef _ a _ _ _ _ _ _ _ _=>a
 | _=>{ posonlyargs:=[],args:=[],vararg:=none,kwonlyargs:=[],kw_defaults:=[],kwarg:=none,defaults:=[] }
def zA3(s:Stmt):List Stmt:=match s with
 | .FunctionDef _ _ b _ _ _ _ _ _ _=>b
 | _=>[]
def zAg(s:Stmt):Scope:=match s with
 | .FunctionDef _ _ _ _ _ _ sc _ _ _=>sc
 | _=>{ kind:=.function,names:=[],isGenerator:=false,isCoroutine:=false }
abbrev CX0:CXT:=fun _ _ _ _ _ _=>False
abbrev E0:XK:=fun _ _ _=>False
theorem pass0{X:Cx}:zFi CX0 X E0:=fun _ _ _ _ _ _ _ h=>h.elim
structure Fun(K:PySem.W.Frag)(x qual:Str)(st:Stmt)(f:Addr)(fd:FuncData):Prop where
 ex:∃(oc:Value) (od:Option Addr) (kV doc pm:Value) (an:Option Addr) (cdv ct:Value) (osl:Array (Option Value)),
  fd=PySem.W.fnOf x qual (zBp st) (zA3 st) (zAg st) .none kV doc pm an cdv ct/\K.lookup f=some ⟨oc,od,.func fd,osl⟩/\PySem.W.codeIn K cdv qual=true
 kp:PySem.W.keepIn K (.ref f)=true
section
variable {P:Program}{w:World}{K:PySem.W.Frag}{mg:Str->Option Value}{base:Heap}
theorem Fun.ok{x qual:Str}{st:Stmt}{f:Addr}{fd:FuncData}{N ps:List Str}{k:Nat}{sp:Sp}(F:Fun K x qual st f fd)(S:zAp N ps (zAg st))(len:∀ vs H Q E,sp vs H Q E->vs.length=ps.length)
  (hbody:∀(cdv:Value) (A:Around) (outer:List Env) (s:Shared) (H:Hp) (vs:List V) (Q:VK) (E:XK),Room k (A.deeper (envOfC qual (zAg st) s.heap.objs.size f cdv))->sp vs H Q E->
   ∃ t,PSs (cxOf CX0 P w K mg base N qual (zAg st) f cdv A outer s H E).nox (zA3 st) t/\t { nx:=fun _ H'=>Q .non H',rt:=Q } (start N vs) H):FnOk P w K mg base CX0 (k+1) f fd ps sp:=by
 obtain⟨oc,od,kV,doc,pm,an,cdv,ct,osl,rfl,lk,hcd⟩:=F.ex
 refine fn_of lk hcd S len fun A outer s H vs Q E hr hsp=>?_
 obtain⟨t,h,q⟩:=hbody cdv A outer s H vs Q E hr hsp
 exact⟨t,h.nox,q⟩
theorem zFQ{x qual:Str}{st:Stmt}{f:Addr}{oc:Value}{od an:Option Addr}{osl:Array (Option Value)}{kV doc pm cdv ct:Value}(l:K.lookup f=some ⟨oc,od,.func (PySem.W.fnOf x qual (zBp st) (zA3 st) (zAg st) .none kV doc pm an cdv ct),osl⟩)
  (c:PySem.W.codeIn K cdv qual=true) (k:PySem.W.keepIn K (.ref f)=true):Fun K x qual st f (PySem.W.fnOf x qual (zBp st) (zA3 st) (zAg st) .none kV doc pm an cdv ct):=⟨⟨oc,od,kV,doc,pm,an,cdv,ct,osl,rfl,l,c⟩,k⟩
end
theorem zGQ{n:Nat}(h:n<=1000):n<sizeLine:=QX h (by decide)
section
variable {X:Cx}
end
def Same(H H':Hp):Prop:=∀ b o,H b=some o->H' b=some o
theorem Same.refl(H:Hp):Same H H:=fun _ _ h=>h
theorem Same.trans{H H1 H2:Hp}(a:Same H H1)(b:Same H1 H2):Same H H2:=fun c o h=>b c o (a c o h)
theorem Same.free{H H':Hp}(e:Same H H'){l:Addr}(h:H' l=Option.none):H l=Option.none:=by
 cases q:H l with
 | none=>rfl
 | some o=>
  rw [e l o q]at h
  cases h
end L2
namespace SG
open PySem PyProof.Rows
structure Fit(src:Array Keyed)(kd:SortKind)(z:SortSt):Prop where
 mix:(arrOf z).Perm src
 kd:kindOf z=kd
 fine:failedOf z=none
 none:pendingOf z=#[]
theorem Fit.len{src:Array Keyed}{kd:SortKind}{z:SortSt}(f:Fit src kd z):(arrOf z).size=src.size:=f.mix.size_eq
theorem Fit.re{src:Array Keyed}{kd:SortKind}{z:SortSt}(f:Fit src kd z){ys:Array Keyed}(m:ys.Perm (arrOf z)):Fit src kd (setArr z ys):=⟨m.trans f.mix,f.kd,f.fine,f.none⟩
section
variable {prog:Program}{w:World}{A:Around}{E:Value->Shared->Prop}{s:Shared}{src:Array Keyed}{κ:KeyKind}{kd:SortKind}
def Asks(prog:Program)(w:World)(A:Around)(s:Shared)(κ:KeyKind)(kd:SortKind):Prop:=
 ∀(x y:Value) (a b:κ.α) (E:Value->Shared->Prop) (Q:Bool->Shared->Prop),κ.keyOf x=some a->κ.keyOf y=some b->Q (κ.blt a b) s->wpAny (model prog w) A (keyLt' kd x y) Q E s
theorem Fit.item{z:SortSt}(f:Fit src kd z)(all:KeysOf κ src){i:Nat}(h:i<src.size):∃ x y a,(arrOf z)[i]?=some (x,y)/\κ.keyOf x=some a/\KK κ (arrOf z) i=a:=by
 have h':i<(arrOf z).size:=by rw [f.len];exact h
 have e:=getElem?_pos (arrOf z) i h'
 obtain⟨a,ha⟩:=all (arrOf z)[i] ((Array.perm_iff_toList_perm.mp f.mix).mem_iff.mp (by simp))
 exact⟨_,_,a,e,ha,by unfold KK;rw [e];simp [ha]⟩
theorem zDN{z:SortSt}{i j:Nat}{Q:Option Bool->SortSt->Prop}(L:Asks prog w A s κ kd)(f:Fit src kd z)(all:KeysOf κ src)(hi:i<src.size)(hj:j<src.size)
  (k:Q (some (κ.blt (KK κ (arrOf z) i) (KK κ (arrOf z) j))) z):wpS (model prog w) A E s (ltAt' i j) Q z:=by
 obtain⟨x,x',a,e1,ka,qa⟩:=f.item all hi
 obtain⟨y,y',b,e2,kb,qb⟩:=f.item all hj
 rw [qa,qb]at k
 rw [ltAt'_eq]
 refine Yb (wpS_get ?_)
 show wpS _ _ _ _ (elem' (arrOf z) i >>= fun u=>elem' (arrOf z) j >>= fun v=>lt' u v) Q z
 rw [elem'_eq,e1,elem'_eq,e2]
 refine Yb (Yz (Yb (Yz ?_)))
 rw [lt'_eq]
 refine Yb (wpS_get (Yb (wpS_lift (wpAny_attempt ?_))))
 rw [f.kd]
 exact L x y a b _ _ ka kb ⟨rfl,Yz k⟩
theorem zKZ{z:SortSt}{a top:Nat}{Q:AscSt->SortSt->Prop}(L:Asks prog w A s κ kd)(all:KeysOf κ src)(f:Fit src kd z)(h1:1<=a)(h2:a<=top)(h3:top<=src.size)(r:SortedToK κ (arrOf z) a)
  (k:∀ n,a<=n->n<=top->SortedToK κ (arrOf z) n->n=top ∨ κ.klt (KK κ (arrOf z) n) (KK κ (arrOf z) (n-1))->Q (none,n) z):wpS (model prog w) A E s (ascLoop a top) Q z:=by
 unfold ascLoop
 refine wpS_forRange (fun x c z'=>z'=z/\c=(none,x)/\SortedToK κ (arrOf z) x) (fun x c z' g1 g2 hI=>?_) (fun c z' hI=>?_) ⟨rfl,rfl,r⟩
 ·obtain⟨hz,hc,hr⟩:=hI
  subst hz hc
  dsimp only
  refine Yb (zDN L f all (Qz g2 h3) (by lia) ?_)
  cases q:κ.blt (KK κ (arrOf z') x) (KK κ (arrOf z') (x-1))with
  | true=>simp only [if_true];exact Yz (k x g1 (YA g2) hr (Or.inr q))
  | false=>
   simp only [Qq,if_false]
   refine Yz ⟨rfl,rfl,fun i j le lt=>?_⟩
   rcases Nat.lt_or_ge j x with c1 | c1
   ·exact hr i j le c1
   ·obtain rfl:j=x:=by lia
    rcases Y4 le with c2 | c2
    ·subst c2;exact YB _
    ·exact KeyOrd.kle_trans (hr i (j-1) (by lia) (by lia)) q
 ·obtain⟨hz,hc,hr⟩:=hI
  subst hz hc
  have e:max a top=top:=by lia
  rw [e]at hr ⊢
  exact k top h2 (Qh _) hr (Or.inl rfl)
theorem zKV{z:SortSt}{n top:Nat}{Q:Option Nat->SortSt->Prop}(L:Asks prog w A s κ kd)(all:KeysOf κ src)(f:Fit src kd z)(h1:1<=n)(h2:n<=top)(h3:top<=src.size)(r:NonIncK κ (arrOf z) n)
  (k:∀ m z',Fit src kd z'->1<=m->m<=top->SortedToK κ (arrOf z') m->Q (some m) z'):wpS (model prog w) A E s (tail3 n top) Q z:=by
 have sz:n<=(arrOf z).size:=by rw [f.len];lia
 have f':Fit src kd (setArr z (mirror (arrOf z) 0 n ((n-0) / 2))):=f.re (mirror_perm _ _ _ _)
 have r':SortedToK κ (arrOf (setArr z (mirror (arrOf z) 0 n ((n-0) / 2)))) n:=by
  intro i j le lt
  show κ.kle (KK κ (mirror (arrOf z) 0 n ((n-0) / 2)) i) (KK κ (mirror (arrOf z) 0 n ((n-0) / 2)) j)
  rw [KK_mirror sz,KK_mirror sz,if_pos ⟨QZ _,by lia⟩,if_pos ⟨QZ _,lt⟩]
  exact r _ _ (by lia) (by lia)
 unfold tail3
 refine Yb (wpS_reverse (Yb (zKZ L all f' h1 h2 h3 r' fun m g1 g2 g3 _=>?_)))
 exact Yz (k m _ f' (Ql h1 g1) g2 g3)
theorem zMj{z:SortSt}{n top:Nat}{Q:DescSt->SortSt->Prop}(L:Asks prog w A s κ kd)(all:KeysOf κ src)(f:Fit src kd z)(h1:1<=n)(h2:n<=top)(h3:top<=src.size)(r:NonIncK κ (arrOf z) n)
  (k:∀ m q z',Fit src kd z'->n<=m->m<=top->NonIncK κ (arrOf z') m->q+1<=m->(∀ i,m-(q+1)<=i->i<m->KK κ (arrOf z') i=KK κ (arrOf z') (m-1))->Q (none,m,q) z'):wpS (model prog w) A E s (descLoop n top) Q z:=by
 have one:∀(ys:Array Keyed) (x:Nat) (i:Nat),x-(0+1)<=i->i<x->KK κ ys i=KK κ ys (x-1):=fun ys x i c1 c2=>by
  have:i=x-1:=JL (Nat.le_sub_one_of_lt c2) c1
  rw [this]
 unfold descLoop
 refine wpS_forRange (fun x c z'=>∃ q,c=(none,x,q)/\Fit src kd z'/\NonIncK κ (arrOf z') x/\q+1<=x/\∀ i,x-(q+1)<=i->i<x->KK κ (arrOf z') i=KK κ (arrOf z') (x-1))
  (fun x c z' g1 g2 hI=>?_) (fun c z' hI=>?_) ⟨0,rfl,f,r,h1,one _ _⟩
 ·obtain⟨q,hc,f',r',hq,he⟩:=hI
  subst hc
  dsimp only
  have lx:x<src.size:=Qz g2 h3
  have sz:x<=(arrOf z').size:=by rw [f'.len];exact YA lx
  have lx1:x-1<src.size:=QX (Nat.sub_le x 1) lx
  refine Yb (zDN L f' all lx lx1 ?_)
  cases c1:κ.blt (KK κ (arrOf z') x) (KK κ (arrOf z') (x-1))with
  | true=>
   simp only [if_true]
   have more:∀ ys:Array Keyed,(∀ m,KK κ ys m=KK κ (arrOf z') m)->NonIncK κ ys (x+1):=fun ys same i j le lt=>by
    rw [same i,same j]
    rcases Nat.lt_or_ge j x with d1 | d1
    ·exact r' i j le d1
    ·obtain rfl:j=x:=JL (YT lt) d1
     rcases Y4 le with d2 | d2
     ·subst d2;exact YB _
     ·exact KeyOrd.kle_trans (KeyOrd.kle_of_klt c1) (r' i (j-1) (Nat.le_sub_one_of_lt d2) (Nat.sub_lt (QX (QZ i) d2) Nat.one_pos))
   by_cases c2:q > 0
   ·rw [if_pos c2]
    exact Yb (wpS_reverse (Yz ⟨0,rfl,f'.re (mirror_perm _ _ _ _),more _ (JM sz he),Nat.succ_le_succ (QZ _),one _ _⟩))
   ·rw [if_neg c2]
    exact Yz ⟨0,rfl,f',more _ fun _=>rfl,Nat.succ_le_succ (QZ _),one _ _⟩
  | false=>
   simp only [Qq,if_false]
   refine Yb (zDN L f' all (by lia) lx ?_)
   cases c2:κ.blt (KK κ (arrOf z') (x-1)) (KK κ (arrOf z') x)with
   | true=>simp only [if_true];exact Yz (k x q z' f' g1 (YA g2) r' hq he)
   | false=>
    simp only [Qq,if_false]
    have same:KK κ (arrOf z') x=KK κ (arrOf z') (x-1):=KeyOrd.kle_antisymm c2 c1
    refine Yz ⟨q+1,rfl,f',fun i j le lt=>?_,by lia,fun i d1 d2=>?_⟩
    ·rcases Nat.lt_or_ge j x with e1 | e1
     ·exact r' i j le e1
     ·obtain rfl:j=x:=by lia
      rcases Y4 le with e2 | e2
      ·subst e2;exact YB _
      ·rw [same];exact r' i (j-1) (by lia) (by lia)
    ·show KK κ (arrOf z') i=KK κ (arrOf z') x
     rcases Nat.lt_or_ge i x with e1 | e1
     ·rw [same];exact he i (by lia) e1
     ·have:i=x:=by lia
      rw [this]
 ·obtain⟨q,hc,f',r',hq,he⟩:=hI
  have e:max n top=top:=by lia
  rw [e]at hc r' hq he
  subst hc
  exact k top q z' f' h2 (Qh _) r' hq he
theorem zHU{z:SortSt}{n top:Nat}{Q:Option Nat->SortSt->Prop}(L:Asks prog w A s κ kd)(all:KeysOf κ src)(f:Fit src kd z)(h2:n+1<=top)(h3:top<=src.size)(r:NonIncK κ (arrOf z) (n+1))
  (k:∀ m z',Fit src kd z'->1<=m->m<=top->SortedToK κ (arrOf z') m->Q (some m) z'):wpS (model prog w) A E s (descPart n top) Q z:=by
 unfold descPart
 refine Yb (wpS_lift (wpAny_rule ⟨rfl,Yb (zMj L all f (Nat.le_add_left 1 n) h2 h3 r fun m q z' f' g1 g2 r' hq he=>?_)⟩))
 have sz:m<=(arrOf z').size:=by rw [f'.len];lia
 dsimp only
 by_cases c:q > 0
 ·rw [if_pos c]
  refine Yb (wpS_reverse (zKV L all (f'.re (mirror_perm _ _ _ _)) (by lia) g2 h3 (fun i j le lt=>?_) k))
  show κ.kle (KK κ (mirror (arrOf z') (m-(q+1)) m ((m-(m-(q+1))) / 2)) j) (KK κ (mirror (arrOf z') (m-(q+1)) m ((m-(m-(q+1))) / 2)) i)
  rw [JM sz he,JM sz he]
  exact r' i j le lt
 ·rw [if_neg c]
  exact zKV L all f' (by lia) g2 h3 r' k
theorem zMC{z:SortSt}{top:Nat}{Q:Option Nat->SortSt->Prop}(L:Asks prog w A s κ kd)(all:KeysOf κ src)(f:Fit src kd z)(h1:1<=top)(h3:top<=src.size)
  (k:∀ m z',Fit src kd z'->1<=m->m<=top->SortedToK κ (arrOf z') m->Q (some m) z'):wpS (model prog w) A E s (countRun' 0 top) Q z:=by
 have r1:SortedToK κ (arrOf z) 1:=fun i j le lt=>by
  obtain rfl:i=j:=JL le (Ql (YT lt) (QZ _))
  exact YB _
 rw [countRun0_eq]
 refine Yb (zKZ L all f (Qh 1) h1 h3 r1 fun n g1 g2 g3 g4=>?_)
 dsimp only
 by_cases c:n=top
 ·rw [if_pos (beq_iff_eq.mpr c)]
  exact Yz (k n z f g1 g2 g3)
 ·rw [if_neg (fun h=>c (beq_iff_eq.mp h))]
  have fall:=g4.resolve_left c
  by_cases c2:n > 1
  ·rw [if_pos c2]
   have n1:n-1<n:=Nat.sub_lt g1 Nat.one_pos
   refine Yb (zDN L f all (Qz g1 (Ql g2 h3)) (Qz n1 (Ql g2 h3)) ?_)
   cases c3:κ.blt (KK κ (arrOf z) 0) (KK κ (arrOf z) (n-1))with
   | true=>simp only [if_true];exact Yz (k n z f g1 g2 g3)
   | false=>
    simp only [Qq,if_false]
    have sz:n<=(arrOf z).size:=by rw [f.len];exact Ql g2 h3
    have eq:∀ m,0<=m->m<n->KK κ (arrOf z) m=KK κ (arrOf z) (n-1):=fun m _ lt=>
     KeyOrd.kle_antisymm (g3 m (n-1) (Nat.le_sub_one_of_lt lt) n1) (KeyOrd.kle_trans c3 (g3 0 m (QZ _) lt))
    refine Yb (wpS_reverse (zHU L all (f.re (mirror_perm _ _ _ _)) (Nat.lt_of_le_of_ne g2 c) h3 (fun i j le lt=>?_) k))
    show κ.kle (KK κ (mirror (arrOf z) 0 n ((n-0) / 2)) j) (KK κ (mirror (arrOf z) 0 n ((n-0) / 2)) i)
    rw [JM sz eq,JM sz eq]
    rcases Nat.lt_or_ge j n with d | d
    ·rw [eq i (QZ _) (QX le d),eq j (QZ _) d]
     exact YB _
    ·obtain rfl:j=n:=JL (YT lt) d
     rcases Y4 le with d2 | d2
     ·subst d2;exact YB _
     ·rw [eq i (QZ _) d2];exact KeyOrd.kle_of_klt fall
  ·rw [if_neg c2]
   obtain rfl:n=1:=JL (Y2 c2) g1
   refine zHU L all f (by lia) h3 (fun i j le lt=>?_) k
   rcases Y4 le with d2 | d2
   ·subst d2;exact YB _
   ·obtain rfl:i=0:=by lia
    obtain rfl:j=1:=by lia
    exact KeyOrd.kle_of_klt fall
theorem zMY{z:SortSt}{n ok:Nat}{Q:Bool->SortSt->Prop}(L:Asks prog w A s κ kd)(all:KeysOf κ src)(f:Fit src kd z)(h1:ok<=n)(h3:n<=src.size)(r:SortedToK κ (arrOf z) ok)
  (k:∀ z',Fit src kd z'->SortedToK κ (arrOf z') n->Q true z'):wpS (model prog w) A E s (binarySort' 0 n ok) Q z:=by
 rw [binarySort'_eq]
 simp only [YG]
 have r0:SortedToK κ (arrOf z) (min (max ok 1) n):=fun i j le lt=>by
  rcases Y4 le with c | c
  ·subst c;exact YB _
  ·exact r i j le (by lia)
 refine Yb (wpS_mono (wpS_forRange (fun m c z'=>c=(none,())/\Fit src kd z'/\SortedToK κ (arrOf z') (min m n)) (Q:=fun c z'=>c=(none,())/\Fit src kd z'/\SortedToK κ (arrOf z') n)
  (fun m c z' g1 g2 hI=>?_) (fun c z' hI=>?_) ⟨rfl,f,r0⟩) fun c z' hQ=>?_)
 ·obtain⟨hc,f',r'⟩:=hI
  subst hc
  have em:min m n=m:=by lia
  rw [em]at r'
  have lm:m<src.size:=by lia
  refine Yb (wpS_mono (wpS_forRange (fun t c z2=>z2=z'/\∃ lo hi,c=(none,lo,hi)/\lo<=hi/\hi<=m/\hi+t<=m+lo/\(∀ i,i<lo->κ.kle (KK κ (arrOf z') i) (KK κ (arrOf z') m)) /\
    ∀ i,hi<=i->i<m->κ.klt (KK κ (arrOf z') m) (KK κ (arrOf z') i))
   (Q:=fun c z2=>z2=z'/\∃ lo hi,c=(none,lo,hi)/\lo<=m/\(∀ i,i<lo->κ.kle (KK κ (arrOf z') i) (KK κ (arrOf z') m))/\∀ i,lo<=i->i<m->κ.klt (KK κ (arrOf z') m) (KK κ (arrOf z') i))
   (fun t c z2 _ lt hJ=>?_) (fun c z2 hJ=>?_) ⟨rfl,0,m,rfl,QZ _,Qh _,by lia,fun i c=>absurd c (Yt _),fun i c1 c2=>absurd c2 (Nat.not_lt.mpr c1)⟩) fun c z2 hJ=>?_)
  ·obtain⟨hz,lo,hi,hc,c1,c2,c3,c4,c5⟩:=hJ
   subst hz hc
   dsimp only
   by_cases d:lo >= hi
   ·rw [if_pos d]
    obtain rfl:lo=hi:=by lia
    exact Yz ⟨rfl,lo,lo,rfl,c2,c4,c5⟩
   ·rw [if_neg d]
    have hm:lo<=(lo+hi) / 2/\(lo+hi) / 2<hi:=by clear c2 c3;lia
    generalize (lo+hi) / 2=md at hm ⊢
    have hmm:=Qz hm.2 c2
    refine Yb (zDN L f' all lm (YZ hmm lm) ?_)
    cases q:κ.blt (KK κ (arrOf z2) m) (KK κ (arrOf z2) md)with
    | true=>
     simp only [if_true]
     exact Yz ⟨rfl,lo,md,rfl,hm.1,YA hmm,Ql (Nat.add_right_comm md t 1 ▸ Nat.add_le_add_right hm.2 t) c3,c4,fun i e1 e2=>KeyOrd.klt_of_klt_of_kle q (r' _ _ e1 e2)⟩
    | false=>
     simp only [Qq,if_false]
     refine Yz ⟨rfl,md+1,hi,rfl,hm.2,c2,Nat.add_le_add (show lo<=md from hm.1) (Qh 1) |> fun z=>by lia,fun i e1=>?_,c5⟩
     have q':κ.kle (KK κ (arrOf z2) md) (KK κ (arrOf z2) m):=q
     exact KeyOrd.kle_trans (r' i md (YT e1) hmm) q'
  ·obtain⟨hz,lo,hi,hc,c1,c2,c3,c4,c5⟩:=hJ
   obtain rfl:lo=hi:=by lia
   exact⟨hz,lo,lo,hc,c2,c4,c5⟩
  ·obtain⟨hz,lo,hi,hc,c2,c4,c5⟩:=hJ
   subst hz hc
   show wpS _ _ _ _ (moveDown' m lo >>= fun _=>pure (ForInStep.yield (none,()))) _ _
   rw [moveDown'_eq]
   refine Yb (wpS_modify (Yz ⟨rfl,f'.re (bubble_perm _ _ _),?_⟩))
   have es:m<(arrOf z2).size:=by rw [f'.len];exact lm
   have e2:min (m+1) n=m+1:=by lia
   rw [e2]
   intro i j le lt
   show κ.kle (KK κ (bubble (arrOf z2) m (m-lo)) i) (KK κ (bubble (arrOf z2) m (m-lo)) j)
   have e3:m-(m-lo)=lo:=by lia
   rw [KK_bubble es (by lia),KK_bubble es (by lia),e3]
   by_cases i1:i=lo <;> by_cases j1:j=lo
   ·rw [if_pos i1,if_pos j1];exact YB _
   ·rw [if_pos i1,if_neg j1,if_pos ⟨by lia,by lia⟩]
    exact KeyOrd.kle_of_klt (c5 _ (by lia) (by lia))
   ·rw [if_neg i1,if_pos j1,if_neg (by lia)]
    exact c4 _ (by lia)
   ·rw [if_neg i1,if_neg j1]
    by_cases i2:lo<i/\i<=m <;> by_cases j2:lo<j/\j<=m
    ·rw [if_pos i2,if_pos j2];exact r' _ _ (by lia) (by lia)
    ·exact absurd ⟨by lia,by lia⟩ j2
    ·rw [if_neg i2,if_pos j2];exact r' _ _ (by lia) (by lia)
    ·rw [if_neg i2,if_neg j2];exact r' _ _ le (by lia)
 ·obtain⟨hc,f',r'⟩:=hI
  have e:min (max (max ok 1) n) n=n:=by lia
  rw [e]at r'
  exact⟨hc,f',r'⟩
 ·obtain⟨hc,f',r'⟩:=hQ
  subst hc
  exact Yz (k z' f' r')
theorem zLe{z:SortSt}{Q:Unit->SortSt->Prop}(L:Asks prog w A s κ kd)(all:KeysOf κ src)(f:Fit src kd z)(h2:2<=src.size)(h64:src.size<64)
  (k:∀ z',(arrOf z').Perm src->failedOf z'=none->SortedToK κ (arrOf z') src.size->Q () z'):wpS (model prog w) A E s sortRuns' Q z:=by
 have em:minRun' src.size src.size 0=src.size:=by
  have g:∀ t,t=src.size->minRun' t src.size 0=src.size:=fun t e=>by
   cases t with
   | zero=>lia
   | succ t=>rw [minRun'_succ,if_pos h64];rfl
  exact g _ rfl
 rw [sortRuns'_eq]
 refine Yb (wpS_get ?_)
 dsimp only
 simp only [f.len,em]
 refine Yb (wpS_mono (wpS_forRange (fun t c z'=>(t=0/\c=(none,0)/\Fit src kd z') ∨ (0<t/\c=(none,src.size)/\(arrOf z').Perm src/\failedOf z'=none/\pendingOf z'=#[(0,src.size,0)]/\SortedToK κ (arrOf z') src.size))
  (Q:=fun c z'=>c=(none,src.size)/\(arrOf z').Perm src/\failedOf z'=none/\pendingOf z'=#[(0,src.size,0)]/\SortedToK κ (arrOf z') src.size)
  (fun t c z' _ lt hI=>?_) (fun c z' hI=>?_) (Or.inl ⟨rfl,rfl,f⟩)) fun c z' hQ=>?_)
 ·rcases hI with⟨ht,hc,f'⟩ | ⟨ht,hc,d1,d2,d3,d4⟩
  ·subst ht hc
   dsimp only
   rw [if_neg (by lia)]
   simp only [Nat.sub_zero,Nat.min_self,YG]
   have close:∀ z3,Fit src kd z3->SortedToK κ (arrOf z3) src.size->(0<0+1/\((none:Option Unit),src.size)=(none,src.size)/\(arrOf (setPending z3 ((pendingOf z3).push (0,src.size,0)))).Perm src/\failedOf (setPending z3 ((pendingOf z3).push (0,src.size,0)))=none /\
     pendingOf (setPending z3 ((pendingOf z3).push (0,src.size,0)))=#[(0,src.size,0)]/\SortedToK κ (arrOf (setPending z3 ((pendingOf z3).push (0,src.size,0)))) src.size):=fun z3 f3 r3=>
    ⟨Nat.zero_lt_succ _,rfl,f3.mix,f3.fine,by show(pendingOf z3).push (0,src.size,0)=_;rw [f3.none];rfl,r3⟩
   refine Yb (zMC L all f' (by lia) (Qh _) fun m z2 f2 g1 g2 r2=>?_)
   dsimp only
   by_cases c:m<src.size
   ·rw [if_pos c]
    refine Yb (wpS_lift (wpAny_rule ⟨rfl,Yb (zMY L all f2 g2 (Qh _) r2 fun z3 f3 r3=>?_)⟩))
    simp only [YQ,Qq,if_false]
    refine Yb (wpS_get ?_)
    have eb:(pendingOf z3).back?=none:=by rw [f3.none];rfl
    rw [eb]
    dsimp only
    exact Yb (wpS_modify (Yz (Or.inr (close z3 f3 r3))))
   ·rw [if_neg c]
    obtain rfl:m=src.size:=by lia
    refine Yb (wpS_get ?_)
    have eb:(pendingOf z2).back?=none:=by rw [f2.none];rfl
    rw [eb]
    dsimp only
    exact Yb (wpS_modify (Yz (Or.inr (close z2 f2 r2))))
  ·subst hc
   dsimp only
   rw [if_pos (Qh _)]
   exact Yz ⟨rfl,d1,d2,d3,d4⟩
 ·rcases hI with⟨ht,_⟩ | ⟨_,d⟩
  ·lia
  ·exact d
 ·obtain⟨hc,d1,d2,d3,d4⟩:=hQ
  subst hc
  dsimp only
  refine Yb (wpS_mono (wpS_forRange (fun _ c z2=>z2=z'/\c=(none,())) (Q:=fun c z2=>z2=z'/\c=(none,())) (fun t c z2 _ _ hJ=>?_) (fun _ _ hJ=>hJ) ⟨rfl,rfl⟩) fun c z2 hJ=>?_)
  ·obtain⟨hz,hc⟩:=hJ
   subst hz hc
   refine Yb (wpS_get ?_)
   rw [if_pos (by rw [d3];exact Qh 1)]
   exact Yz ⟨rfl,rfl⟩
  ·obtain⟨hz,hc⟩:=hJ
   subst hz hc
   exact Yz (k _ d1 d2 d4)
theorem zPV{a:Addr}{vs:List Value}{n:Nat}{P:Fin->Shared->Prop}(ho:s.heap.get? a=some (seqObj "list" vs.toArray n))(all:KeysOf κ (pairsOf vs))(h64:vs.length<64)
  (kind:∀ h',(∀ b o,b≠a->s.heap.get? b=some o->h'.get? b=some o)->2<=vs.length->wpAny (model prog w) A (keyKind' vs.toArray) (fun q s'=>q=kd/\s'={ s with heap:=h' }) E { s with heap:=h' })
  (L:∀ h',(∀ b o,b≠a->s.heap.get? b=some o->h'.get? b=some o)->Asks prog w A { s with heap:=h' } κ kd)
  (k:∀ z':SortSt,(arrOf z').Perm (pairsOf vs)->SortedToK κ (arrOf z') (pairsOf vs).size->P (.done (.ret .none)) { s with heap:=sortedHeap s.heap a vs ((arrOf z').map (·.2)) }):
  wpAny (model prog w) A (Builtin.«list.sort» ⟨[.ref a],[]⟩) P E s:=by
 have ha:a<s.heap.objs.size:=Qk ho
 have hl:vs.toArray.size=vs.length:=by simp
 rw [list_sort_plain]
 refine Qa (listItems_at ho rfl (Qa (listUpdate_at ho rfl ?_)))
 obtain⟨t,h1⟩:∃ t,(s.heap.update a (Obj.mapSeq fun _=>#[])).get? a=some (seqObj "list" #[] t):=⟨_,get?_update_seq ho fun _=>#[]⟩
 refine Qa (seqEpoch_at h1 rfl (Qa (wpAny_newTuple (Qa (wpAny_newList (Yf ?_))))))
 show wpAny (model prog w) A _ P E { s with heap:=((s.heap.update a (Obj.mapSeq fun _=>#[])).push (seqObj "tuple" vs.toArray 0)).push (seqObj "list" #[] 0) }
 have keep:∀ b o,b≠a->s.heap.get? b=some o->(((s.heap.update a (Obj.mapSeq fun _=>#[])).push (seqObj "tuple" vs.toArray 0)).push (seqObj "list" #[] 0)).get? b=some o:=fun b o nb e=>
  Qc _ (Qc _ (by rw [Heap.get?_update_ne _ _ _ _ nb];exact e))
 have h6:(((s.heap.update a (Obj.mapSeq fun _=>#[])).push (seqObj "tuple" vs.toArray 0)).push (seqObj "list" #[] 0)).get? a=some (seqObj "list" #[] t):=Qc _ (Qc _ h1)
 dsimp only
 by_cases c:vs.toArray.size<2
 ·rw [if_pos c,if_pos c]
  refine Qa (Qb ?_)
  rw [StateT.run_pure]
  refine Qa (Qb (Qa (seqEpoch_at h6 rfl (Qa (listUpdate_at h6 rfl ?_ (hsz2:=by
   rw [Y5];show(pairsOf vs).size<=_;rw [JA,Yq];lia))))))
  simp only [bne_self_eq_false,Qq,if_false]
  refine Qb (k (SortSt.mk' general' (vs.toArray.zip vs.toArray) #[] 7 none) (Array.Perm.refl _) fun i j le lt=>?_)
  obtain rfl:i=j:=by rw [JA]at lt;lia
  exact YB _
 ·rw [if_neg c,if_neg c]
  refine Qa (YU (kind _ keep (by lia)) (fun q s' hq=>?_) fun _ _ e=>e)
  obtain⟨rfl,rfl⟩:=hq
  refine Qa (YU (zLe (src:=pairsOf vs) (z:=SortSt.mk' q (vs.toArray.zip vs.toArray) #[] 7 none)
   (Q:=fun _ z'=>(arrOf z').Perm (pairsOf vs)/\failedOf z'=none/\SortedToK κ (arrOf z') (pairsOf vs).size)
   (L _ keep) all ⟨Array.Perm.refl _,rfl,rfl,rfl⟩ (by rw [JA];lia) (by rw [JA];exact h64) fun z' d1 d2 d3=>⟨d1,d2,d3⟩) (fun rz s' hq=>?_) fun _ _ e=>e)
  obtain⟨⟨⟩,z'⟩:=rz
  obtain⟨rfl,d1,d2,d3⟩:=hq
  dsimp only at d1 d2 d3 ⊢
  refine Qa (seqEpoch_at h6 rfl (Qa (listUpdate_at h6 rfl ?_ (hsz2:=by
   refine Ql (Nat.le_of_eq ((Y5 ..).trans (d1.size_eq.trans (JA _)))) ?_
   rw [Yq];lia))))
  rw [d2]
  simp only [bne_self_eq_false,Qq,if_false]
  exact Qb (k z' d1 d3)
end
end SG
namespace DL
open PySem PySem.Spec PyProof.Rows L2
abbrev D:=PyData
def FzL(K:PySem.W.Frag)(F:Addr->Prop)(H:Hp)(a:Addr)(vs:List V):Prop:=(F a/\Rd H a (.lst vs)) ∨ SqL K (fun _=>none) a vs
theorem FzL.sq{K:PySem.W.Frag}{F:Addr->Prop}{H:Hp}{a:Addr}{vs:List V}(h:FzL K F H a vs):SqL K H a vs:=by
 rcases h with⟨_,h⟩ | (h | ⟨o,h⟩) | h
 ·exact .inl h
 ·cases h
 ·cases h
 ·exact .inr h
abbrev DKey:=Sum (List Int) (List (List Int))
def encT(ks:List Int):D:=.tuple (ks.map .int)
def encK:DKey->D
 | .inl ks=>encT ks
 | .inr kss=>.tuple (kss.map encT)
def zIO(ks:List Int):Int:=reduceHash (Builtin.Tuple.tupleHashOf (ks.map hashInt))
def zIN:DKey->Int
 | .inl ks=>zIO ks
 | .inr kss=>reduceHash (Builtin.Tuple.tupleHashOf (kss.map zIO))
def zCr(K:PySem.W.Frag)(H:Hp)(k:DKey)(b:Addr):Prop:=match k with
 | .inl ks=>SqT K H b (ks.map V.int)
 | .inr kss=>kss≠[]/\∃ bs:List Addr,SqT K H b (bs.map V.ref)/\Paired (fun(ks:List Int) (b:Addr)=>SqT K H b (ks.map V.int)) kss bs
def DctO(a:Addr)(es:List (DKey × Addr × V))(ep:Nat):HO:=.ext fun h=>(a == sysModules)=false/\∃ o raw,h.get? a=some o/\o.ExactDict/\o.data=.dict raw ep/\Paired (fun(e:DKey × Addr × V) (r:DictEntry)=>r.hash=zIN e.1/\r.key=.ref e.2.1/\RelV e.2.2 r.val) es raw.toList
def ExcO(a C:Addr):HO:=.ext fun h=>∃ o,h.get? a=some o/\o.cls=.ref C
def excD(x:Str):D:=.dict [(.none,.str x)]
def LstO(a:Addr)(vs:List V):HO:=.ext fun h=>vs.length<=sizeLine/\∃(its:List Value) (n:Nat),Vals vs its/\h.get? a=some { cls:=.type "list",data:=.seq its.toArray n }
mutual
inductive Rep(K:PySem.W.Frag)(F:Addr->Prop)(H:Hp):D->V->Prop
 | non:Rep K F H .none .non
 | bl (b:Bool):Rep K F H (.bool b) (.bl b)
 | int (i:Int):Rep K F H (.int i) (.int i)
 | str (x:Str):Rep K F H (.str x) (.str x)
 | tup {a:Addr}{vs:List V}{ds:List D}:SqT K H a vs->Reps K F H ds vs->Rep K F H (.tuple ds) (.ref a)
 | lst {a:Addr}{vs:List V}{ds:List D}:FzL K F H a vs->Reps K F H ds vs->Rep K F H (.list ds) (.ref a)
 | dct {a:Addr}{es:List (DKey × Addr × V)}{kvs:List (D × D)}{ep:Nat}:F a->H a=some (DctO a es ep)->(es.map (·.1)).Nodup->es.length<=1000->DReps K F H kvs es->Rep K F H (.dict kvs) (.ref a)
 | exn {a C:Addr}{x:Str}:F a->H a=some (ExcO a C)->PySem.W.nsIn K mainGlobals x=some (some (.ref C))->Rep K F H (excD x) (.ref a)
inductive DReps(K:PySem.W.Frag)(F:Addr->Prop)(H:Hp):List (D × D)->List (DKey × Addr × V)->Prop
 | nil:DReps K F H [] []
 | cons {k:DKey}{b:Addr}{d:D}{v:V}{kvs:List (D × D)}{es:List (DKey × Addr × V)}:zCr K H k b->Rep K F H d v->DReps K F H kvs es->DReps K F H ((encK k,d)::kvs) ((k,b,v)::es)
inductive Reps(K:PySem.W.Frag)(F:Addr->Prop)(H:Hp):List D->List V->Prop
 | nil:Reps K F H [] []
 | cons {d:D}{v:V}{ds:List D}{vs:List V}:Rep K F H d v->Reps K F H ds vs->Reps K F H (d::ds) (v::vs)
end
structure Stay(K:PySem.W.Frag)(F F':Addr->Prop)(H H':Hp):Prop where
 up:∀ a,F a->F' a
 tp:∀ a xs,SqT K H a xs->SqT K H' a xs
 ls:∀ a xs,F a->Rd H a (.lst xs)->Rd H' a (.lst xs)
 xt:∀ a φ,F a->H a=some (.ext φ)->H' a=some (.ext φ)
theorem zCr.stay{K:PySem.W.Frag}{F F':Addr->Prop}{H H':Hp}(S:Stay K F F' H H'){k:DKey}{b:Addr}(h:zCr K H k b):zCr K H' k b:=by
 cases k with
 | inl ks=>exact S.tp _ _ h
 | inr kss=>obtain⟨n,bs,h1,h2⟩:=h;exact⟨n,bs,S.tp _ _ h1,Paired.mapP h2 fun _ _ z=>S.tp _ _ z⟩
theorem FzL.stay{K:PySem.W.Frag}{F F':Addr->Prop}{H H':Hp}(S:Stay K F F' H H'){a:Addr}{vs:List V}(h:FzL K F H a vs):FzL K F' H' a vs:=by
 rcases h with⟨f,h⟩ | h
 ·exact .inl ⟨S.up a f,S.ls a vs f h⟩
 ·exact .inr h
mutual
theorem Rep.stay{K:PySem.W.Frag}{F F':Addr->Prop}{H H':Hp}(S:Stay K F F' H H'){d:D}{v:V}(h:Rep K F H d v):Rep K F' H' d v:=by
 cases h with
 | non=>exact .non
 | bl b=>exact .bl b
 | int i=>exact .int i
 | str x=>exact .str x
 | tup h r=>exact .tup (S.tp _ _ h) (Reps.stay S r)
 | lst h r=>exact .lst (h.stay S) (Reps.stay S r)
 | dct f h n l r=>exact .dct (S.up _ f) (S.xt _ _ f h) n l (DReps.stay S r)
 | exn f h n=>exact .exn (S.up _ f) (S.xt _ _ f h) n
theorem DReps.stay{K:PySem.W.Frag}{F F':Addr->Prop}{H H':Hp}(S:Stay K F F' H H'){kvs:List (D × D)}{es:List (DKey × Addr × V)}(h:DReps K F H kvs es):DReps K F' H' kvs es:=by
 cases h with
 | nil=>exact .nil
 | cons h r t=>exact .cons (h.stay S) (Rep.stay S r) (DReps.stay S t)
theorem Reps.stay{K:PySem.W.Frag}{F F':Addr->Prop}{H H':Hp}(S:Stay K F F' H H'){ds:List D}{vs:List V}(h:Reps K F H ds vs):Reps K F' H' ds vs:=by
 cases h with
 | nil=>exact .nil
 | cons h r=>exact .cons (Rep.stay S h) (Reps.stay S r)
end
theorem Reps.length{K:PySem.W.Frag}{F:Addr->Prop}{H:Hp}:∀{ds:List D}{vs:List V},Reps K F H ds vs->ds.length=vs.length
 | _,_,.nil=>rfl
 | _,_,.cons _ r=>by simp [Reps.length r]
theorem Reps.get{K:PySem.W.Frag}{F:Addr->Prop}{H:Hp}:∀{ds:List D}{vs:List V}{i:Nat}{d:D},Reps K F H ds vs->ds[i]?=some d->∃ v,vs[i]?=some v/\Rep K F H d v
 | _,_,_,_,.nil,e=>by simp at e
 | _,_,0,_,.cons h _,e=>by simp at e;subst e;exact⟨_,rfl,h⟩
 | _,_,i+1,d,.cons _ r,e=>by
  obtain⟨v,h1,h2⟩:=Reps.get (i:=i) (d:=d) r (by simpa using e)
  exact⟨v,by simpa using h1,h2⟩
theorem Reps.append{K:PySem.W.Frag}{F:Addr->Prop}{H:Hp}:∀{ds es:List D}{vs us:List V},Reps K F H ds vs->Reps K F H es us->Reps K F H (ds++es) (vs++us)
 | _,_,_,_,.nil,s=>s
 | _,_,_,_,.cons h r,s=>.cons h (Reps.append r s)
theorem Reps.take{K:PySem.W.Frag}{F:Addr->Prop}{H:Hp}:∀{ds:List D}{vs:List V} (n:Nat),Reps K F H ds vs->Reps K F H (ds.take n) (vs.take n)
 | _,_,0,_=>.nil
 | _,_,_+1,.nil=>.nil
 | _,_,n+1,.cons h r=>.cons h (Reps.take n r)
theorem Reps.drop{K:PySem.W.Frag}{F:Addr->Prop}{H:Hp}:∀{ds:List D}{vs:List V} (n:Nat),Reps K F H ds vs->Reps K F H (ds.drop n) (vs.drop n)
 | _,_,0,r=>r
 | _,_,_+1,.nil=>.nil
 | _,_,n+1,.cons _ r=>Reps.drop n r
structure Ext(F F':Addr->Prop)(H H':Hp):Prop where
 same:Same H H'
 up:∀ a,F a->F' a
 new:∀ a,F' a->F a ∨ (H a=none/\H' a≠none)
theorem Ext.refl(F:Addr->Prop)(H:Hp):Ext F F H H:=⟨Same.refl H,fun _ h=>h,fun _ h=>.inl h⟩
theorem Ext.trans{F F1 F2:Addr->Prop}{H H1 H2:Hp}(a:Ext F F1 H H1)(b:Ext F1 F2 H1 H2):Ext F F2 H H2:=
 ⟨a.same.trans b.same,fun x h=>b.up x (a.up x h),fun x h=>by
  rcases b.new x h with h1 | ⟨h1,h2⟩
  ·rcases a.new x h1 with h3 | ⟨h3,h4⟩
   ·exact .inl h3
   ·refine .inr ⟨h3,fun z=>h4 (b.same.free z)⟩
  ·exact .inr ⟨a.same.free h1,h2⟩⟩
theorem Same.sqT{K:PySem.W.Frag}{H H':Hp}{a:Addr}{xs:List V}(e:Same H H')(h:SqT K H a xs):SqT K H' a xs:=by
 rcases h with(h | ⟨o,h⟩) | h
 ·exact .inl (.inl (e _ _ h))
 ·exact .inl (.inr ⟨o,e _ _ h⟩)
 ·exact .inr h
theorem Same.rd{H H':Hp}{a:Addr}{u:HO}(e:Same H H')(h:Rd H a u):Rd H' a u:=by
 rcases h with h | ⟨o,h⟩
 ·exact .inl (e _ _ h)
 ·exact .inr ⟨o,e _ _ h⟩
theorem Ext.stay{K:PySem.W.Frag}{F F':Addr->Prop}{H H':Hp}(e:Ext F F' H H'):Stay K F F' H H':=
 ⟨e.up,fun _ _ h=>Same.sqT e.same h,fun _ _ _ h=>Same.rd e.same h,fun _ _ _ h=>e.same _ _ h⟩
theorem zKh{H:Hp}{p:Addr}{o:HO}(hp:H p=none):Same H (upd H p o):=fun b u e=>by
 rw [zAs (zBj e hp)];exact e
theorem Ext.fresh{F:Addr->Prop}{H:Hp}{p:Addr}{o:HO}(hp:H p=none):Ext F F H (upd H p o):=⟨zKh hp,fun _ h=>h,fun _ h=>.inl h⟩
theorem Ext.frozen{F:Addr->Prop}{H:Hp}{p:Addr}{o:HO}(hp:H p=none):Ext F (fun a=>F a ∨ a=p) H (upd H p o):=
 ⟨zKh hp,fun _ h=>.inl h,fun a h=>h.elim .inl fun e=>.inr (by subst e;exact⟨hp,by rw [zBm];simp⟩)⟩
theorem Rep.newTup{K:PySem.W.Frag}{F:Addr->Prop}{H:Hp}{p:Addr}{vs:List V}{ds:List D}(hp:H p=none)(r:Reps K F H ds vs):Rep K F (upd H p (.tup vs)) (.tuple ds) (.ref p):=
 .tup (.inl (.inl zBm)) (r.stay (Ext.fresh hp).stay)
theorem Rep.newLst{K:PySem.W.Frag}{F:Addr->Prop}{H:Hp}{p:Addr}{vs:List V}{ds:List D}(hp:H p=none)(r:Reps K F H ds vs):Rep K (fun a=>F a ∨ a=p) (upd H p (.lst vs)) (.list ds) (.ref p):=
 .lst (.inl ⟨.inr rfl,.inl zBm⟩) (r.stay (Ext.frozen hp).stay)
inductive Sl where
 | no
 | dat (d:D)
 | own (ds:List D)
 | ownD (kvs:List (D × D))
 | ownM (kvs:List (List Int × List D))
structure Q4 where
 k:List Int
 b:Addr
 c:Addr
 vs:List V
def Q4.ent(q:Q4):DKey × Addr × V:=(.inl q.k,q.b,.ref q.c)
structure MEnt(K:PySem.W.Frag)(F:Addr->Prop)(H H₀:Hp)(kv:List Int × List D)(q:Q4):Prop where
 key:kv.1=q.k
 sq:SqT K H q.b (q.k.map V.int)
 hc:H q.c=some (LstO q.c q.vs)
 nf:¬ F q.c
 h0:H₀ q.c=none
 rs:Reps K F H kv.2 q.vs
structure zD6(K:PySem.W.Frag)(F:Addr->Prop)(H H₀:Hp)(kvs:List (List Int × List D))(a:Addr)(qs:List Q4)(ep:Nat):Prop where
 hd:H a=some (DctO a (qs.map Q4.ent) ep)
 nf:¬ F a
 h0:H₀ a=none
 nd:(qs.map (·.k)).Nodup
 ln:qs.length<=1000
 nv:(qs.map (·.c)).Nodup
 na:a∉qs.map (·.c)
 ps:Paired (MEnt K F H H₀) kvs qs
def SlOk(K:PySem.W.Frag)(F:Addr->Prop)(H H₀:Hp):Option V->Sl->Prop
 | _,.no=>True
 | o,.dat d=>∃ v,o=some v/\Rep K F H d v
 | o,.own ds=>∃ a vs,o=some (.ref a)/\H a=some (.lst vs)/\¬ F a/\H₀ a=none/\Reps K F H ds vs
 | o,.ownD kvs=>∃ a es ep,o=some (.ref a)/\H a=some (DctO a es ep)/\¬ F a/\H₀ a=none/\(es.map (·.1)).Nodup/\es.length<=1000/\DReps K F H kvs es
 | o,.ownM kvs=>∃ a es ep,o=some (.ref a)/\zD6 K F H H₀ kvs a es ep
structure StOk(K:PySem.W.Frag)(F:Addr->Prop)(H H₀:Hp)(σ:L2.St)(ρ:List Sl):Prop where
 len:σ.length=ρ.length
 sl:∀(i:Nat) (s:Sl),ρ[i]?=some s->∃ o,σ[i]?=some o/\SlOk K F H H₀ o s
 sep:∀(i j:Nat) (a:Addr) (ds es:List D),i≠j->ρ[i]?=some (.own ds)->ρ[j]?=some (.own es)->σ[i]?=some (some (.ref a))->σ[j]?≠some (some (.ref a))
 fz:∀ a,F a->H a≠none
theorem zD6.to{K:PySem.W.Frag}{F F':Addr->Prop}{H H' H₀:Hp}{kvs:List (List Int × List D)}{a:Addr}{es:List Q4}{ep:Nat}(m:zD6 K F H H₀ kvs a es ep)(T:Stay K F F' H H')
  (k:∀ b φ,H b=some (.ext φ)->¬ F b->H' b=some (.ext φ)/\¬ F' b):zD6 K F' H' H₀ kvs a es ep:=
 ⟨(k _ _ m.hd m.nf).1,(k _ _ m.hd m.nf).2,m.h0,m.nd,m.ln,m.nv,m.na,Paired.mapP m.ps fun _ _ q=>⟨q.key,T.tp _ _ q.sq,(k _ _ q.hc q.nf).1,(k _ _ q.hc q.nf).2,q.h0,q.rs.stay T⟩⟩
theorem SlOk.ext{K:PySem.W.Frag}{F F':Addr->Prop}{H H' H₀:Hp}(e:Ext F F' H H'){o:Option V}{s:Sl}(h:SlOk K F H H₀ o s):SlOk K F' H' H₀ o s:=by
 cases s with
 | no=>trivial
 | ownM kvs=>
  obtain⟨a,es,ep,q,m⟩:=h
  refine⟨a,es,ep,q,m.to e.stay fun b φ hb nf=>⟨e.same _ _ hb,fun f=>?_⟩⟩
  rcases e.new b f with f | ⟨f,_⟩
  ·exact nf f
  ·rw [hb]at f;cases f
 | ownD kvs=>
  obtain⟨a,es,ep,q,ha,nf,h0,n,l,r⟩:=h
  refine⟨a,es,ep,q,e.same _ _ ha,fun f=>?_,h0,n,l,r.stay e.stay⟩
  rcases e.new a f with f | ⟨f,_⟩
  ·exact nf f
  ·rw [ha]at f;cases f
 | dat d=>obtain⟨v,q,r⟩:=h;exact⟨v,q,r.stay e.stay⟩
 | own ds=>
  obtain⟨a,vs,q,ha,nf,h0,r⟩:=h
  refine⟨a,vs,q,e.same _ _ ha,fun f=>?_,h0,r.stay e.stay⟩
  rcases e.new a f with f | ⟨f,_⟩
  ·exact nf f
  ·rw [ha]at f;cases f
theorem Ext.fz{F F':Addr->Prop}{H H':Hp}(e:Ext F F' H H')(z:∀ a,F a->H a≠none):∀ a,F' a->H' a≠none:=fun a f q=>by
 rcases e.new a f with f | ⟨_,f⟩
 ·exact z a f (e.same.free q)
 ·exact f q
theorem StOk.ext{K:PySem.W.Frag}{F F':Addr->Prop}{H H' H₀:Hp}{σ:L2.St}{ρ:List Sl}(S:StOk K F H H₀ σ ρ)(e:Ext F F' H H'):StOk K F' H' H₀ σ ρ:=
 ⟨S.len,fun i s h=>let⟨o,q,r⟩:=S.sl i s h;⟨o,q,r.ext e⟩,S.sep,e.fz S.fz⟩
theorem StOk.dat{K:PySem.W.Frag}{F:Addr->Prop}{H H₀:Hp}{σ:L2.St}{ρ:List Sl}(S:StOk K F H H₀ σ ρ){i:Nat}{d:D}(h:ρ[i]?=some (.dat d)):∃ v,σ[i]?=some (some v)/\Rep K F H d v:=by
 obtain⟨o,q,v,e,r⟩:=S.sl i _ h
 exact⟨v,by rw [q,e],r⟩
theorem StOk.ownD{K:PySem.W.Frag}{F:Addr->Prop}{H H₀:Hp}{σ:L2.St}{ρ:List Sl}(S:StOk K F H H₀ σ ρ){i:Nat}{kvs:List (D × D)}(h:ρ[i]?=some (.ownD kvs)):
  ∃ a es ep,σ[i]?=some (some (.ref a))/\H a=some (DctO a es ep)/\¬ F a/\H₀ a=none/\(es.map (·.1)).Nodup/\es.length<=1000/\DReps K F H kvs es:=by
 obtain⟨o,q,a,es,ep,e,r⟩:=S.sl i _ h
 exact⟨a,es,ep,by rw [q,e],r⟩
theorem StOk.own{K:PySem.W.Frag}{F:Addr->Prop}{H H₀:Hp}{σ:L2.St}{ρ:List Sl}(S:StOk K F H H₀ σ ρ){i:Nat}{ds:List D}(h:ρ[i]?=some (.own ds)):
  ∃ a vs,σ[i]?=some (some (.ref a))/\H a=some (.lst vs)/\¬ F a/\H₀ a=none/\Reps K F H ds vs:=by
 obtain⟨o,q,a,vs,e,r⟩:=S.sl i _ h
 exact⟨a,vs,by rw [q,e],r⟩
theorem StOk.put{K:PySem.W.Frag}{F:Addr->Prop}{H H₀:Hp}{σ:L2.St}{ρ:List Sl}(S:StOk K F H H₀ σ ρ){i:Nat}{d:D}{v:V}(r:Rep K F H d v):StOk K F H H₀ (σ.set i (some v)) (ρ.set i (.dat d)):=by
 refine⟨by simp [S.len],fun j s h=>?_,fun j k a ds es hjk h1 h2 h3=>?_,S.fz⟩
 ·by_cases hij:i=j
  ·subst hij
   have hl:i<ρ.length:=by
    have:=Qf.mp h
    simpa using this.1
   rw [QT hl]at h
   cases h
   exact⟨some v,by rw [QT (by rw [S.len];exact hl)],v,rfl,r⟩
  ·rw [QS hij]at h
   obtain⟨o,q,w⟩:=S.sl j s h
   exact⟨o,by rw [QS hij];exact q,w⟩
 ·have nj:i≠j:=by
   intro e;subst e
   have hl:i<ρ.length:=by
    have:=Qf.mp h1
    simpa using this.1
   rw [QT hl]at h1;cases h1
  have nk:i≠k:=by
   intro e;subst e
   have hl:i<ρ.length:=by
    have:=Qf.mp h2
    simpa using this.1
   rw [QT hl]at h2;cases h2
  rw [QS nj]at h1 h3
  rw [QS nk]at h2 ⊢
  exact S.sep j k a ds es hjk h1 h2 h3
theorem StOk.putOwn{K:PySem.W.Frag}{F:Addr->Prop}{H H₀:Hp}{σ:L2.St}{ρ:List Sl}(S:StOk K F H H₀ σ ρ){i:Nat}{ds:List D}{vs:List V}{p:Addr}(hp:H p=none)(h0:H₀ p=none)(r:Reps K F H ds vs):
  StOk K F (upd H p (.lst vs)) H₀ (σ.set i (some (.ref p))) (ρ.set i (.own ds)):=by
 have e:Ext F F H (upd H p (.lst vs)):=Ext.fresh hp
 have S':=S.ext e
 have hf:¬ F p:=fun f=>S.fz p f hp
 refine⟨by simp [S.len],fun j s h=>?_,fun j k a ds' es hjk h1 h2 h3 h4=>?_,S'.fz⟩
 ·by_cases hij:i=j
  ·subst hij
   have hl:i<ρ.length:=by
    have:=Qf.mp h
    simpa using this.1
   rw [QT hl]at h
   cases h
   exact⟨some (.ref p),by rw [QT (by rw [S.len];exact hl)],p,vs,rfl,zBm,hf,h0,r.stay e.stay⟩
  ·rw [QS hij]at h
   obtain⟨o,q,w⟩:=S'.sl j s h
   exact⟨o,by rw [QS hij];exact q,w⟩
 ·have old:∀(m:Nat) (a:Addr) (es:List D),i≠m->(ρ.set i (.own ds))[m]?=some (.own es)->(σ.set i (some (.ref p)))[m]?=some (some (.ref a))->a≠p:=fun m a es nm g1 g2 z=>by
   rw [QS nm]at g1 g2
   obtain⟨b,us,q1,q2,_⟩:=S.own g1
   rw [q1]at g2;cases g2
   subst z
   rw [hp]at q2;cases q2
  by_cases hij:i=j
  ·subst hij
   have hik:i≠k:=hjk
   have hl:i<ρ.length:=by
    have:=Qf.mp h1
    simpa using this.1
   rw [QT (by rw [S.len];exact hl)]at h3
   cases h3
   exact old k p es hik h2 h4 rfl
  ·by_cases hik:i=k
   ·subst hik
    have hl:i<ρ.length:=by
     have:=Qf.mp h2
     simpa using this.1
    rw [QT (by rw [S.len];exact hl)]at h4
    cases h4
    exact old j p ds' hij h1 h3 rfl
   ·rw [QS hij]at h1 h3
    rw [QS hik]at h2 h4
    exact S.sep j k a ds' es hjk h1 h2 h3 h4
theorem StOk.turn{K:PySem.W.Frag}{F:Addr->Prop}{H H₀:Hp}{σ:L2.St}{ρ:List Sl}(S:StOk K F H H₀ σ ρ){i:Nat}{ds es:List D}{vs us:List V}{p:Addr}(hi:ρ[i]?=some (.own ds))(hs:σ[i]?=some (some (.ref p)))
  (hp:H p=some (.lst vs)) (hf:¬ F p) (r:Reps K F H es us):StOk K F (upd H p (.lst us)) H₀ σ (ρ.set i (.own es))/\Stay K F F H (upd H p (.lst us)):=by
 have T:Stay K F F H (upd H p (.lst us)):=⟨fun _ h=>h,fun a xs h=>by
   rcases h with(h | ⟨o,h⟩) | h
   ·exact .inl (.inl (by rw [zAs (by intro z;subst z;rw [hp]at h;cases h)];exact h))
   ·exact .inl (.inr ⟨o,by rw [zAs (by intro z;subst z;rw [hp]at h;cases h)];exact h⟩)
   ·exact .inr h,fun a xs f h=>by
   have na:a≠p:=fun z=>hf (z ▸ f)
   rcases h with h | ⟨o,h⟩
   ·exact .inl (by rw [zAs na];exact h)
   ·exact .inr ⟨o,by rw [zAs na];exact h⟩,fun a φ f h=>by rw [zAs (fun z=>hf (by rw [<- z];exact f))];exact h⟩
 refine⟨⟨by simp [S.len],fun j s h=>?_,fun j k a ds' es' hjk h1 h2 h3=>?_,fun a f z=>S.fz a f (by
  have na:a≠p:=fun y=>hf (by rw [<- y];exact f)
  rwa [zAs na]at z)⟩,T⟩
 ·by_cases hij:i=j
  ·subst hij
   have hl:i<ρ.length:=(Qf.mp hi).1
   rw [QT hl]at h
   cases h
   obtain⟨a,ws,q1,_,_,q4,_⟩:=S.own hi
   rw [hs]at q1;cases q1
   exact⟨_,hs,p,us,rfl,zBm,hf,q4,r.stay T⟩
  ·rw [QS hij]at h
   obtain⟨o,q,w⟩:=S.sl j s h
   refine⟨o,q,?_⟩
   cases s with
   | no=>trivial
   | ownM kvs=>
    obtain⟨a,es',ep,q',m⟩:=w
    exact⟨a,es',ep,q',m.to T fun b φ hb nf=>⟨by rw [zAs (by intro z;subst z;rw [hp]at hb;cases hb)];exact hb,nf⟩⟩
   | ownD kvs=>
    obtain⟨a,es',ep,q',ha,nf,h0,n,l,r'⟩:=w
    exact⟨a,es',ep,q',by rw [zAs (by intro z;subst z;rw [hp]at ha;cases ha)];exact ha,nf,h0,n,l,r'.stay T⟩
   | dat d=>obtain⟨v,q',r'⟩:=w;exact⟨v,q',r'.stay T⟩
   | own ds'=>
    obtain⟨a,ws,q',ha,nf,h0,r'⟩:=w
    have na:a≠p:=by
     intro z;subst z
     exact S.sep i j a ds ds' hij hi h hs (by rw [q,q'])
    exact⟨a,ws,q',by rw [zAs na];exact ha,nf,h0,r'.stay T⟩
 ·have get:∀(m:Nat) (es':List D),(ρ.set i (.own es))[m]?=some (.own es')->∃ ds'':List D,ρ[m]?=some (.own ds''):=fun m es' g=>by
   by_cases him:i=m
   ·subst him;exact⟨ds,hi⟩
   ·rw [QS him]at g;exact⟨es',g⟩
  obtain⟨d1,g1⟩:=get j ds' h1
  obtain⟨d2,g2⟩:=get k es' h2
  exact S.sep j k a d1 d2 hjk g1 g2 h3
def frz:Sl->Sl
 | .own ds=>.dat (.list ds)
 | .ownD kvs=>.dat (.dict kvs)
 | .ownM _=>.no
 | s=>s
def Own(σ:L2.St)(ρ:List Sl)(a:Addr):Prop:=(∃(i:Nat) (ds:List D),ρ[i]?=some (.own ds)/\σ[i]?=some (some (.ref a))) ∨ ∃(i:Nat) (kvs:List (D × D)),ρ[i]?=some (.ownD kvs)/\σ[i]?=some (some (.ref a))
theorem StOk.frz{K:PySem.W.Frag}{F:Addr->Prop}{H H₀:Hp}{σ:L2.St}{ρ:List Sl}(S:StOk K F H H₀ σ ρ):StOk K (fun a=>F a ∨ Own σ ρ a) H H₀ σ (ρ.map frz):=by
 have T:Stay K F (fun a=>F a ∨ Own σ ρ a) H H:=⟨fun _ h=>.inl h,fun _ _ h=>h,fun _ _ _ h=>h,fun _ _ _ h=>h⟩
 refine⟨by simp [S.len],fun j s h=>?_,fun j k a ds es _ h1=>?_,fun a f=>?_⟩
 ·rw [QM]at h
  cases e:ρ[j]? with
  | none=>rw [e]at h;cases h
  | some s'=>
   rw [e]at h
   obtain⟨o,q,w⟩:=S.sl j s' e
   refine⟨o,q,?_⟩
   cases s' with
   | no=>cases h;trivial
   | ownM kvs=>cases h;trivial
   | ownD kvs=>
    cases h
    obtain⟨a,es,ep,q',ha,nf,h0,n,l,r⟩:=w
    exact⟨.ref a,q',.dct (.inr (.inr ⟨j,kvs,e,by rw [q,q']⟩)) ha n l (r.stay T)⟩
   | dat d=>cases h;obtain⟨v,q',r⟩:=w;exact⟨v,q',r.stay T⟩
   | own ds=>
    cases h
    obtain⟨a,vs,q',ha,nf,h0,r⟩:=w
    exact⟨.ref a,q',.lst (.inl ⟨.inr (.inl ⟨j,ds,e,by rw [q,q']⟩),.inl ha⟩) (r.stay T)⟩
 ·rw [QM]at h1
  cases e:ρ[j]? with
  | none=>rw [e]at h1;cases h1
  | some s'=>rw [e]at h1;cases s' <;> cases h1
 ·rcases f with f | ⟨i,ds,q1,q2⟩ | ⟨i,kvs,q1,q2⟩
  ·exact S.fz a f
  ·obtain⟨b,vs,g1,g2,_⟩:=S.own q1
   rw [g1]at q2;cases q2
   rw [g2];simp
  ·obtain⟨b,vs,ep,g1,g2,_⟩:=S.ownD q1
   rw [g1]at q2;cases q2
   rw [g2];simp
end DL
namespace DL
open PySem PySem.Spec PyProof.Rows L2
abbrev Rho:=List Sl
section
variable {X:Cx}
theorem zAQ{e:Expr}{t t':TE}(h:PE X e t)(m:∀ σ H Q,t' σ H Q->t σ H Q):PE X e t':=fun pins s σ H Q I q=>h pins s σ H Q I (m σ H Q q)
theorem zGC{e:Expr}{t t':TT}(h:PT X e t)(m:∀ σ H Q,t' σ H Q->t σ H Q):PT X e t':=fun pins s σ H Q I q=>h pins s σ H Q I (m σ H Q q)
theorem zJ5{e:Expr}{t t':TT}(h:PW X e t)(m:∀ σ H Q,t' σ H Q->t σ H Q):PW X e t':=fun wh pins s σ H Q I q=>h wh pins s σ H Q I (m σ H Q q)
theorem zJM{es:List Expr}{t t':TA}(h:PA X es t)(m:∀ σ H Q,t' σ H Q->t σ H Q):PA X es t':=fun pos pins s σ H Q I q=>h pos pins s σ H Q I (m σ H Q q)
theorem ps_mono{e:Stmt}{t t':TS}(h:PS X e t)(m:∀ W σ H,t' W σ H->t W σ H):PS X e t':=fun pins s σ H W I q=>h pins s σ H W I (m W σ H q)
theorem zJ4{e:List Stmt}{t t':TS}(h:PSs X e t)(m:∀ W σ H,t' W σ H->t W σ H):PSs X e t':=fun pins s σ H W I q=>h pins s σ H W I (m W σ H q)
theorem zDT{f:Value->Value->Sem Value}{r r':R2}(h:OpR X f r)(m:∀ x y H Q,r' x y H Q->r x y H Q):OpR X f r':=fun pins s σ H x y v u Q I rx ry q=>h pins s σ H x y v u Q I rx ry (m x y H Q q)
theorem zQr{f:Value->Sem Value}{r r':V->Hp->VK->Prop}(h:UnR X f r)(m:∀ x H Q,r' x H Q->r x H Q):UnR X f r':=fun pins s σ H x v Q I rx q=>h pins s σ H x v Q I rx (m x H Q q)
theorem zB4{f:Value}{r r':List V->Hp->VK->Prop}(h:zAF X f r)(m:∀ x H Q,r' x H Q->r x H Q):zAF X f r':=fun pins s σ H x v Q I rx q=>h pins s σ H x v Q I rx (m x H Q q)
theorem zNe{r r':R2}(h:IxR X r)(m:∀ x y H Q,r' x y H Q->r x y H Q):IxR X r':=fun a b pins s σ H x y v u Q I rx ry q hs=>h a b pins s σ H x y v u Q I rx ry (m x y H Q q) hs
end
inductive TDx(K:PySem.W.Frag)(σ:L2.St)(H:Hp){α:Type}(g:Rho->Option α)(h:(Addr->Prop)->α->Prop):Prop
 | mk (F:Addr->Prop) (H₀:Hp) (ρ:Rho) (x:α) (S:StOk K F H H₀ σ ρ) (q:g ρ=some x) (k:h F x):TDx K σ H g h
def tD(K:PySem.W.Frag)(g:Rho->Option D):TE:=fun σ H Q=>TDx K σ H g fun F d=>∀ F' H' v,Ext F F' H H'->Rep K F' H' d v->Q v H'
def tDT(K:PySem.W.Frag)(g:Rho->Option Bool):TT:=fun σ H Q=>TDx K σ H g fun F b=>∀ F' H',Ext F F' H H'->Q b H'
def tDA(K:PySem.W.Frag)(g:Rho->Option (List D)):TA:=fun σ H Q=>TDx K σ H g fun F ds=>∀ F' H' vs,Ext F F' H H'->Reps K F' H' ds vs->Q vs H'
def DE(X:Cx)(e:Expr)(g:Rho->Option D):Prop:=PE X e (tD X.K g)
def DT(X:Cx)(e:Expr)(g:Rho->Option Bool):Prop:=PT X e (tDT X.K g)
def DW(X:Cx)(e:Expr)(g:Rho->Option Bool):Prop:=PW X e (tDT X.K g)
def DA(X:Cx)(es:List Expr)(g:Rho->Option (List D)):Prop:=PA X es (tDA X.K g)
def eC(d:D):Rho->Option D:=fun _=>some d
def eV(i:Nat):Rho->Option D:=fun ρ=>match ρ[i]? with
 | some (.dat d)=>some d
 | _=>none
def eOp(f:D->D->Option D)(ga gb:Rho->Option D):Rho->Option D:=fun ρ=>(ga ρ).bind fun x=>(gb ρ).bind fun y=>f x y
def eUn(f:D->Option D)(ga:Rho->Option D):Rho->Option D:=fun ρ=>(ga ρ).bind f
def eNil:Rho->Option (List D):=fun _=>some []
def zAc(ga:Rho->Option D)(gr:Rho->Option (List D)):Rho->Option (List D):=fun ρ=>(ga ρ).bind fun x=>(gr ρ).bind fun xs=>some (x::xs)
def eTup(ga:Rho->Option (List D)):Rho->Option D:=fun ρ=>(ga ρ).bind fun xs=>if xs.length<=1000 then some (.tuple xs)else none
def eLst(ga:Rho->Option (List D)):Rho->Option D:=fun ρ=>(ga ρ).bind fun xs=>if xs.length<=1000 then some (.list xs)else none
def zAf(G:List D->Option D)(ga:Rho->Option (List D)):Rho->Option D:=fun ρ=>(ga ρ).bind G
def asB:D->Option Bool
 | .bool b=>some b
 | _=>none
def asI:D->Option Int
 | .int i=>some i
 | _=>none
def eB(ga:Rho->Option D):Rho->Option Bool:=fun ρ=>(ga ρ).bind asB
def eAnd(t u:Rho->Option Bool):Rho->Option Bool:=fun ρ=>(t ρ).bind fun b=>if b=true then u ρ else some false
def eOr(t u:Rho->Option Bool):Rho->Option Bool:=fun ρ=>(t ρ).bind fun b=>if b=true then some true else u ρ
def eNot(t:Rho->Option Bool):Rho->Option Bool:=fun ρ=>(t ρ).bind fun b=>some (!b)
def eIf(t:Rho->Option Bool)(ga gb:Rho->Option D):Rho->Option D:=fun ρ=>(t ρ).bind fun b=>if b=true then ga ρ else gb ρ
def zBS(ga gb:Rho->Option D):Rho->Option D:=fun ρ=>(ga ρ).bind fun x=>(asB x).bind fun c=>if c=true then gb ρ else some (.bool false)
def zDE(ga:Rho->Option D):Rho->Option D:=fun ρ=>(ga ρ).bind fun x=>(asB x).bind fun c=>some (.bool (!c))
def zEk(h h':D->D->Option D)(ga gb gc:Rho->Option D):Rho->Option D:=fun ρ=>(ga ρ).bind fun x=>(gb ρ).bind fun y=>(h x y).bind fun z=>(asB z).bind fun k=>if k=true then(gc ρ).bind fun w=>h' y w else some (.bool false)
inductive RD2(K:PySem.W.Frag)(h:D->D->Option D)(x y:V)(H:Hp)(Q:VK):Prop
 | mk (F:Addr->Prop) (d e r:D) (z:∀ a,F a->H a≠none) (R1:Rep K F H d x) (R2:Rep K F H e y) (q:h d e=some r) (k:∀ F' H' v,Ext F F' H H'->Rep K F' H' r v->Q v H'):RD2 K h x y H Q
def rD2(K:PySem.W.Frag)(h:D->D->Option D):R2:=fun x y H Q=>RD2 K h x y H Q
inductive RD1(K:PySem.W.Frag)(h:D->Option D)(x:V)(H:Hp)(Q:VK):Prop
 | mk (F:Addr->Prop) (d r:D) (z:∀ a,F a->H a≠none) (R1:Rep K F H d x) (q:h d=some r) (k:∀ F' H' v,Ext F F' H H'->Rep K F' H' r v->Q v H'):RD1 K h x H Q
def rD1(K:PySem.W.Frag)(h:D->Option D):V->Hp->VK->Prop:=fun x H Q=>RD1 K h x H Q
inductive RDA(K:PySem.W.Frag)(h:List D->Option D)(xs:List V)(H:Hp)(Q:VK):Prop
 | mk (F:Addr->Prop) (ds:List D) (r:D) (z:∀ a,F a->H a≠none) (R1:Reps K F H ds xs) (q:h ds=some r) (k:∀ F' H' v,Ext F F' H H'->Rep K F' H' r v->Q v H'):RDA K h xs H Q
def rDA(K:PySem.W.Frag)(h:List D->Option D):List V->Hp->VK->Prop:=fun xs H Q=>RDA K h xs H Q
section
variable {X:Cx}{a b c e:Expr}{es:List Expr}{ga gb gc:Rho->Option D}{pos p:Pos}
theorem bnd{α β:Type}{o:Option α}{f:α->Option β}{b:β}(h:o.bind f=some b):∃ a,o=some a/\f a=some b:=by
 cases o with
 | none=>cases h
 | some a=>exact⟨a,rfl,h⟩
theorem zEg{v:V}{d:D}(h:PE X e (tC v))(r:∀ K F H,Rep K F H d v):DE X e (eC d):=
 zAQ h fun σ H Q zz=>by
  obtain⟨F,H₀,ρ,d',S,q,k⟩:=zz
  cases q
  exact k F H v (Ext.refl F H) (r _ _ _)
theorem zAe{i:Int}{j:Nat}:DE X (.Constant (.int i) j pos) (eC (.int i)):=zEg zOK fun _ _ _=>.int i
theorem zBy{i:Bool}{j:Nat}:DE X (.Constant (.bool i) j pos) (eC (.bool i)):=zEg pe_bl fun _ _ _=>.bl i
theorem zL6{x:Str}{j:Nat}:DE X (.Constant (.str x) j pos) (eC (.str x)):=zEg zOO fun _ _ _=>.str x
theorem zL3{x:Str}{i:Int}{t:Tok}(hg:Gl X x)(hm:X.mg x=some (.int i t))(hd:(x == ("__debug__":Str))=false:=by decide):DE X (.Name x pos) (eC (.int i)):=
 zEg (zJS (v:=.int i) hg hm ⟨t,rfl⟩ hd) fun _ _ _=>.int i
theorem zAa(i:Nat){x:Str}(hN:X.N[i]?=some x:=by rfl)(hv:Vis X.env.scope x:=by first | exact Or.inl rfl | exact Or.inr (Or.inl rfl) | exact Or.inr (Or.inr rfl))(hd:(x == ("__debug__":Str))=false:=by decide)
  (hcd:(x == ("__classdict__":Str))=false:=by decide):DE X (.Name x pos) (eV i):=
 zAQ (zGx hN hv hd hcd) fun σ H Q zz=>by
  obtain⟨F,H₀,ρ,d,S,q,k⟩:=zz
  unfold eV at q
  split at q
  ·rename_i d' e
   cases q
   obtain⟨v,hs,r⟩:=S.dat e
   exact⟨v,hs,k F H v (Ext.refl F H) r⟩
  ·cases q
theorem zEA{h:D->D->Option D}{σ:L2.St}{H:Hp}{Q:VK}(q:tD X.K (eOp h ga gb) σ H Q):tOp (rD2 X.K h) (tD X.K ga) (tD X.K gb) σ H Q:=by
 obtain⟨F,H₀,ρ,d,S,q,k⟩:=q
 obtain⟨x,e1,q⟩:=bnd q
 obtain⟨y,e2,q⟩:=bnd q
 exact⟨F,H₀,ρ,x,S,e1,fun F1 H1 v E1 R1=>⟨F1,H₀,ρ,y,S.ext E1,e2,fun F2 H2 u E2 R2=>⟨F2,x,y,d,((S.ext E1).ext E2).fz,R1.stay E2.stay,R2,q,fun F3 H3 w E3 R3=>k F3 H3 w (E1.trans (E2.trans E3)) R3⟩⟩⟩
theorem zAj{op:Operator}{h:D->D->Option D}(ho:OpR X (binaryOp op) (rD2 X.K h))(ha:DE X a ga)(hb:DE X b gb):DE X (.BinOp a op b pos) (eOp h ga gb):=
 zAQ (pe_op ho ha hb) fun _ _ _ q=>zEA q
theorem zCt{op:CmpOp}{h:D->D->Option D}(ho:OpR X (compareOp op) (rD2 X.K h))(ha:DE X a ga)(hb:DE X b gb)(hm:behindInMarks op b=false):DE X (.Compare a [op] [b] pos) (eOp h ga gb):=
 zAQ (zOG ho ha hb hm) fun _ _ _ q=>zEA q
theorem zAi{h:D->D->Option D}(ho:IxR X (rD2 X.K h))(ha:DE X a ga)(hb:DE X b gb)(hs:zFj b:=by exact fun _ _=>rfl):DE X (.Subscript a b pos) (eOp h ga gb):=
 zAQ (zJT ho ha hb hs) fun _ _ _ q=>zEA q
theorem zCU{op:UnaryOp}{h:D->Option D}(ho:UnR X (unaryOp op) (rD1 X.K h))(ha:DE X a ga):DE X (.UnaryOp op a pos) (eUn h ga):=
 zAQ (pe_un ho ha) fun σ H Q zz=>by
  obtain⟨F,H₀,ρ,d,S,q,k⟩:=zz
  obtain⟨x,e1,q⟩:=bnd q
  exact⟨F,H₀,ρ,x,S,e1,fun F1 H1 v E1 R1=>⟨F1,x,d,(S.ext E1).fz,R1,q,fun F3 H3 w E3 R3=>k F3 H3 w (E1.trans E3) R3⟩⟩
theorem zDX{K:PySem.W.Frag}{F:Addr->Prop}{H:Hp}{d:D}{v:V}{b:Bool}(r:Rep K F H d v)(h:asB d=some b):v=.bl b:=by
 cases r with
 | bl c=>cases h;rfl
 | _=>cases h
theorem zPz{K:PySem.W.Frag}{F:Addr->Prop}{H:Hp}{d:D}{v:V}{i:Int}(r:Rep K F H d v)(h:asI d=some i):v=.int i:=by
 cases r with
 | int c=>cases h;rfl
 | _=>cases h
theorem liftT{t:TE}{g:Rho->Option D}(m:∀ σ H Q,tD X.K g σ H Q->t σ H Q){σ:L2.St}{H:Hp}{Q:Bool->Hp->Prop}(q:tDT X.K (eB g) σ H Q):zKO t σ H Q:=by
 obtain⟨F,H₀,ρ,b,S,q,k⟩:=q
 obtain⟨d,e1,q⟩:=bnd q
 exact m σ H _ ⟨F,H₀,ρ,d,S,e1,fun F1 H1 v E1 R1=>⟨b,zDX R1 q,k F1 H1 E1⟩⟩
theorem zAC{op:CmpOp}{h:D->D->Option D}(ho:OpR X (compareOp op) (rD2 X.K h))(ha:DE X a ga)(hb:DE X b gb)(hm:behindInMarks op b=false):DT X (.Compare a [op] [b] pos) (eB (eOp h ga gb)):=
 zGC (zPd ho ha hb hm) fun _ _ _ q=>liftT (fun _ _ _=>zEA) q
theorem lift3{h h':D->D->Option D}{σ:L2.St}{H:Hp}{Q:VK}(q:tD X.K (zEk h h' ga gb gc) σ H Q):zKN (rD2 X.K h) (rD2 X.K h') (tD X.K ga) (tD X.K gb) (tD X.K gc) σ H Q:=by
 obtain⟨F,H₀,ρ,d,S,q,k⟩:=q
 obtain⟨x,e1,q⟩:=bnd q
 obtain⟨y,e2,q⟩:=bnd q
 obtain⟨z,e3,q⟩:=bnd q
 obtain⟨c',e4,q⟩:=bnd q
 refine⟨F,H₀,ρ,x,S,e1,fun F1 H1 v E1 R1=>⟨F1,H₀,ρ,y,S.ext E1,e2,fun F2 H2 u E2 R2=>⟨F2,x,y,z,((S.ext E1).ext E2).fz,R1.stay E2.stay,R2,e3,fun F3 H3 w E3 R3=>⟨c',zDX R3 e4,?_⟩⟩⟩⟩
 cases c' with
 | false=>
  simp only [Qq,if_false]at q ⊢
  cases q
  exact k F3 H3 _ (E1.trans (E2.trans E3)) (.bl false)
 | true=>
  simp only [if_true]at q ⊢
  obtain⟨w',e5,q⟩:=bnd q
  have S3:=((S.ext E1).ext E2).ext E3
  exact⟨F3,H₀,ρ,w',S3,e5,fun F4 H4 v4 E4 R4=>⟨F4,y,w',d,(S3.ext E4).fz,(R2.stay E3.stay).stay E4.stay,R4,q,fun F5 H5 v5 E5 R5=>k F5 H5 v5 (E1.trans (E2.trans (E3.trans (E4.trans E5)))) R5⟩⟩
theorem zHL{op op':CmpOp}{h h':D->D->Option D}(ho:OpR X (compareOp op) (rD2 X.K h))(ho':OpR X (compareOp op') (rD2 X.K h'))(ha:DE X a ga)(hb:DE X b gb)(hc:DE X c gc)
  (hm:lastMarks [op,op'] [b,c]=false:=by with_unfolding_all rfl):DE X (.Compare a [op,op'] [b,c] pos) (zEk h h' ga gb gc):=
 zAQ (zOF ho ho' ha hb hc hm) fun _ _ _ q=>lift3 q
theorem zBr(ha:DE X a ga)(he:∀ whole,isTrue a X.env whole=(do let v <- whole;standAt a.pos;holding [v] (truthy v)):=by intro _;rfl):DT X a (eB ga):=
 zGC (zPf ha he) fun σ H Q zz=>by
  obtain⟨F,H₀,ρ,b,S,q,k⟩:=zz
  obtain⟨d,e1,q⟩:=bnd q
  exact⟨F,H₀,ρ,d,S,e1,fun F1 H1 v E1 R1=>⟨b,zDX R1 q,k F1 H1 E1⟩⟩
variable {t u:Rho->Option Bool}{rest:List Expr}
theorem zHY(ha:DT X a t):DW X (.BoolOp .And [a] pos) t:=zPl ha
theorem zCY(ha:DT X a t):DW X (.BoolOp .Or [a] pos) t:=zPm ha
theorem zHX(ha:DT X a t)(hb:DW X (.BoolOp .And (b::rest) pos) u):DW X (.BoolOp .And (a::b::rest) pos) (eAnd t u):=
 zJ5 (zPk ha hb) fun σ H Q zz=>by
  obtain⟨F,H₀,ρ,r,S,q,k⟩:=zz
  obtain⟨d,e1,q⟩:=bnd q
  refine⟨F,H₀,ρ,d,S,e1,fun F1 H1 E1=>?_⟩
  cases d with
  | true=>simp only [if_true]at q ⊢;exact⟨F1,H₀,ρ,r,S.ext E1,q,fun F2 H2 E2=>k F2 H2 (E1.trans E2)⟩
  | false=>simp only [Qq,if_false]at q ⊢;cases q;exact k F1 H1 E1
theorem zCX(ha:DT X a t)(hb:DW X (.BoolOp .Or (b::rest) pos) u):DW X (.BoolOp .Or (a::b::rest) pos) (eOr t u):=
 zJ5 (pw_or ha hb) fun σ H Q zz=>by
  obtain⟨F,H₀,ρ,r,S,q,k⟩:=zz
  obtain⟨d,e1,q⟩:=bnd q
  refine⟨F,H₀,ρ,d,S,e1,fun F1 H1 E1=>?_⟩
  cases d with
  | false=>simp only [Qq,if_false]at q ⊢;exact⟨F1,H₀,ρ,r,S.ext E1,q,fun F2 H2 E2=>k F2 H2 (E1.trans E2)⟩
  | true=>simp only [if_true]at q ⊢;cases q;exact k F1 H1 E1
theorem dw_t(h:DW X a t):DT X a t:=PW.pt h
theorem zDD(ha:DT X a t):DT X (.UnaryOp .Not a pos) (eNot t):=
 zGC (zPe ha) fun σ H Q zz=>by
  obtain⟨F,H₀,ρ,r,S,q,k⟩:=zz
  obtain⟨d,e1,q⟩:=bnd q
  cases q
  exact⟨F,H₀,ρ,d,S,e1,fun F1 H1 E1=>k F1 H1 E1⟩
theorem zEh{op:BoolOp}(ha:DE X a ga):DE X (.BoolOp op [a] pos) ga:=zOM ha
theorem zEf(ha:DE X a ga)(hb:DE X (.BoolOp .And (b::rest) pos) gb):DE X (.BoolOp .And (a::b::rest) pos) (zBS ga gb):=
 zAQ (zOB ha hb) fun σ H Q zz=>by
  obtain⟨F,H₀,ρ,r,S,q,k⟩:=zz
  obtain⟨d,e1,q⟩:=bnd q
  obtain⟨c,e2,q⟩:=bnd q
  refine⟨F,H₀,ρ,d,S,e1,fun F1 H1 v E1 R1=>⟨c,zDX R1 e2,?_⟩⟩
  cases c with
  | true=>simp only [if_true]at q ⊢;exact⟨F1,H₀,ρ,r,S.ext E1,q,fun F2 H2 w E2 R2=>k F2 H2 w (E1.trans E2) R2⟩
  | false=>simp only [Qq,if_false]at q ⊢;cases q;exact k F1 H1 _ E1 (.bl false)
theorem zHN(ha:DE X a ga):DE X (.UnaryOp .Not a pos) (zDE ga):=
 zAQ (zOL ha) fun σ H Q zz=>by
  obtain⟨F,H₀,ρ,r,S,q,k⟩:=zz
  obtain⟨d,e1,q⟩:=bnd q
  obtain⟨c,e2,q⟩:=bnd q
  cases q
  exact⟨F,H₀,ρ,d,S,e1,fun F1 H1 v E1 R1=>⟨c,zDX R1 e2,k F1 H1 _ E1 (.bl _)⟩⟩
theorem zHM(hc:DT X c t)(ha:DE X a ga)(hb:DE X b gb):DE X (.IfExp c a b pos) (eIf t ga gb):=
 zAQ (zOJ hc ha hb) fun σ H Q zz=>by
  obtain⟨F,H₀,ρ,r,S,q,k⟩:=zz
  obtain⟨d,e1,q⟩:=bnd q
  refine⟨F,H₀,ρ,d,S,e1,fun F1 H1 E1=>?_⟩
  cases d with
  | true=>simp only [if_true]at q ⊢;exact⟨F1,H₀,ρ,r,S.ext E1,q,fun F2 H2 w E2 R2=>k F2 H2 w (E1.trans E2) R2⟩
  | false=>simp only [Qq,if_false]at q ⊢;exact⟨F1,H₀,ρ,r,S.ext E1,q,fun F2 H2 w E2 R2=>k F2 H2 w (E1.trans E2) R2⟩
variable {gr:Rho->Option (List D)}
theorem zAd:DA X [] eNil:=zJM zEL fun σ H Q zz=>by
 obtain⟨F,H₀,ρ,d,S,q,k⟩:=zz
 cases q
 exact k F H [] (Ext.refl F H) .nil
theorem zLY(ha:DE X e ga)(hr:DA X es gr)(hs:starEach (e::es) X.env=(false,eval e X.env)::starEach es X.env:=by rfl):DA X (e::es) (zAc ga gr):=
 zJM (zDU ha hr hs) fun σ H Q zz=>by
  obtain⟨F,H₀,ρ,d,S,q,k⟩:=zz
  obtain⟨x,e1,q⟩:=bnd q
  obtain⟨xs,e2,q⟩:=bnd q
  cases q
  exact⟨F,H₀,ρ,x,S,e1,fun F1 H1 v E1 R1=>⟨F1,H₀,ρ,xs,S.ext E1,e2,fun F2 H2 vs E2 R2=>k F2 H2 _ (E1.trans E2) (.cons (R1.stay E2.stay) R2)⟩⟩
theorem zAY{n:Nat}(h:n<=1000):n<=sizeLine:=YA (zGQ h)
theorem zL7{x1}(h:DA X es gr):DE X (.Tuple es x1 pos) (eTup gr):=
 zAQ (zOP h) fun σ H Q zz=>by
  obtain⟨F,H₀,ρ,d,S,q,k⟩:=zz
  obtain⟨xs,e1,q⟩:=bnd q
  refine⟨F,H₀,ρ,xs,S,e1,fun F1 H1 vs E1 R1=>?_⟩
  by_cases hl:xs.length<=1000
  ·rw [if_pos hl]at q
   cases q
   refine⟨zAY (by rw [<- R1.length];exact hl),fun p hp=>k F1 _ _ (E1.trans (Ext.fresh hp)) (Rep.newTup hp R1)⟩
  ·rw [if_neg hl]at q;cases q
theorem zAV(h:DA X es gr):DE X (.List es pos) (eLst gr):=
 zAQ (zJU h) fun σ H Q zz=>by
  obtain⟨F,H₀,ρ,d,S,q,k⟩:=zz
  obtain⟨xs,e1,q⟩:=bnd q
  refine⟨F,H₀,ρ,xs,S,e1,fun F1 H1 vs E1 R1=>?_⟩
  by_cases hl:xs.length<=1000
  ·rw [if_pos hl]at q
   cases q
   refine⟨zAY (by rw [<- R1.length];exact hl),fun p hp=>k _ _ _ (E1.trans (Ext.frozen hp)) (Rep.newLst hp R1)⟩
  ·rw [if_neg hl]at q;cases q
theorem zJc{h:List D->Option D}{σ:L2.St}{H:Hp}{Q:VK}(q:tD X.K (zAf h gr) σ H Q):tCB (rDA X.K h) (tDA X.K gr) σ H Q:=by
 obtain⟨F,H₀,ρ,d,S,q,k⟩:=q
 obtain⟨xs,e1,q⟩:=bnd q
 exact⟨F,H₀,ρ,xs,S,e1,fun F1 H1 vs E1 R1=>⟨F1,xs,d,(S.ext E1).fz,R1,q,fun F2 H2 w E2 R2=>k F2 H2 w (E1.trans E2) R2⟩⟩
theorem zBd{id:String}{x:Str}{h:List D->Option D}(hc:zAF X (.builtin id) (rDA X.K h))(hg:Gl X x)(hm:X.mg x=none)(hv:bootBuiltins x=some (.builtin id))(ha:DA X (e::es) gr)(hn:x≠"__name__":=by decide)(hdb:(x == ("__debug__":Str))=false:=by decide)
  (he:starEach (e::es) X.env=(false,eval e X.env)::starEach es X.env:=by rfl) (hpl:(backTo pos (starEach es X.env)).any (·.1)=false:=by rfl):DE X (.Call (.Name x p) (e::es) [] pos) (zAf h gr):=
 zAQ (zJR hc hg hm hv ha hn hdb he hpl) fun _ _ _ q=>zJc q
theorem zCs{T:String}{x:Str}{h:List D->Option D}(hc:zAF X (.type T) (rDA X.K h))(hg:Gl X x)(hm:X.mg x=none)(hv:bootBuiltins x=some (.type T))(ha:DA X (e::es) gr)(hn:x≠"__name__":=by decide)(hdb:(x == ("__debug__":Str))=false:=by decide)
  (he:starEach (e::es) X.env=(false,eval e X.env)::starEach es X.env:=by rfl) (hpl:(backTo pos (starEach es X.env)).any (·.1)=false:=by rfl):DE X (.Call (.Name x p) (e::es) [] pos) (zAf h gr):=
 zAQ (zOE hc hg hm hv ha hn hdb he hpl) fun _ _ _ q=>zJc q
def spD(K:PySem.W.Frag)(n:Nat)(G:List D->Option D):Sp:=fun vs H Q _=>∃(F:Addr->Prop) (ds:List D) (d:D),ds.length=n/\(∀ a,F a->H a≠none)/\Reps K F H ds vs/\G ds=some d/\∀ F' H' v,Ext F F' H H'->Rep K F' H' d v->Q v H'
theorem zL1{k n:Nat}{f:Addr}{fd:FuncData}{ps:List Str}{x:Str}{G:List D->Option D}(F:FnOk X.prog X.w X.K X.mg X.base CX0 k f fd ps (spD X.K n G))(hr:Room k X.A)(hg:Gl X x)(hm:X.mg x=some (.ref f))(hk:PySem.W.keepIn X.K (.ref f)=true)(hb:Binds X.K fd ps [])
  (ha:DA X (e::es) gr) (hln:∀ ρ ds,gr ρ=some ds->ds.length=n) (hdb:(x == ("__debug__":Str))=false:=by decide) (he:starEach (e::es) X.env=(false,eval e X.env)::starEach es X.env:=by rfl) (hpl:(backTo pos (starEach es X.env)).any (·.1)=false:=by rfl):
  DE X (.Call (.Name x p) (e::es) [] pos) (zAf G gr):=
 zAQ (zOD (E:=E0) F hr hg hm hk hb .nil pass0 ha hdb he hpl) fun σ H Q zz=>by
  obtain⟨F,H₀,ρ,d,S,q,k⟩:=zz
  obtain⟨xs,e1,q⟩:=bnd q
  exact⟨F,H₀,ρ,xs,S,e1,fun F1 H1 vs E1 R1=>by
   show spD X.K n G (vs++[]) H1 Q E0
   rw [Yk]
   exact⟨F1,xs,d,hln ρ xs e1,(S.ext E1).fz,R1,q,fun F2 H2 w E2 R2=>k F2 H2 w (E1.trans E2) R2⟩⟩
theorem zMo{ρ:Rho}{ds:List D}(h:eNil ρ=some ds):ds.length=0:=by cases h;rfl
theorem zEl{n:Nat}(h':∀ ρ ds,gr ρ=some ds->ds.length=n)(ρ:Rho)(ds:List D)(h:zAc ga gr ρ=some ds):ds.length=n+1:=by
 obtain⟨x,e1,q⟩:=bnd h
 obtain⟨xs,e2,q⟩:=bnd q
 cases q
 simp [h' ρ xs e2]
end
end DL
namespace EX
open PySem PySem.Spec PyProof.Rows L2
def Fly(h:Heap)(e:Addr)(cls:Value)(tr:Option Addr):Prop:=
 ∃ oe vs,h.get? e=some oe/\oe.cls=cls/\oe.data=.fields vs/\match tr with
  | none=>vs[1]?=some .none
  | some T=>vs[1]?=some (.ref T)/\T≠e/\∃ oT ts,h.get? T=some oT/\oT.data=.fields ts/\ts[3]?=some .none
structure ThrownC(X:Cx)(pins:List (Addr × Obj))(H:Hp)(s:Shared)(a:Addr)(cls:Value)(tr:Option Addr):Prop where
 fly:Fly s.heap a cls tr
 new:∀ b,(b=a ∨ some b=tr)->X.s₀.heap.get? b=none/\H b=none/\b≠X.env.locals/\(∀ x c,X.env.cells.lookup x=some c->c≠b)/\∀ p∈X.pn++pins,p.1≠b
section
variable {M:Model}{A:Around}{E:Value->Shared->Prop}{s:Shared}
end
end EX
namespace DL
open PySem PySem.Spec PyProof.Rows L2
inductive Out where
 | nx (ρ:Rho)
 | rt (d:D)
 | bk (ρ:Rho)
 | ct (ρ:Rho)
 | ex (x:Str) (ρ:Rho)
theorem Stay.refl(K:PySem.W.Frag)(F:Addr->Prop)(H:Hp):Stay K F F H H:=⟨fun _ h=>h,fun _ _ h=>h,fun _ _ _ h=>h,fun _ _ _ h=>h⟩
theorem Stay.trans{K:PySem.W.Frag}{F F1 F2:Addr->Prop}{H H1 H2:Hp}(a:Stay K F F1 H H1)(b:Stay K F1 F2 H1 H2):Stay K F F2 H H2:=
 ⟨fun x h=>b.up x (a.up x h),fun x xs h=>b.tp x xs (a.tp x xs h),fun x xs f h=>b.ls x xs (a.up x f) (a.ls x xs f h),fun x φ f h=>b.xt x φ (a.up x f) (a.xt x φ f h)⟩
def zDv(X:Cx)(F₀:Addr->Prop)(H₀:Hp)(F:Addr->Prop)(H:Hp)(W:Ends):Out->Prop
 | .nx ρ=>∀ F' H' σ,Ext F₀ F' H₀ H'->Stay X.K F F' H H'->StOk X.K F' H' H₀ σ ρ->W.nx σ H'
 | .rt d=>∀ F' H' v,Ext F₀ F' H₀ H'->Rep X.K F' H' d v->W.rt v H'
 | .bk ρ=>∀ F' H' σ,Ext F₀ F' H₀ H'->Stay X.K F F' H H'->StOk X.K F' H' H₀ σ ρ->W.bk σ H'
 | .ct ρ=>∀ F' H' σ,Ext F₀ F' H₀ H'->Stay X.K F F' H H'->StOk X.K F' H' H₀ σ ρ->W.ct σ H'
 | .ex x ρ=>∀ F' H' σ pins s a C tr,Ext F₀ F' H₀ H'->StOk X.K F' H' H₀ σ ρ->Inv X pins σ H' s->PySem.W.nsIn X.K mainGlobals x=some (some (.ref C))->EX.ThrownC X pins H' s a (.ref C) tr->X.xe (.ref a) s
theorem zDv.from{X:Cx}{F₀ F F':Addr->Prop}{H₀ H H':Hp}{W:Ends}{o:Out}(T:Stay X.K F F' H H')(k:zDv X F₀ H₀ F H W o):zDv X F₀ H₀ F' H' W o:=by
 cases o with
 | nx ρ=>exact fun F2 H2 σ E T2 S=>k F2 H2 σ E (T.trans T2) S
 | rt d=>exact k
 | bk ρ=>exact fun F2 H2 σ E T2 S=>k F2 H2 σ E (T.trans T2) S
 | ct ρ=>exact fun F2 H2 σ E T2 S=>k F2 H2 σ E (T.trans T2) S
 | ex x ρ=>exact k
inductive TDS(X:Cx)(g:Rho->Option Out)(W:Ends)(σ:L2.St)(H:Hp):Prop
 | mk (F₀:Addr->Prop) (H₀:Hp) (F:Addr->Prop) (ρ:Rho) (o:Out) (E:Ext F₀ F H₀ H) (S:StOk X.K F H H₀ σ ρ) (q:g ρ=some o) (k:zDv X F₀ H₀ F H W o):TDS X g W σ H
def tDS(X:Cx)(g:Rho->Option Out):TS:=fun W σ H=>TDS X g W σ H
def DS(X:Cx)(st:Stmt)(g:Rho->Option Out):Prop:=PS X st (tDS X g)
def DSs(X:Cx)(sts:List Stmt)(g:Rho->Option Out):Prop:=PSs X sts (tDS X g)
def sSeq(g1 g2:Rho->Option Out):Rho->Option Out:=fun ρ=>(g1 ρ).bind fun o=>match o with
 | .nx ρ'=>g2 ρ'
 | o=>some o
def zAL:Rho->Option Out:=fun ρ=>some (.nx ρ)
def sRet(g:Rho->Option D):Rho->Option Out:=fun ρ=>(g (ρ.map frz)).bind fun d=>some (.rt d)
def sSet(i:Nat)(g:Rho->Option D):Rho->Option Out:=fun ρ=>(g ρ).bind fun d=>some (.nx (ρ.set i (.dat d)))
def sOwn(i:Nat)(g:Rho->Option (List D)):Rho->Option Out:=fun ρ=>(g ρ).bind fun ds=>if ds.length<=1000 then some (.nx (ρ.set i (.own ds)))else none
def sIf(t:Rho->Option Bool)(g1 g2:Rho->Option Out):Rho->Option Out:=fun ρ=>(t (ρ.map frz)).bind fun b=>if b=true then g1 ρ else g2 ρ
def zBa(g:Rho->Option D):Rho->Option Out:=fun ρ=>(g ρ).bind fun _=>some (.nx ρ)
def sApp(i:Nat)(g:Rho->Option D):Rho->Option Out:=fun ρ=>match ρ[i]? with
 | some (.own ds)=>(g ρ).bind fun d=>if ds.length<1000 then some (.nx (ρ.set i (.own (ds++[d]))))else none
 | _=>none
def zBD(t:Rho->Option Bool)(g:Rho->Option Out):Nat->Rho->Option Out
 | 0,_=>none
 | n+1,ρ=>(t (ρ.map frz)).bind fun b=>if b=true then(g ρ).bind fun o=>match o with
   | .nx ρ'=>zBD t g n ρ'
   | .ct ρ'=>zBD t g n ρ'
   | .bk ρ'=>some (.nx ρ')
   | .rt d=>some (.rt d)
   | .ex x ρ'=>some (.ex x ρ')
  else some (.nx ρ)
def forN(s:D->Rho->Option Rho)(g:Rho->Option Out):List D->Rho->Option Out
 | [],ρ=>some (.nx ρ)
 | d::ds,ρ=>(s d ρ).bind fun ρ1=>(g ρ1).bind fun o=>match o with
   | .nx ρ'=>forN s g ds ρ'
   | .ct ρ'=>forN s g ds ρ'
   | .bk ρ'=>some (.nx ρ')
   | .rt d=>some (.rt d)
   | .ex x ρ'=>some (.ex x ρ')
def sFor(gi:Rho->Option (List D))(s:D->Rho->Option Rho)(g:Rho->Option Out):Rho->Option Out:=fun ρ=>(gi ρ).bind fun xs=>forN s g xs ρ
section
variable {X:Cx}{e a b c tg:Expr}{es:List Expr}{st:Stmt}{rest body orelse:List Stmt}{g g1 g2 gb:Rho->Option Out}{ga:Rho->Option D}{gr:Rho->Option (List D)}{t:Rho->Option Bool}{pos p:Pos}
theorem zAX:DSs X [] zAL:=zJ4 zPb fun W σ H zz=>by
 obtain⟨F₀,H₀,F,ρ,o,E,S,q,k⟩:=zz
 cases q
 exact k F H σ E (Stay.refl _ F H) S
theorem zPL{F₀:Addr->Prop}{H₀:Hp}{F:Addr->Prop}{ρ:Rho}{o:Out}{W:Ends}{σ:L2.St}{H:Hp}(E:Ext F₀ F H₀ H)(S:StOk X.K F H H₀ σ ρ)(q:sSeq g1 g2 ρ=some o)(k:zDv X F₀ H₀ F H W o):tDS X g1 { W with nx:=tDS X g2 W } σ H:=by
 obtain⟨o1,e1,q⟩:=bnd q
 refine⟨F₀,H₀,F,ρ,o1,E,S,e1,?_⟩
 cases o1 with
 | nx ρ'=>exact fun F' H' σ' E' T' S'=>⟨F₀,H₀,F',ρ',o,E',S',q,k.from T'⟩
 | rt d=>cases q;exact k
 | bk ρ'=>cases q;exact k
 | ct ρ'=>cases q;exact k
 | ex x ρ'=>cases q;exact k
theorem zAl(h1:DS X st g1)(h2:DSs X rest g2):DSs X (st::rest) (sSeq g1 g2):=
 zJ4 (zPa h1 h2) fun W σ H ⟨F₀,H₀,F,ρ,o,E,S,q,k⟩=>zPL E S q k
theorem zAk(h1:DS X st g):DSs X [st] g:=zPc h1
theorem Ext.thaw{K:PySem.W.Frag}{F₀ F F':Addr->Prop}{H₀ H H':Hp}{σ:L2.St}{ρ:Rho}(E:Ext F₀ F H₀ H)(S:StOk K F H H₀ σ ρ)(E':Ext (fun a=>F a ∨ Own σ ρ a) F' H H'):Ext F₀ F' H₀ H':=
 ⟨E.same.trans E'.same,fun a f=>E'.up a (.inl (E.up a f)),fun a f=>by
  rcases E'.new a f with(f | ⟨i,ds,q1,q2⟩ | ⟨i,ds,q1,q2⟩) | ⟨f1,f2⟩
  ·rcases E.new a f with f | ⟨f,f'⟩
   ·exact .inl f
   ·exact .inr ⟨f,fun z=>f' (E'.same.free z)⟩
  ·obtain⟨b,vs,g1,g2,_,g4,_⟩:=S.own q1
   rw [g1]at q2;cases q2
   exact .inr ⟨g4,by rw [E'.same _ _ g2];simp⟩
  ·obtain⟨b,vs,ep,g1,g2,_,g4,_⟩:=S.ownD q1
   rw [g1]at q2;cases q2
   exact .inr ⟨g4,by rw [E'.same _ _ g2];simp⟩
  ·exact .inr ⟨E.same.free f1,f2⟩⟩
theorem zAq(ha:DE X e ga):DS X (.Return (some e) pos) (sRet ga):=ps_mono (zO8 ha) fun W σ H zz=>by
 obtain⟨F₀,H₀,F,ρ,o,E,S,q,k⟩:=zz
 obtain⟨d,e1,q⟩:=bnd q
 cases q
 exact⟨_,H₀,ρ.map frz,d,S.frz,e1,fun F' H' v E' R'=>k F' H' v (E.thaw S E') R'⟩
theorem zAu{i:Nat}{x:Str}{pos':Pos}(hN:X.N.Nodup)(ha:DE X e ga)(hi:X.N[i]?=some x:=by rfl)(hx:Loc X.env.scope x:=by first | exact Or.inl rfl | exact Or.inr rfl)(hs:swapsWith e (some (.Name x pos')) pos.line X.env=pure false:=by rfl)(hf:X.fn x=true ∨ X.env.scope.names.lookup x=some .local:=by first | exact .inl rfl | exact .inr rfl | assumption):
  DS X (.Assign [.Name x pos'] e pos) (sSet i ga):=ps_mono (zEO hN hi hx ha hs hf) fun W σ H zz=>by
 obtain⟨F₀,H₀,F,ρ,o,E,S,q,k⟩:=zz
 obtain⟨d,e1,q⟩:=bnd q
 cases q
 exact⟨F,H₀,ρ,d,S,e1,fun F' H' v E' R'=>k F' H' _ (E.trans E') E'.stay ((S.ext E').put R')⟩
theorem Ext.lend{K:PySem.W.Frag}{F F':Addr->Prop}{H H₀ H':Hp}{σ:L2.St}{ρ:Rho}(S:StOk K F H H₀ σ ρ)(E':Ext (fun a=>F a ∨ Own σ ρ a) F' H H'):Ext F (fun a=>F' a/\¬ Own σ ρ a) H H':=
 ⟨E'.same,fun a f=>⟨E'.up a (.inl f),fun z=>by
   rcases z with⟨i,ds,q1,q2⟩ | ⟨i,ds,q1,q2⟩
   ·obtain⟨b,vs,g1,g2,g3,_⟩:=S.own q1
    rw [g1]at q2;cases q2
    exact g3 f
   ·obtain⟨b,vs,ep,g1,g2,g3,_⟩:=S.ownD q1
    rw [g1]at q2;cases q2
    exact g3 f⟩,fun a zz=>by
  obtain⟨f,n⟩:=zz
  rcases E'.new a f with(f | f) | f
  ·exact .inl f
  ·exact absurd f n
  ·exact .inr f⟩
theorem zDC{i:Nat}{x:Str}{pos' pos'':Pos}(hN:X.N.Nodup)(ha:DA X es gr)(hi:X.N[i]?=some x:=by rfl)(hx:Loc X.env.scope x:=by first | exact Or.inl rfl | exact Or.inr rfl)(hs:swapsWith (.List es pos'') (some (.Name x pos')) pos.line X.env=pure false:=by rfl)(hf:X.fn x=true ∨ X.env.scope.names.lookup x=some .local:=by first | exact .inl rfl | exact .inr rfl | assumption):
  DS X (.Assign [.Name x pos'] (.List es pos'') pos) (sOwn i gr):=ps_mono (zEO hN hi hx (zJU ha) hs hf) fun W σ H zz=>by
 obtain⟨F₀,H₀,F,ρ,o,E,S,q,k⟩:=zz
 obtain⟨ds,e1,q⟩:=bnd q
 by_cases hl:ds.length<=1000
 ·rw [if_pos hl]at q
  cases q
  refine⟨F,H₀,ρ,ds,S,e1,fun F' H' vs E' R'=>⟨zAY (by rw [<- R'.length];exact hl),fun pp hp=>?_⟩⟩
  exact k F' _ _ ((E.trans E').trans (Ext.fresh hp)) (E'.stay.trans (Ext.fresh hp).stay) ((S.ext E').putOwn hp ((E.trans E').same.free hp) R')
 ·rw [if_neg hl]at q;cases q
theorem zAW(hc:DT X c t)(h1:DSs X body g1)(h2:DSs X orelse g2):DS X (.If c body orelse pos) (sIf t g1 g2):=ps_mono (ps_if hc h1 h2) fun W σ H zz=>by
 obtain⟨F₀,H₀,F,ρ,o,E,S,q,k⟩:=zz
 obtain⟨r,e1,q⟩:=bnd q
 refine⟨_,H₀,ρ.map frz,r,S.frz,e1,fun F' H' E'=>?_⟩
 have E2:=E'.lend S
 cases r with
 | true=>simp only [if_true]at q ⊢;exact⟨F₀,H₀,_,ρ,o,E.trans E2,S.ext E2,q,k.from E2.stay⟩
 | false=>simp only [Qq,if_false]at q ⊢;exact⟨F₀,H₀,_,ρ,o,E.trans E2,S.ext E2,q,k.from E2.stay⟩
theorem zBR(ha:DE X e ga)(hs:swapsWith e none pos.line X.env=pure false:=by rfl):DS X (.Expr e pos) (zBa ga):=ps_mono (zGB ha hs) fun W σ H zz=>by
 obtain⟨F₀,H₀,F,ρ,o,E,S,q,k⟩:=zz
 obtain⟨d,e1,q⟩:=bnd q
 cases q
 exact⟨F,H₀,ρ,d,S,e1,fun F' H' v E' R'=>k F' H' σ (E.trans E') E'.stay (S.ext E')⟩
theorem Ext.turn{F₀ F:Addr->Prop}{H₀ H:Hp}{p:Addr}{o:HO}(E:Ext F₀ F H₀ H)(h0:H₀ p=none):Ext F₀ F H₀ (upd H p o):=
 ⟨fun b u q=>by rw [zAs (zBj q h0)];exact E.same b u q,E.up,fun a f=>by
  rcases E.new a f with f | ⟨f1,f2⟩
  ·exact .inl f
  ·refine .inr ⟨f1,fun z=>?_⟩
   by_cases ha:a=p
   ·subst ha;rw [zBm]at z;cases z
   ·rw [zAs ha]at z;exact f2 z⟩
theorem zHV{i:Nat}{x:Str}{apos pos':Pos}(ha:DE X e ga)(hN:X.N[i]?=some x:=by rfl)(hv:Vis X.env.scope x:=by first | exact Or.inl rfl | exact Or.inr (Or.inl rfl) | exact Or.inr (Or.inr rfl))(hd:(x == ("__debug__":Str))=false:=by decide)
  (hcd:(x == ("__classdict__":Str))=false:=by decide) (hse:starEach [e] X.env=(false,eval e X.env)::starEach [] X.env:=by rfl)
  (hbase:attributeBase (.Name x p) "append" X.env (eval (.Name x p) X.env)=eval (.Name x p) X.env:=by rfl)
  (hfew:((backTo pos' (starEach [e] X.env)).all (fun x => !x.1) && (backToKw pos' (keywordEach [] X.env)).all (fun x=>x.1.isSome)
   && decide ([e].length+([]:List Keyword).length+(if([]:List Keyword).isEmpty then 0 else 1)<30))=true:=by rfl)
  (hline:(apos.endLine == pos'.line)=true:=by rfl) (hplain:(backTo pos' (starEach [] X.env)).any (·.1)=false:=by rfl) (hsw:swapsWith (.Call (.Attribute (.Name x p) "append" apos) [e] [] pos') none pos.line X.env=pure false:=by rfl):
  DS X (.Expr (.Call (.Attribute (.Name x p) "append" apos) [e] [] pos') pos) (sApp i ga):=
 ps_mono (zGB (zJQ PySem.F.plainAttrs_list PySem.F.slot_list_append PySem.F.type_list_append zJs (zGx hN hv hd hcd) (zDU ha zEL hse) hbase hfew hline hse hplain) hsw) fun W σ H zz=>by
 obtain⟨F₀,H₀,F,ρ,o,E,S,q,k⟩:=zz
 unfold sApp at q
 split at q
 ·rename_i ds e0
  obtain⟨d,e1,q⟩:=bnd q
  by_cases hl:ds.length<1000
  ·rw [if_pos hl]at q
   cases q
   obtain⟨l,vs,q1,q2,q3,q4,q5⟩:=S.own e0
   refine⟨_,q1,.inl ⟨rfl,_,SqL.of q2⟩,F,H₀,ρ,d,S,e1,fun F' H' v E' R'=>?_⟩
   have S':=S.ext E'
   obtain⟨l',vs',g1,g2,g3,g4,g5⟩:=S'.own e0
   rw [q1]at g1;cases g1
   refine⟨l,vs',v,rfl,rfl,g2,zGQ (by rw [<- g5.length];lia),?_⟩
   obtain⟨S2,T⟩:=S'.turn e0 q1 g2 g3 (g5.append (.cons R' .nil))
   exact k F' _ σ ((E.trans E').turn q4) (E'.stay.trans T) S2
  ·rw [if_neg hl]at q;cases q
 ·cases q
end
end DL
namespace DL
open PySem PySem.Spec PyProof.Rows L2
inductive TDG(K:PySem.W.Frag)(s:D->Rho->Option Rho)(v:V)(σ:L2.St)(H:Hp)(Q:L2.St->Hp->Prop):Prop
 | mk (F:Addr->Prop) (H₀:Hp) (ρ:Rho) (d:D) (ρ':Rho) (S:StOk K F H H₀ σ ρ) (R:Rep K F H d v) (q:s d ρ=some ρ') (k:∀ σ',StOk K F H H₀ σ' ρ'->Q σ' H):TDG K s v σ H Q
def tDG(K:PySem.W.Frag)(s:D->Rho->Option Rho):TG:=fun v σ H Q=>TDG K s v σ H Q
def tDGs(K:PySem.W.Frag)(s:List D->Rho->Option Rho):TGs:=fun vs σ H Q=>∃(F:Addr->Prop) (H₀:Hp) (ρ:Rho) (ds:List D) (ρ':Rho),StOk K F H H₀ σ ρ/\Reps K F H ds vs/\s ds ρ=some ρ'/\∀ σ',StOk K F H H₀ σ' ρ'->Q σ' H
def DG(X:Cx)(tg:Expr)(s:D->Rho->Option Rho):Prop:=PG X tg (tDG X.K s)
def DGs(X:Cx)(ts:List Expr)(s:List D->Rho->Option Rho):Prop:=PGs X ts (tDGs X.K s)
def zAm(i:Nat):D->Rho->Option Rho:=fun d ρ=>some (ρ.set i (.dat d))
def uNil:List D->Rho->Option Rho
 | [],ρ=>some ρ
 | _::_,_=>none
def zAH(s1:D->Rho->Option Rho)(s2:List D->Rho->Option Rho):List D->Rho->Option Rho
 | [],_=>none
 | d::ds,ρ=>(s1 d ρ).bind fun ρ'=>s2 ds ρ'
def uTup(n:Nat)(s:List D->Rho->Option Rho):D->Rho->Option Rho
 | .tuple ds,ρ=>if ds.length=n then s ds ρ else none
 | _,_=>none
section
variable {X:Cx}{e tg:Expr}{es:List Expr}{pos:Pos}
theorem zJV{t t':TG}(h:PG X tg t)(m:∀ v σ H Q,t' v σ H Q->t v σ H Q):PG X tg t':=fun pins s σ H v u Q I r q=>h pins s σ H v u Q I r (m v σ H Q q)
theorem zJW{t t':TGs}(h:PGs X es t)(m:∀ v σ H Q,t' v σ H Q->t v σ H Q):PGs X es t':=fun pins s σ H v u Q I r q=>h pins s σ H v u Q I r (m v σ H Q q)
theorem zAr{i:Nat}{x:Str}(hN:X.N.Nodup)(hi:X.N[i]?=some x:=by rfl)(hx:Loc X.env.scope x:=by first | exact Or.inl rfl | exact Or.inr rfl)(hf:X.fn x=true ∨ X.env.scope.names.lookup x=some .local:=by first | exact .inl rfl | exact .inr rfl | assumption):DG X (.Name x pos) (zAm i):=
 zJV (zOR hN hi hx hf) fun v σ H Q zz=>by
  obtain⟨F,H₀,ρ,d,ρ',S,R,q,k⟩:=zz
  cases q
  exact k _ (S.put R)
theorem zBH:DGs X [] uNil:=zJW zOU fun v σ H Q zz=>by
 obtain⟨F,H₀,ρ,ds,ρ',S,R,q,k⟩:=zz
 cases R with
 | nil=>cases q;exact⟨rfl,k σ S⟩
 | cons _ _=>cases q
theorem zAN{s1:D->Rho->Option Rho}{s2:List D->Rho->Option Rho}(h1:DG X e s1)(h2:DGs X es s2)
  (hs:(assignEach (e::es) X.env).map (·.2)=assign e X.env::(assignEach es X.env).map (·.2):=by rfl):DGs X (e::es) (zAH s1 s2):=
 zJW (zOT h1 h2 hs) fun v σ H Q zz=>by
  obtain⟨F,H₀,ρ,ds,ρ',S,R,q,k⟩:=zz
  cases R with
  | nil=>cases q
  | cons r rs=>
   obtain⟨ρ1,e1,q⟩:=bnd q
   exact⟨_,_,rfl,F,H₀,ρ,_,ρ1,S,r,e1,fun σ1 S1=>⟨F,H₀,ρ1,_,ρ',S1,rs,q,k⟩⟩
theorem zBG{n k:Nat}{s:List D->Rho->Option Rho}(hc:X.calm=true)(h:DGs X es s)(hn:(assignEach es X.env).length=n:=by rfl)(hst:(assignEach es X.env).findIdx? (·.1)=none:=by rfl):DG X (.Tuple es k pos) (uTup n s):=
 zJV (zOS hc h hn hst) fun v σ H Q zz=>by
  obtain⟨F,H₀,ρ,d,ρ',S,R,q,k⟩:=zz
  cases R with
  | @tup a vs ds hq r=>
   by_cases hl:ds.length=n
   ·have q':(if ds.length=n then s ds ρ else none)=some ρ':=q
    rw [if_pos hl]at q'
    exact⟨_,_,rfl,hq,by rw [<- r.length];exact hl,F,H₀,ρ,_,ρ',S,r,q',k⟩
   ·have q':(if ds.length=n then s ds ρ else none)=some ρ':=q
    rw [if_neg hl]at q';cases q'
  | non=>cases q
  | dct _ _ _ _ _=>cases q
  | exn _ _ _=>cases q
  | bl _=>cases q
  | int _=>cases q
  | str _=>cases q
  | lst _ _=>cases q
end
def sAsg(ga:Rho->Option D)(s:D->Rho->Option Rho):Rho->Option Out:=fun ρ=>(ga ρ).bind fun d=>(s d ρ).bind fun ρ'=>some (.nx ρ')
section
variable {X:Cx}{e a b c tg iter:Expr}{es:List Expr}{st:Stmt}{rest body orelse:List Stmt}{g g1 g2 gb:Rho->Option Out}{ga:Rho->Option D}{gr:Rho->Option (List D)}{t:Rho->Option Bool}{pos p:Pos}
theorem zMm{s:D->Rho->Option Rho}(ha:DE X e ga)(hg:DG X tg s)(hs:swapsWithSole [tg] e pos.line X.env=pure false:=by rfl)(hw:swappedStores [tg] e X.env=pure none:=by rfl)
  (h1:(assignEach [tg] X.env).map (·.2)=[assign tg X.env]:=by rfl):DS X (.Assign [tg] e pos) (sAsg ga s):=
 ps_mono (zO5 ha hg hs hw h1) fun W σ H zz=>by
  obtain⟨F₀,H₀,F,ρ,o,E,S,q,k⟩:=zz
  obtain⟨d,e1,q⟩:=bnd q
  obtain⟨ρ',e2,q⟩:=bnd q
  cases q
  exact⟨F,H₀,ρ,d,S,e1,fun F' H' v E' R'=>⟨F',H₀,ρ,d,ρ',S.ext E',R',e2,fun σ' S'=>k F' H' σ' (E.trans E') E'.stay S'⟩⟩
theorem zEj(n:Nat)(hp:PassesOwn (model X.prog X.w) X.A X.env X.xe)(hc:DT X c t)(hb:DSs X body g):DS X (.While c body [] pos) (zBD t g n):=
 ps_mono (zO9 hp hc hb) fun W σ H zz=>by
  obtain⟨F₀,H₀,F1,ρ1,o,E,S,q,k⟩:=zz
  refine⟨fun m σ' H'=>∃ F ρ,Ext F₀ F H₀ H'/\Stay X.K F1 F H H'/\StOk X.K F H' H₀ σ' ρ/\zBD t g m ρ=some o,⟨n,F1,ρ1,E,Stay.refl _ _ _,S,q⟩,?_⟩
  rintro m σ' H' ⟨F,ρ,E',T',S',q'⟩
  cases m with
  | zero=>cases q'
  | succ m=>
   obtain⟨r,e1,q'⟩:=bnd q'
   refine⟨_,H₀,ρ.map frz,r,S'.frz,e1,fun F2 H2 E2'=>?_⟩
   have E2:=E2'.lend S'
   cases r with
   | false=>
    simp only [Qq,if_false]at q' ⊢
    cases q'
    exact k _ H2 σ' (E'.trans E2) (T'.trans E2.stay) (S'.ext E2)
   | true=>
    simp only [if_true]at q' ⊢
    obtain⟨o1,e2,q'⟩:=bnd q'
    refine⟨fun σ3 H3=>∃ F ρ,Ext F₀ F H₀ H3/\Stay X.K F1 F H H3/\StOk X.K F H3 H₀ σ3 ρ/\zBD t g m ρ=some o,fun σ3 H3 h3=>⟨m,Nat.lt_succ_self m,h3⟩,F₀,H₀,_,ρ,o1,E'.trans E2,S'.ext E2,e2,?_⟩
    cases o1 with
    | nx ρ3=>exact fun F3 H3 σ3 E3 T3 S3=>⟨F3,ρ3,E3,(T'.trans E2.stay).trans T3,S3,q'⟩
    | ct ρ3=>exact fun F3 H3 σ3 E3 T3 S3=>⟨F3,ρ3,E3,(T'.trans E2.stay).trans T3,S3,q'⟩
    | bk ρ3=>cases q';exact fun F3 H3 σ3 E3 T3 S3=>k F3 H3 σ3 E3 ((T'.trans E2.stay).trans T3) S3
    | rt d=>cases q';exact k
    | ex x ρ3=>cases q';exact k
def ItD(K:PySem.W.Frag)(F:Addr->Prop)(H:Hp)(ds:List D)(J:It):Prop:=
 ∀ F2 H2,Stay K F F2 H H2->(∀ a,F2 a->H2 a≠none)->∀ i:Nat,(∀ d,ds[i]?=some d->J.go i H2/\∀ x H3,J.yld i H2 x H3->∃ F3,Ext F2 F3 H2 H3/\Rep K F3 H3 d x)/\(ds.length<=i->J.stop i H2)
def tDI(K:PySem.W.Frag)(gi:Rho->Option (List D)):TI:=fun σ H R=>TDx K σ H gi fun F ds=>∀ F' H' J,Ext F F' H H'->ItD K F' H' ds J->R J H'
def DI(X:Cx)(tg iter:Expr)(gi:Rho->Option (List D)):Prop:=PI X tg iter (tDI X.K gi)
theorem zGy{wi wi':TI}(h:PI X tg iter wi)(m:∀ σ H R,wi' σ H R->wi σ H R):PI X tg iter wi':=fun pins s σ H R I q=>h pins s σ H R I (m σ H R q)
structure FInv(K:PySem.W.Frag)(s:D->Rho->Option Rho)(g:Rho->Option Out)(xs:List D)(o:Out)(F₀ F F1:Addr->Prop)(H₀ H H1:Hp)(i:Nat)(σ2:L2.St)(H2:Hp)(F2:Addr->Prop)(ρ2:Rho):Prop where
 E:Ext F₀ F2 H₀ H2
 T0:Stay K F F2 H H2
 T1:Stay K F1 F2 H1 H2
 S:StOk K F2 H2 H₀ σ2 ρ2
 q:forN s g (xs.drop i) ρ2=some o
theorem zBq{gi:Rho->Option (List D)}{s:D->Rho->Option Rho}(hp:PassesOwn (model X.prog X.w) X.A X.env X.xe)(hc:X.calm=true)(hi:DI X tg iter gi)(hg:DG X tg s)(hb:DSs X body g)
  (hs:∀ x,foldedSetIterable iter X.env x=pure x:=by intro _;rfl):DS X (.For tg iter body [] pos) (sFor gi s g):=
 ps_mono (zO7 hp hc hi hg hb hs) fun W σ H zz=>by
  obtain⟨F₀,H₀,F,ρ,o,E,S,q,k⟩:=zz
  obtain⟨xs,e1,q⟩:=bnd q
  refine⟨F,H₀,ρ,xs,S,e1,fun F1 H1 J E1 I1=>?_⟩
  refine⟨fun i m σ2 H2=>m=xs.length-i/\i<=xs.length/\∃ F2 ρ2,FInv X.K s g xs o F₀ F F1 H₀ H H1 i σ2 H2 F2 ρ2,
   ⟨xs.length,rfl,QZ _,F1,ρ,E.trans E1,E1.stay,Stay.refl _ _ _,S.ext E1,q⟩,?_⟩
  rintro i m σ2 H2 ⟨rfl,hi2,F2,ρ2,E2,T0,T1,S2,q2⟩
  obtain⟨it1,it2⟩:=I1 F2 H2 T1 S2.fz i
  by_cases hlt:i<xs.length
  ·right
   have hget:xs[i]?=some xs[i]:=by simp [hlt]
   obtain⟨go,yld⟩:=it1 _ hget
   rw [Yw hlt]at q2
   obtain⟨ρ3,e3,q2⟩:=bnd q2
   obtain⟨o3,e4,q2⟩:=bnd q2
   refine⟨go,fun σ4 H4=>∃ F4 ρ4,FInv X.K s g xs o F₀ F F1 H₀ H H1 (i+1) σ4 H4 F4 ρ4,fun σ4 H4 h=>⟨xs.length-(i+1),by lia,rfl,hlt,h⟩,fun x H3 y=>?_⟩
   obtain⟨F3,E3,R3⟩:=yld x H3 y
   refine⟨F3,H₀,ρ2,xs[i],ρ3,S2.ext E3,R3,e3,fun σ5 S5=>⟨F₀,H₀,F3,ρ3,o3,E2.trans E3,S5,e4,?_⟩⟩
   have TT0:=T0.trans E3.stay
   have TT1:=T1.trans E3.stay
   cases o3 with
   | nx ρ6=>exact fun F6 H6 σ6 E6 T6 S6=>⟨F6,ρ6,E6,TT0.trans T6,TT1.trans T6,S6,q2⟩
   | ct ρ6=>exact fun F6 H6 σ6 E6 T6 S6=>⟨F6,ρ6,E6,TT0.trans T6,TT1.trans T6,S6,q2⟩
   | bk ρ6=>cases q2;exact fun F6 H6 σ6 E6 T6 S6=>k F6 H6 σ6 E6 (TT0.trans T6) S6
   | rt d=>cases q2;exact k
   | ex x ρ6=>cases q2;exact k
  ·left
   have hge:xs.length<=i:=Y2 hlt
   refine⟨it2 hge,?_⟩
   rw [List.drop_eq_nil_of_le hge]at q2
   cases q2
   exact k F2 H2 σ2 E2 T0 S2
def rng1:List D->Option (List D)
 | [.int j]=>if -4611686018427387904<=j/\j<4611686018427387904 then some ((List.range j.toNat).map fun(k:Nat)=>.int (0+(k:Int)))else none
 | _=>none
theorem zM4{K:PySem.W.Frag}{F:Addr->Prop}{H:Hp}(lo:Int)(n:Nat):ItD K F H ((List.range n).map fun(k:Nat)=>.int (lo+(k:Int))) (Itr lo n):=fun F2 H2 T z i=>by
 refine⟨fun d hd=>?_,fun hl=>?_⟩
 ·have hi:i<n:=by
   have:=(Qf.mp hd).1
   simpa using this
  have hd':d=.int (lo+(i:Int)):=by
   rw [QM,List.getElem?_range hi]at hd
   cases hd;rfl
  subst hd'
  refine⟨hi,fun x H3 y=>?_⟩
  obtain⟨y1,y2⟩:=y
  subst y1 y2
  exact⟨F2,Ext.refl _ _,.int _⟩
 ·show n<=i
  simpa using hl
theorem zMd(hg:Gl X "range")(hm:X.mg "range"=none)(ha:DA X [a] gr)(hs:starEach [a] X.env=[(false,eval a X.env)]:=by rfl):DI X tg (.Call (.Name "range" p) [a] [] pos) (fun ρ=>(gr ρ).bind rng1):=
 zGy (zOW hg hm ha hs) fun σ H R zz=>by
  obtain⟨F,H₀,ρ,ds,S,q,k⟩:=zz
  obtain⟨xs,e1,q⟩:=bnd q
  unfold rng1 at q
  split at q
  ·rename_i j
   by_cases hj:-4611686018427387904<=j/\j<4611686018427387904
   ·rw [if_pos hj]at q
    cases q
    refine⟨F,H₀,ρ,_,S,e1,fun F1 H1 vs E1 R1=>?_⟩
    cases R1 with
    | cons r rs=>
     cases r
     cases rs
     exact⟨j,rfl,by lia,by lia,k F1 H1 _ E1 (zM4 0 _)⟩
   ·rw [if_neg hj]at q;cases q
  ·cases q
def seqD:D->Option (List D)
 | .list ds=>some ds
 | .tuple ds=>some ds
 | _=>none
theorem zM3{K:PySem.W.Frag}{F:Addr->Prop}{H:Hp}{a:Addr}{vs:List V}{ds:List D}(h:FzL K F H a vs)(r:Reps K F H ds vs):ItD K F H ds (Itl K a):=fun F2 H2 T z i=>by
 have h2:=h.stay T
 have r2:=r.stay T
 refine⟨fun d hd=>?_,fun hl=>⟨vs,h2.sq,by rw [<- r2.length];exact hl⟩⟩
 obtain⟨v,e,rv⟩:=r2.get hd
 refine⟨⟨vs,v,h2.sq,e⟩,fun x H3 y=>?_⟩
 obtain⟨y1,y2⟩:=y
 subst y1
 have:=y2 vs h2.sq
 rw [e]at this;cases this
 exact⟨F2,Ext.refl _ _,rv⟩
theorem zM5{K:PySem.W.Frag}{F:Addr->Prop}{H:Hp}{a:Addr}{vs:List V}{ds:List D}(h:SqT K H a vs)(r:Reps K F H ds vs):ItD K F H ds (Itt K a):=fun F2 H2 T z i=>by
 have h2:=T.tp _ _ h
 have r2:=r.stay T
 refine⟨fun d hd=>?_,fun hl=>⟨vs,h2,by rw [<- r2.length];exact hl⟩⟩
 obtain⟨v,e,rv⟩:=r2.get hd
 refine⟨⟨vs,v,h2,e⟩,fun x H3 y=>?_⟩
 obtain⟨y1,y2⟩:=y
 subst y1
 have:=y2 vs h2
 rw [e]at this;cases this
 exact⟨F2,Ext.refl _ _,rv⟩
theorem zHQ(ha:DE X e ga):DI X tg e (fun ρ=>(ga ρ).bind seqD):=by
 intro pins s σ H R I h
 obtain⟨F,H₀,ρ,ds,S,q,k⟩:=h
 obtain⟨d,e1,q⟩:=bnd q
 refine thn (ha pins s σ H (fun x H1=>∃ F1,Ext F F1 H H1/\Rep X.K F1 H1 d x) I ⟨F,H₀,ρ,d,S,e1,fun F1 H1 v E1 R1=>⟨F1,E1,R1⟩⟩) fun v s1 zz=>?_
 obtain⟨x,H1,I1,r1,F1,E1,R1⟩:=zz
 cases R1 with
 | @lst a vs ds' hq rr=>
  cases q
  cases r1
  obtain⟨its,rv,p,hz⟩:=I1.list hq.sq
  refine Jt p.isList ?_
  refine⟨s1.heap.objs.size,[s1.heap.objs.size],_,_,H1,rfl,I1.kept (t':=s1.toks) fun b o e=>Qc _ e,zQi a _,⟨_,Qs _ rfl,rfl,rfl⟩,fun b hb=>?_,k F1 H1 _ E1 (zM3 hq rr)⟩
  have e:b=s1.heap.objs.size:=by simpa using hb
  subst e
  exact I1.fpOk (Qh _) (I1.hok.fresh (Qh _))
 | @tup a vs ds' hq rr=>
  cases q
  cases r1
  obtain⟨its,rv,p,hz⟩:=I1.tuple hq
  refine wpAny_pyIter_tuple (show s1.heap.IsTuple a its.toArray from p) ?_
  refine⟨s1.heap.objs.size,[s1.heap.objs.size],_,_,H1,rfl,I1.kept (t':=s1.toks) fun b o e=>Qc _ e,zQl a _,⟨_,Qs _ rfl,rfl,rfl⟩,fun b hb=>?_,k F1 H1 _ E1 (zM5 hq rr)⟩
  have e:b=s1.heap.objs.size:=by simpa using hb
  subst e
  exact I1.fpOk (Qh _) (I1.hok.fresh (Qh _))
 | non=>cases q
 | dct _ _ _ _ _=>cases q
 | exn _ _ _=>cases q
 | bl _=>cases q
 | int _=>cases q
 | str _=>cases q
end
def zAG(n:Nat)(ds:List D):Rho:=ds.map .dat++List.replicate (n-ds.length) .no
def fnD(n:Nat)(g:Rho->Option Out):List D->Option D:=fun ds=>match g (zAG n ds)with
 | some (.rt d)=>some d
 | some (.nx _)=>some .none
 | _=>none
theorem zKJ{K:PySem.W.Frag}{F:Addr->Prop}{H:Hp}{N:List Str}{ds:List D}{vs:List V}(z:∀ a,F a->H a≠none)(r:Reps K F H ds vs):StOk K F H H (L2.start N vs) (zAG N.length ds):=by
 have hl:=r.length
 refine⟨by simp [L2.start,zAG,hl],fun i s h=>?_,fun i j a es es' hij h1=>?_,z⟩
 ·unfold zAG at h
  by_cases hi:i<ds.length
  ·rw [YL (by simpa using hi),QM]at h
   cases e:ds[i]? with
   | none=>rw [e]at h;cases h
   | some d=>
    rw [e]at h;cases h
    obtain⟨v,e2,rv⟩:=r.get e
    refine⟨some v,?_,v,rfl,rv⟩
    unfold L2.start
    rw [YL (by simpa using(by lia:i<vs.length)),QM,e2]
    rfl
  ·rw [YF (by simpa using hi),Jg]at h
   split at h
   ·rename_i hlt
    cases h
    refine⟨none,?_,trivial⟩
    unfold L2.start
    rw [YF (by simpa using(by lia:vs.length<=i)),Jg,if_pos (by simp at hlt ⊢;lia)]
   ·cases h
 ·unfold zAG at h1
  by_cases hi:i<ds.length
  ·rw [YL (by simpa using hi),QM]at h1
   cases e:ds[i]? with
   | none=>rw [e]at h1;cases h1
   | some d=>rw [e]at h1;cases h1
  ·rw [YF (by simpa using hi),Jg]at h1
   split at h1 <;> cases h1
theorem fn_D{P:Program}{w:World}{K:PySem.W.Frag}{mg:Str->Option Value}{base:Heap}{x qual:Str}{st:Stmt}{f:Addr}{fd:FuncData}{N ps:List Str}{k:Nat}{g:Rho->Option Out}(F:Fun K x qual st f fd)(S:zAp N ps (zAg st))
  (hb:∀(cdv:Value) (A:Around) (outer:List Env) (s:Shared) (H:Hp) (E:XK),Room k (A.deeper (envOfC qual (zAg st) s.heap.objs.size f cdv))->
   DSs (cxOf CX0 P w K mg base N qual (zAg st) f cdv A outer s H E).nox (zA3 st) g):FnOk P w K mg base CX0 (k+1) f fd ps (spD K ps.length (fnD N.length g)):=by
 refine F.ok S (fun vs H Q E h=>?_) (fun cdv A outer s H vs Q E hr h=>?_)
 ·obtain⟨F,ds,d,hl,_,r,_⟩:=h
  rw [<- r.length,hl]
 ·obtain⟨F,ds,d,hl,z,r,q,kk⟩:=h
  refine⟨_,hb cdv A outer s H E hr,?_⟩
  unfold fnD at q
  split at q
  ·rename_i d' e
   cases q
   exact⟨F,H,F,_,_,Ext.refl F H,zKJ z r,e,fun F' H' v E' R'=>kk F' H' v E' R'⟩
  ·rename_i ρ' e
   cases q
   exact⟨F,H,F,_,_,Ext.refl F H,zKJ z r,e,fun F' H' σ' E' T' S'=>kk F' H' .non E' .non⟩
  ·cases q
end DL
namespace DL
open PySem PySem.Spec PySem.SeqAt PyProof.Rows L2
mutual
theorem Rep.reads{X:Cx}{pins:List (Addr × Obj)}{σ:L2.St}{H:Hp}{s:Shared}{F:Addr->Prop}(I:L2.Inv X pins σ H s){d:D}{x:V}{u:Value}(h:Rep X.K F H d x)(c:d.canLay0=true)(r:L2.RelV x u):∃ as,Reads s.heap u d as:=by
 cases h with
 | non=>cases r;exact⟨_,.none⟩
 | bl b=>cases r;exact⟨_,.bool b⟩
 | int i=>obtain⟨t,rfl⟩:=r;exact⟨_,.int i t⟩
 | str x=>obtain⟨t,rfl⟩:=r;exact⟨_,.str x t⟩
 | tup h q=>
  cases r
  obtain⟨its,rv,⟨o,ho,hc,n,hd⟩,_⟩:=I.tuple h
  obtain⟨as,z⟩:=Reps.reads I q c rv
  exact⟨_,.tuple ho hc hd z⟩
 | lst h q=>
  cases r
  obtain⟨its,rv,pl,_⟩:=I.list h.sq
  obtain⟨o,n,ho,hc,_,hd⟩:=pl
  obtain⟨as,z⟩:=Reps.reads I q c rv
  exact⟨_,.list ho hc hd z⟩
 | dct f h n l r=>cases c
 | exn f h n=>cases c
theorem Reps.reads{X:Cx}{pins:List (Addr × Obj)}{σ:L2.St}{H:Hp}{s:Shared}{F:Addr->Prop}(I:L2.Inv X pins σ H s){ds:List D}{xs:List V}{us:List Value}(h:Reps X.K F H ds xs)(c:PyData.canLayAll0 ds=true)(r:L2.Vals xs us):∃ as,ReadsAll s.heap us ds as:=by
 cases h with
 | nil=>cases r;exact⟨_,.nil⟩
 | cons h q=>
  have c:=Qy.mp c
  cases r with
  | cons r1 r2=>
   obtain⟨as,z⟩:=Rep.reads I h c.1 r1
   obtain⟨bs,y⟩:=Reps.reads I q c.2 r2
   exact⟨_,.cons z y⟩
end
def dI0(t:Int->Int->D):D->D->Option D
 | .int i,.int j=>some (t i j)
 | _,_=>none
def dI2(C:Int->Int->Bool)(t:Int->Int->D):D->D->Option D
 | .int i,.int j=>if C i j=true then some (t i j)else none
 | _,_=>none
def zBY(i j:Int):Bool:=(decide (-18446744073709551616<i) && decide (i<18446744073709551616)) || (decide (-18446744073709551616<j) && decide (j<18446744073709551616))
def zC6(_ j:Int):Bool:=decide (0<j) && decide (j<1073741824)
def zJH(_ j:Int):Bool:=decide (0<j)
section
variable {X:Cx}
theorem opd0{f:Value->Value->Sem Value}{g:Int->Int->V}{t:Int->Int->D}(h:OpR X f (rI0 g))(r:∀ i j K F H,Rep K F H (t i j) (g i j)):OpR X f (rD2 X.K (dI0 t)):=
 zDT h fun x y H Q zz=>by
  obtain⟨F,d,e,q,z,R1,R2,hq,k⟩:=zz
  unfold dI0 at hq
  split at hq
  ·cases hq
   cases R1
   cases R2
   exact⟨_,_,rfl,rfl,k F H _ (Ext.refl F H) (r _ _ _ _ _)⟩
  ·cases hq
theorem opd2{f:Value->Value->Sem Value}{C:Int->Int->Prop}{B:Int->Int->Bool}{g:Int->Int->V}{t:Int->Int->D}(h:OpR X f (rI C g))(hB:∀ i j,B i j=true->C i j)(r:∀ i j K F H,Rep K F H (t i j) (g i j)):OpR X f (rD2 X.K (dI2 B t)):=
 zDT h fun x y H Q zz=>by
  obtain⟨F,d,e,q,z,R1,R2,hq,k⟩:=zz
  unfold dI2 at hq
  split at hq
  ·rename_i i j
   by_cases hb:B i j=true
   ·rw [if_pos hb]at hq
    cases hq
    cases R1
    cases R2
    exact⟨_,_,rfl,rfl,hB _ _ hb,k F H _ (Ext.refl F H) (r _ _ _ _ _)⟩
   ·rw [if_neg hb]at hq;cases hq
  ·cases hq
def dSub:D->D->Option D:=dI0 fun i j=>.int (i-j)
def dMul:D->D->Option D:=dI2 zBY fun i j=>.int (i * j)
def zBo:D->D->Option D:=dI2 zC6 fun i j=>.int (i / j)
def dMod:D->D->Option D:=dI2 zJH fun i j=>.int (i % j)
def dLe:D->D->Option D:=dI0 fun i j=>.bool (decide (i<=j))
def dGt:D->D->Option D:=dI0 fun i j=>.bool (decide (j<i))
theorem zCA:OpR X (binaryOp .Sub) (rD2 X.K dSub):=opd0 zOs fun _ _ _ _ _=>.int _
theorem zOv:OpR X (binaryOp .Mult) (rD2 X.K dMul):=opd2 zOq (fun i j h=>by
 unfold zBY at h
 simp only [Bool.or_eq_true,QH,decide_eq_true_eq]at h
 unfold CMul
 lia) fun _ _ _ _ _=>.int _
theorem zCy:OpR X (binaryOp .FloorDiv) (rD2 X.K zBo):=opd2 zOn (fun i j h=>by
 unfold zC6 at h
 simp only [QH,decide_eq_true_eq]at h
 exact h) fun _ _ _ _ _=>.int _
theorem zCc:OpR X (binaryOp .Mod) (rD2 X.K dMod):=opd2 zOp (fun i j h=>by
 unfold zJH at h
 simpa using h) fun _ _ _ _ _=>.int _
theorem zDS:OpR X (compareOp .LtE) (rD2 X.K dLe):=opd0 op_le fun _ _ _ _ _=>.bl _
theorem zEI:OpR X (compareOp .Gt) (rD2 X.K dGt):=opd0 op_gt fun _ _ _ _ _=>.bl _
def dNeg:D->Option D
 | .int i=>some (.int (-i))
 | _=>none
theorem zDb:UnR X (unaryOp .USub) (rD1 X.K dNeg):=zQr zQq fun x H Q zz=>by
 obtain⟨F,d,q,z,R1,hq,k⟩:=zz
 unfold dNeg at hq
 split at hq
 ·cases hq
  cases R1
  exact⟨_,rfl,k F H _ (Ext.refl F H) (.int _)⟩
 ·cases hq
def dEq(d e:D):Option D:=if(shaped d && shaped e)=true then some (.bool (PyData.eqv d e))else none
def dNe(d e:D):Option D:=if(shaped d && shaped e)=true then some (.bool (!PyData.eqv d e))else none
theorem zCb(hu:X.A.units+64<cLine):OpR X (compareOp .Eq) (rD2 X.K dEq):=fun pins s σ H x y v u Q I rx ry zz=>by
 obtain⟨F,d,e,q,z,R1,R2,hq,k⟩:=zz
 unfold dEq at hq
 by_cases c:(shaped d && shaped e)=true
 ·rw [if_pos c]at hq
  cases hq
  have c':=Qy.mp c
  obtain⟨as,a1⟩:=R1.reads I (QN c'.1) rx
  obtain⟨bs,a2⟩:=R2.reads I (QN c'.2) ry
  exact eq_dataH a1 a2 c'.1 c'.2 hu ⟨.bl _,H,I,rfl,k F H _ (Ext.refl F H) (.bl _)⟩
 ·rw [if_neg c]at hq;cases hq
theorem zBC(hu:X.A.units+64<cLine):OpR X (compareOp .NotEq) (rD2 X.K dNe):=fun pins s σ H x y v u Q I rx ry zz=>by
 obtain⟨F,d,e,q,z,R1,R2,hq,k⟩:=zz
 unfold dNe at hq
 by_cases c:(shaped d && shaped e)=true
 ·rw [if_pos c]at hq
  cases hq
  have c':=Qy.mp c
  obtain⟨as,a1⟩:=R1.reads I (QN c'.1) rx
  obtain⟨bs,a2⟩:=R2.reads I (QN c'.2) ry
  exact ne_dataH a1 a2 c'.1 c'.2 hu ⟨.bl _,H,I,rfl,k F H _ (Ext.refl F H) (.bl _)⟩
 ·rw [if_neg c]at hq;cases hq
def dIn(neg:Bool)(d:D):D->Option D
 | .list xs=>if(shaped d && shaped (.list xs))=true then some (.bool (if neg then !(xs.any fun y=>PyData.eqv y d)else xs.any fun y=>PyData.eqv y d))else none
 | .tuple xs=>if(shaped d && shaped (.tuple xs))=true then some (.bool (if neg then !(xs.any fun y=>PyData.eqv y d)else xs.any fun y=>PyData.eqv y d))else none
 | _=>none
theorem zGt(hu:X.A.units+65<cLine):OpR X (compareOp .In) (rD2 X.K (dIn false)):=fun pins s σ H x y v u Q I rx ry zz=>by
 obtain⟨F,d,e,q,z,R1,R2,hq,k⟩:=zz
 unfold dIn at hq
 split at hq
 ·rename_i xs
  by_cases c:(shaped d && shaped (.list xs))=true
  ·rw [if_pos c]at hq
   cases hq
   have c':=Qy.mp c
   obtain⟨as,a1⟩:=R1.reads I (QN c'.1) rx
   obtain⟨bs,a2⟩:=R2.reads I (QN c'.2) ry
   exact in_list_reads a2 a1 (QN c'.2) (QN c'.1) (room_in_shaped c'.1 hu) ⟨.bl _,H,I,rfl,k F H _ (Ext.refl F H) (.bl _)⟩
  ·rw [if_neg c]at hq;cases hq
 ·rename_i xs
  by_cases c:(shaped d && shaped (.tuple xs))=true
  ·rw [if_pos c]at hq
   cases hq
   have c':=Qy.mp c
   obtain⟨as,a1⟩:=R1.reads I (QN c'.1) rx
   obtain⟨bs,a2⟩:=R2.reads I (QN c'.2) ry
   exact in_tuple_reads a2 a1 (QN c'.2) (QN c'.1) (room_in_shaped c'.1 hu) ⟨.bl _,H,I,rfl,k F H _ (Ext.refl F H) (.bl _)⟩
  ·rw [if_neg c]at hq;cases hq
 ·cases hq
theorem zGu(hu:X.A.units+65<cLine):OpR X (compareOp .NotIn) (rD2 X.K (dIn true)):=fun pins s σ H x y v u Q I rx ry zz=>by
 obtain⟨F,d,e,q,z,R1,R2,hq,k⟩:=zz
 unfold dIn at hq
 split at hq
 ·rename_i xs
  by_cases c:(shaped d && shaped (.list xs))=true
  ·rw [if_pos c]at hq
   cases hq
   have c':=Qy.mp c
   obtain⟨as,a1⟩:=R1.reads I (QN c'.1) rx
   obtain⟨bs,a2⟩:=R2.reads I (QN c'.2) ry
   exact notIn_list_reads a2 a1 (QN c'.2) (QN c'.1) (room_in_shaped c'.1 hu) ⟨.bl _,H,I,rfl,k F H _ (Ext.refl F H) (.bl _)⟩
  ·rw [if_neg c]at hq;cases hq
 ·rename_i xs
  by_cases c:(shaped d && shaped (.tuple xs))=true
  ·rw [if_pos c]at hq
   cases hq
   have c':=Qy.mp c
   obtain⟨as,a1⟩:=R1.reads I (QN c'.1) rx
   obtain⟨bs,a2⟩:=R2.reads I (QN c'.2) ry
   exact notIn_tuple_reads a2 a1 (QN c'.2) (QN c'.1) (room_in_shaped c'.1 hu) ⟨.bl _,H,I,rfl,k F H _ (Ext.refl F H) (.bl _)⟩
  ·rw [if_neg c]at hq;cases hq
 ·cases hq
def dIx:D->D->Option D
 | .tuple xs,.int i=>atI xs i
 | .list xs,.int i=>atI xs i
 | _,_=>none
theorem Reps.atI{K:PySem.W.Frag}{F:Addr->Prop}{H:Hp}{ds:List D}{vs:List V}{i:Int}{d:D}(r:Reps K F H ds vs)(h:L2.atI ds i=some d):∃ v,L2.atI vs i=some v/\Rep K F H d v:=by
 unfold L2.atI at h ⊢
 rw [r.length]at h
 cases e:ixN vs.length i with
 | none=>rw [e]at h;cases h
 | some j=>
  rw [e]at h
  obtain⟨v,h1,h2⟩:=r.get (show ds[j]?=some d from h)
  exact⟨v,h1,h2⟩
theorem ixd:IxR X (rD2 X.K dIx):=zNe (zNb.or zNd) fun x y H Q zz=>by
 obtain⟨F,d,e,q,z,R1,R2,hq,k⟩:=zz
 unfold dIx at hq
 split at hq
 ·rename_i xs i
  cases R1 with
  | @tup a vs _ h1 r1=>
   cases R2
   obtain⟨v,g1,g2⟩:=r1.atI hq
   exact .inr ⟨a,vs,i,v,rfl,rfl,h1,g1,k F H _ (Ext.refl F H) g2⟩
 ·rename_i xs i
  cases R1 with
  | @lst a vs _ h1 r1=>
   cases R2
   obtain⟨v,g1,g2⟩:=r1.atI hq
   exact .inl ⟨a,vs,i,v,rfl,rfl,h1.sq,g1,k F H _ (Ext.refl F H) g2⟩
 ·cases hq
def dLen:List D->Option D
 | [.list xs]=>some (.int xs.length)
 | [.tuple xs]=>some (.int xs.length)
 | _=>none
theorem zD9:zAF X (.builtin "len") (rDA X.K dLen):=zB4 zLu fun xs H Q zz=>by
 obtain⟨F,ds,q,z,R,hq,k⟩:=zz
 unfold dLen at hq
 split at hq
 ·cases hq
  cases R with
  | cons R1 R2=>
   cases R2
   cases R1 with
   | @lst a vs _ h1 r1=>exact⟨a,vs,rfl,.inl h1.sq,by rw [<- r1.length];exact k F H _ (Ext.refl F H) (.int _)⟩
 ·cases hq
  cases R with
  | cons R1 R2=>
   cases R2
   cases R1 with
   | @tup a vs _ h1 r1=>exact⟨a,vs,rfl,.inr h1,by rw [<- r1.length];exact k F H _ (Ext.refl F H) (.int _)⟩
 ·cases hq
def dAbs:List D->Option D
 | [.int i]=>some (.int (if i<0 then -i else i))
 | _=>none
theorem zFn:zAF X (.builtin "abs") (rDA X.K dAbs):=zB4 zLq fun xs H Q zz=>by
 obtain⟨F,ds,q,z,R,hq,k⟩:=zz
 unfold dAbs at hq
 split at hq
 ·cases hq
  cases R with
  | cons R1 R2=>cases R2;cases R1;exact⟨_,rfl,k F H _ (Ext.refl F H) (.int _)⟩
 ·cases hq
def zBB:List D->Option (List Int)
 | []=>some []
 | .int i::r=>(zBB r).bind fun is=>some (i::is)
 | _=>none
def zEx:List Int->Option Int
 | []=>none
 | [a]=>some a
 | a::r=>(zEx r).bind fun b=>some (if a<=b then a else b)
theorem zI9:∀{l:List Int}{m:Int},zEx l=some m->m∈l/\∀ a∈l,m<=a
 | [],_,h=>by cases h
 | [a],m,h=>by cases h;simp
 | a::b::r,m,h=>by
  obtain⟨c,e,h⟩:=bnd h
  obtain⟨h1,h2⟩:=zI9 e
  cases h
  by_cases q:a<=c
  ·rw [if_pos q]
   refine⟨Qe,fun x hx=>?_⟩
   rcases Qi.mp hx with hx | hx
   ·rw [hx];exact Int.le_refl _
   ·exact Int.le_trans q (h2 x hx)
  ·rw [if_neg q]
   refine⟨Qd _ h1,fun x hx=>?_⟩
   rcases Qi.mp hx with hx | hx
   ·rw [hx];lia
   ·exact h2 x hx
theorem zDJ{K:PySem.W.Frag}{F:Addr->Prop}{H:Hp}:∀{ds:List D}{vs:List V}{is:List Int},Reps K F H ds vs->zBB ds=some is->vs=is.map V.int:=by
 intro ds
 induction ds with
 | nil=>intro vs is r h;cases r;cases h;rfl
 | cons d ds ih=>
  intro vs is r h
  cases r with
  | cons r1 r2=>
   cases d with
   | int i=>
    cases r1
    obtain⟨js,e,h⟩:=bnd h
    cases h
    rw [ih r2 e];rfl
   | _=>cases h
def dMin:List D->Option D
 | [.int i,.int j]=>some (.int (if j<i then j else i))
 | [.list ds]=>(zBB ds).bind fun is=>(zEx is).bind fun m=>some (.int m)
 | _=>none
theorem zLw(hc:X.calm=true):zAF X (.builtin "min") (fun xs H Q=>∃ a is m,xs=[.ref a]/\SqL X.K H a (is.map V.int)/\zEx is=some m/\Q (.int m) H):=by
 intro pins s σ H xs us Q I r h
 obtain⟨a,is,m,rfl,hq,hm,q⟩:=h
 obtain⟨u,rfl,rx⟩:=zBw r
 cases rx
 obtain⟨its,rv,pl,_⟩:=I.list hq
 obtain⟨hm1,hm2⟩:=zI9 hm
 have ia:IntsAre its is:=zGd rv
 obtain⟨xs,e⟩:=ia.allInts.items
 have hl:s.heap.IsList a (intItems xs):=by rw [<- e];exact pl.isList
 have nums:xs.toList.map (·.1)=is:=by
  have:=ia.numsOf
  rw [<- nums_intItems,<- e]
  simpa using this
 have hsz:0<xs.size:=by
  have:0<is.length:=List.length_pos_of_mem hm1
  rw [<- nums,Qj,Qo]at this
  exact this
 refine min_intList (I.ok.hd hc) hl hsz fun v h' tk hv hk=>?_
 obtain⟨t,rfl⟩:=intItems_at hv
 obtain⟨g1,g2⟩:=argBest_lt (numAt xs) (xs.size-1)
 have e1:numAt xs (argBest (fun i j=>decide (numAt xs i<numAt xs j)) (xs.size-1))=m:=by
  apply Int.le_antisymm
  ·rw [<- nums]at hm1
   obtain⟨j,hj,e3⟩:=mem_getD hm1
   rw [Qj,Qo]at hj
   rw [<- e3,<- numAt_eq]
   exact g2 j (by lia)
  ·apply hm2
   rw [<- nums,numAt_eq]
   exact getD_mem (by rw [Qj,Qo];lia)
 exact⟨.int m,H,I.kept hk,⟨t,by rw [e1]⟩,q⟩
theorem zLH(hc:X.calm=true):zAF X (.builtin "min") (rDA X.K dMin):=zB4 ((zLx hc).or (zLw hc)) fun xs H Q zz=>by
 obtain⟨F,ds,q,z,R,hq,k⟩:=zz
 unfold dMin at hq
 split at hq
 ·cases hq
  cases R with
  | cons R1 R2=>
   cases R1
   cases R2 with
   | cons R2 R3=>cases R3;cases R2;exact .inl ⟨_,_,rfl,k F H _ (Ext.refl F H) (.int _)⟩
 ·obtain⟨is,e1,hq⟩:=bnd hq
  obtain⟨m,e2,hq⟩:=bnd hq
  cases hq
  cases R with
  | cons R1 R2=>
   cases R2
   cases R1 with
   | @lst a vs _ h1 r1=>
    have:=zDJ r1 e1
    subst this
    exact .inr ⟨a,is,m,rfl,h1.sq,e2,k F H _ (Ext.refl F H) (.int _)⟩
 ·cases hq
def zCT:List D->Option D
 | [.list xs]=>some (.tuple xs)
 | [.tuple xs]=>some (.tuple xs)
 | _=>none
theorem zEa:zAF X (.type "tuple") (rDA X.K zCT):=zB4 zLA fun xs H Q zz=>by
 obtain⟨F,ds,q,z,R,hq,k⟩:=zz
 unfold zCT at hq
 split at hq
 ·cases hq
  cases R with
  | cons R1 R2=>
   cases R2
   cases R1 with
   | @lst a vs _ h1 r1=>exact⟨a,vs,rfl,.inl ⟨h1.sq,fun l hl=>k F _ _ (Ext.fresh hl) (Rep.newTup hl r1)⟩⟩
 ·cases hq
  cases R with
  | cons R1 R2=>
   cases R2
   cases R1 with
   | @tup a vs _ h1 r1=>exact⟨a,vs,rfl,.inr ⟨h1,k F H _ (Ext.refl F H) (.tup h1 r1)⟩⟩
 ·cases hq
def zFr:List D->Option D
 | [.list xs]=>some (.list xs)
 | [.tuple xs]=>some (.list xs)
 | _=>none
theorem zLG:zAF X (.type "list") (rDA X.K zFr):=zB4 zLv fun xs H Q zz=>by
 obtain⟨F,ds,q,z,R,hq,k⟩:=zz
 unfold zFr at hq
 split at hq
 ·cases hq
  cases R with
  | cons R1 R2=>
   cases R2
   cases R1 with
   | @lst a vs _ h1 r1=>exact⟨a,vs,rfl,.inl h1.sq,fun l hl=>k _ _ _ (Ext.frozen hl) (Rep.newLst hl r1)⟩
 ·cases hq
  cases R with
  | cons R1 R2=>
   cases R2
   cases R1 with
   | @tup a vs _ h1 r1=>exact⟨a,vs,rfl,.inr h1,fun l hl=>k _ _ _ (Ext.frozen hl) (Rep.newLst hl r1)⟩
 ·cases hq
end
end DL
namespace CL
open PySem PySem.Spec PyProof.Rows L2
theorem zFo{env:Env}:∀(names:List (Str × NameKind)) (acc:List (Str × Addr)),(∀ x∈names,x.2=.free->∃ c,env.cells.lookup x.1=some c)->
  (∀ x c,acc.lookup x=some c->env.cells.lookup x=some c)->
  ∃ cl,(forIn names acc (fun(x:Str × NameKind) (cs:List (Str × Addr))=>(do
    if x.2 == .free then
     let c <- cellOf env x.1
     pure (ForInStep.yield ((x.1,c)::cs))
    else pure (ForInStep.yield cs):Sem (ForInStep (List (Str × Addr)))))=(pure cl:Sem _))/\(∀ x c,cl.lookup x=some c->env.cells.lookup x=some c) /\
   (∀ x,(x,NameKind.free)∈names->∃ c,cl.lookup x=some c)/\(∀ x c,acc.lookup x=some c->∃ c',cl.lookup x=some c')/\(∀ x c,cl.lookup x=some c->(x,NameKind.free)∈names ∨ acc.lookup x=some c)
 | [],acc,_,h2=>⟨acc,by rw [List.forIn_nil],h2,fun x h=>by simp at h,fun x c h=>⟨c,h⟩,fun x c h=>.inr h⟩
 | (n,k)::r,acc,h1,h2=>by
  rw [List.forIn_cons]
  by_cases hk:k=.free
  ·subst hk
   obtain⟨c,hc⟩:=h1 (n,.free) (Qe) rfl
   have hc':env.cells.lookup n=some c:=hc
   have h2':∀ x c',((n,c)::acc).lookup x=some c'->env.cells.lookup x=some c':=fun x c' h=>by
    rw [QI]at h
    cases e:x == n with
    | true=>rw [e]at h;cases h;rw [QW e];exact hc'
    | false=>rw [e]at h;exact h2 x c' h
   obtain⟨cl,q,a1,a2,a3,a4⟩:=zFo r ((n,c)::acc) (fun x hx=>h1 x (Qd _ hx)) h2'
   refine⟨cl,?_,a1,fun x hx=>?_,fun x c' h=>?_,fun x c' h=>?_⟩
   ·have e1:cellOf env n=pure c:=by unfold cellOf;rw [hc']
    simp only [beq_self_eq_true,if_true,e1,pure_bind]
    exact q
   ·rcases Qi.mp hx with hx | hx
    ·cases hx
     exact a3 n c (by rw [QI,beq_self_eq_true])
    ·exact a2 x hx
   ·cases e:x == n with
    | true=>rw [QW e];exact a3 n c (by rw [QI,beq_self_eq_true])
    | false=>exact a3 x c' (by rw [QI,e];exact h)
   ·rcases a4 x c' h with h | h
    ·exact .inl (Qd _ h)
    ·rw [QI]at h
     cases e:x == n with
     | true=>rw [QW e];exact .inl Qe
     | false=>rw [e]at h;exact .inr h
  ·obtain⟨cl,q,a1,a2,a3,a4⟩:=zFo r acc (fun x hx=>h1 x (Qd _ hx)) h2
   refine⟨cl,?_,a1,fun x hx=>?_,a3,fun x c h=>(a4 x c h).imp (Qd _) id⟩
   ·have e:(k == NameKind.free)=false:=by simpa using hk
    simp only [e,Qq,if_false,pure_bind]
    exact q
   ·rcases Qi.mp hx with hx | hx
    ·cases hx;exact absurd rfl hk
    ·exact a2 x hx
theorem clos{env:Env}{scope:Scope}(h:∀ x∈scope.names,x.2=.free->∃ c,env.cells.lookup x.1=some c):
  ∃ cl,closureFor scope env=pure cl/\(∀ x c,cl.lookup x=some c->env.cells.lookup x=some c)/\(∀ x,(x,NameKind.free)∈scope.names->∃ c,cl.lookup x=some c)/\(∀ x c,cl.lookup x=some c->(x,NameKind.free)∈scope.names):=by
 obtain⟨cl,q,a1,a2,_,a4⟩:=zFo (env:=env) scope.names [] h (fun x c h=>by simp at h)
 refine⟨cl,?_,a1,a2,fun x c h=>(a4 x c h).elim id fun z=>by simp at z⟩
 simp only [closureFor]
 first
  | exact q
  | (rw [<- q];congr 1;funext x cs;obtain⟨n,k⟩:=x;rfl)
  | simpa using q
def inCx(X:Cx)(N':List Str)(scope:Scope)(cl:List (Str × Addr))(C:Addr)(fp:List Addr)(s:Shared)(H:Hp):Cx:=
 { X with N:=N',s₀:=s,H₀:=H,env:=compEnvC scope cl C X.env,outer:=X.stack,ex:=fp,fn:=fun x=>scope.names.lookup x == some .local,pn:=[],xe:=fun _ _=>False }
structure zB1(X:Cx)(N':List Str)(scope:Scope)(inner:List (Option Nat)):Prop where
 kind:scope.kind=.function
 nocell:∀ x∈scope.names,x.2≠.cell
 loc:∀ x∈scope.names,x.2=.local->scope.names.lookup x.1=some .local
 free:∀ x∈scope.names,x.2=.free->scope.names.lookup x.1=some .free/\(X.env.scope.names.lookup x.1=some .cell ∨ X.env.scope.names.lookup x.1=some .free)
 len:inner.length=N'.length
 out:∀(i j:Nat),inner[i]?=some (some j)->∃ x,N'[i]?=some x/\X.N[j]?=some x/\scope.names.lookup x=some .free
def inSt(inner:List (Option Nat))(σ:L2.St):L2.St:=inner.map fun o=>o.bind fun j=>(σ[j]?).bind id
theorem zGI{env:Env}:∀{names:List (Str × NameKind)}{x:Str},names.lookup x=some .free->
  (names.map fun(n,k)=>if(k == NameKind.free && env.scope.kind == .function && env.kindOf n == some .cell)then(n,NameKind.cell)else(n,k)).lookup x=some .free ∨
  (names.map fun(n,k)=>if(k == NameKind.free && env.scope.kind == .function && env.kindOf n == some .cell)then(n,NameKind.cell)else(n,k)).lookup x=some .cell
 | [],_,h=>by simp at h
 | (n,k)::r,x,h=>by
  have ih:=@zGI env r x
  rw [Qm]
  show List.lookup x ((if(k == NameKind.free && env.scope.kind == .function && env.kindOf n == some .cell)=true then(n,NameKind.cell)else(n,k))::_)=_ ∨ List.lookup x ((if(k == NameKind.free && env.scope.kind == .function && env.kindOf n == some .cell)=true then(n,NameKind.cell)else(n,k))::_)=_
  cases hx:x == n with
  | true=>
   simp only [QI,hx]at h
   cases h
   by_cases hc:(NameKind.free == NameKind.free && env.scope.kind == .function && env.kindOf n == some .cell)=true
   ·rw [if_pos hc];right;simp [QI,hx]
   ·rw [if_neg hc];left;simp [QI,hx]
  | false=>
   simp only [QI,hx]at h
   by_cases hc:(k == NameKind.free && env.scope.kind == .function && env.kindOf n == some .cell)=true
   ·rw [if_pos hc];simp only [QI,hx];exact ih h
   ·rw [if_neg hc];simp only [QI,hx];exact ih h
theorem zGG{env:Env}:∀{names:List (Str × NameKind)}{x:Str}{q:NameKind},(∀ y∈names,y.2≠.cell)->(q=.cell ∨ q=.free)->
  (names.map fun(n,k)=>if(k == NameKind.free && env.scope.kind == .function && env.kindOf n == some .cell)then(n,NameKind.cell)else(n,k)).lookup x=some q->(x,NameKind.free)∈names
 | [],_,_,_,_,h=>by simp at h
 | (n,k)::r,x,q,hn,hq,h=>by
  have ih:=@zGG env r x q (fun y hy=>hn y (Qd _ hy)) hq
  rw [Qm]at h
  have h':List.lookup x ((if(k == NameKind.free && env.scope.kind == .function && env.kindOf n == some .cell)=true then(n,NameKind.cell)else(n,k))::_)=some q:=h
  cases hx:x == n with
  | true=>
   have e:x=n:=QW hx
   by_cases hc:(k == NameKind.free && env.scope.kind == .function && env.kindOf n == some .cell)=true
   ·have:k=.free:=by
     have:=hc
     simp only [QH,beq_iff_eq]at this
     exact this.1.1
    rw [e,this];exact Qe
   ·rw [if_neg hc]at h'
    simp only [QI,hx]at h'
    have kq:k=q:=QF h'
    rcases hq with z | z
    ·exact absurd (kq.trans z) (hn (n,k) Qe)
    ·rw [e,<- z,<- kq];exact Qe
  | false=>
   by_cases hc:(k == NameKind.free && env.scope.kind == .function && env.kindOf n == some .cell)=true
   ·rw [if_pos hc]at h';simp only [QI,hx]at h';exact Qd _ (ih h')
   ·rw [if_neg hc]at h';simp only [QI,hx]at h';exact Qd _ (ih h')
section
variable {X:Cx}{N':List Str}{scope:Scope}{inner:List (Option Nat)}{cl:List (Str × Addr)}{C:Addr}{fp:List Addr}{s s4:Shared}{H:Hp}{σ:L2.St}{pins:List (Addr × Obj)}
theorem zMW(CS:zB1 X N' scope inner)(I:Inv X pins σ H s)(hf:∀ b∈fp,FpOk X pins H b)(c1:∀ x c,cl.lookup x=some c->X.env.cells.lookup x=some c)(c2:∀ x,(x,NameKind.free)∈scope.names->∃ c,cl.lookup x=some c)(c3:∀ x c,cl.lookup x=some c->(x,NameKind.free)∈scope.names)
  (hfl:∀ b∈fp,b<s.heap.objs.size) (hC:C=s.heap.objs.size) {h':Heap}{tk:Nat} (hk:∀ b o,s.heap.get? b=some o->h'.get? b=some o) (hns:h'.Ns C fun _=>none) (hs4:s4={ s with heap:=h',toks:=tk }):
  Inv (inCx X N' scope cl C fp s H) [] (inSt inner σ) H s4:=by
 subst hs4
 have old:∀ b o,s.heap.get? b=some o->b≠C:=fun b o e=>by rw [hC];exact Qt (Qk e)
 have cC:∀ x c,cl.lookup x=some c->c≠C:=fun x c e=>by
  obtain⟨v,o,q,_⟩:=I.cell x c (c1 x c e)
  exact old c o q
 refine⟨⟨I.ok.mod,CS.kind,I.ok.glob,I.ok.blt,?_,fun x y c h1 h2=>I.ok.inj x y c (c1 x c h1) (c1 y c h2),fun x hx=>?_,fun x c hx h=>?_,I.ok.hd,I.ok.frames,.inl rfl,fun b hb=>⟨?_,fun x c e z=>(hf b hb).2.2.2.2.1 x c (c1 x c e) z⟩,I.bs,Ql I.ok.bsz I.sz,fun b o e hb=>?_,fun b hb=>?_,I.stack,I.stkFree⟩,
  rfl,I.bare,Un.kept hk,⟨_,hns,fun i x v e1 e2 e3=>?_⟩,fun x c e=>?_,?_,fun x c e=>I.freeC x c (c1 x c e),fun p hp=>absurd (show p∈([]:List (Addr × Obj))from hp) (by simp),I.hok.kept hk,?_⟩
 ·show s.heap.objs.size<=C
  rw [hC];exact Qh _
 ·have hx':(relabel scope X.env).names.lookup x=some .cell ∨ (relabel scope X.env).names.lookup x=some .free:=hx
  rcases hx' with hx' | hx'
  ·exact c2 x (zGG CS.nocell (.inl rfl) hx')
  ·exact c2 x (zGG CS.nocell (.inr rfl) hx')
 ·have hx':(scope.names.lookup x == some NameKind.local)=true:=hx
  have e1:scope.names.lookup x=some .local:=QW hx'
  have e2:=(CS.free _ (c3 x c h) rfl).1
  rw [e1]at e2;cases e2
 ·show b≠C
  rw [hC];exact Qt (hfl b hb)
 ·rcases(hf b hb).2.2.2.1 with z | z
  ·exact I.ok.noex b o e z
  ·exact absurd (Qz (Qk e) (Ql I.ok.bsz z)) (YN _)
 ·intro z
  rcases Qi.mp (I.stkSub b z)with q | q
  ·exact(hf b hb).2.1 q
  ·exact(hf b hb).2.2.1 q
 ·-- a name of the block: one that is free,read through its cell
  unfold inSt at e2
  rw [QM]at e2
  cases ei:inner[i]? with
  | none=>rw [ei]at e2;cases e2
  | some o=>
   rw [ei]at e2
   cases o with
   | none=>cases e2
   | some j=>
    have e2':(σ[j]?).bind id=some v:=by simpa using e2
    have e4:σ[j]?=some (some v):=by
     cases ej:σ[j]? with
     | none=>rw [ej]at e2';cases e2'
     | some w'=>rw [ej]at e2';exact congrArg some e2'
    obtain⟨x',g1,g2,g3⟩:=CS.out i j ei
    have e1':N'[i]?=some x:=e1
    rw [e1']at g1;cases g1
    have mem:(x,NameKind.free)∈scope.names:=PySem.mem_of_lookup g3
    have outer:=(CS.free _ mem rfl).2
    obtain⟨m,hm,hl⟩:=I.loc
    have vis:Vis X.env.scope x:=outer.elim (fun z=>.inr (.inl z)) fun z=>.inr (.inr z)
    obtain⟨u,ru,lk⟩:=hl j x v g2 e4 vis
    refine⟨u,ru,?_⟩
    obtain⟨c,hc⟩:=c2 x mem
    rcases lk with⟨k1,_⟩ | ⟨_,c',k2,k3⟩
    ·have k1':X.env.scope.names.lookup x=some .local:=k1
     rcases outer with z | z <;> (rw [k1']at z;cases z)
    ·have e5:=c1 x c hc
     rw [k2]at e5;cases e5
     refine .inr ⟨?_,c,hc,(let⟨o,q1,q2⟩:=k3;⟨o,hk _ o q1,q2⟩)⟩
     have:=zGI (env:=X.env) g3
     exact this.elim .inr .inl
 ·obtain⟨v,q⟩:=I.cell x c (c1 x c e)
  exact⟨v,(let⟨o,q1,q2⟩:=q;⟨o,hk _ o q1,q2⟩)⟩
 ·show H C=none
  exact I.hok.fresh (by rw [hC];exact Qh _)
 ·show(inSt inner σ).length=N'.length
  unfold inSt
  rw [Qj];exact CS.len
theorem zMU(I:Inv X pins σ H s)(hf:∀ b∈fp,FpOk X pins H b)(hC:C=s.heap.objs.size){σ':L2.St}{H':Hp}{s5:Shared}(J:Inv (inCx X N' scope cl C fp s H) [] σ' H' s5){h':Heap}(sb:Heap.SameBut C s5.heap h'):
  Inv X pins σ H' { s5 with heap:=h' }:=by
 have old:∀ b o,s.heap.get? b=some o->b≠C:=fun b o e=>by rw [hC];exact Qt (Qk e)
 have U:Un (frs X.stack) fp H H' s.heap s5.heap:=J.base
 have nC:H' C=none:=J.free
 refine I.call' (ch:=fp) J.os ⟨fun b o e n hb hx=>?_,fun b o e n hb hx=>?_,U.free,fun b o e hx=>?_,U.tups,U.frzs,U.tbls⟩ (fun b u e=>?_) J.bare fun b hb=>?_
 ·rw [sb.2 b (old b o e)];exact U.keep b o e n hb hx
 ·obtain⟨sl,q⟩:=U.slot b o e n hb hx
  exact⟨sl,by rw [sb.2 b (old b o e)];exact q⟩
 ·obtain⟨o',q⟩:=U.there b o e hx
  exact⟨o',by rw [sb.2 b (old b o e)];exact q⟩
 ·have nt:∀ c v,H' c=some v->c≠C:=fun c v q z=>by rw [z,nC]at q;cases q
  refine(J.hok b u e).stay (fun c v hc q=>?_) (fun _ q=>q) fun _ _ q=>q
  rw [sb.2 c ?_]
  ·exact q
  ·rcases hc with z | z
   ·rw [z];exact nt b u e
   ·exact nt c _ z
 ·exact⟨(hf b hb).2.2.2.1,(hf b hb).2.1,(hf b hb).2.2.2.2.1,(hf b hb).2.2.2.2.2⟩
end
def PTs(X:Cx)(ifs:List Expr)(t:TT):Prop:=
 ∀(pins:List (Addr × Obj)) (s:Shared) (σ:L2.St) (H:Hp) (Q:Bool->Hp->Prop),Inv X pins σ H s->t σ H Q->
  wpAny (model X.prog X.w) X.A (forIn ifs true fun c r=>if r=true then do let ok <- isTrue c X.env (eval c X.env);pure (ForInStep.yield ok)else pure (ForInStep.yield r)) (TP X pins σ Q) X.xe s
theorem zPg{X:Cx}{c:Expr}{t:TT}(h:PT X c t):PTs X [c] t:=fun pins s σ H Q I q=>wpAny_tests_one (h pins s σ H Q I q)
def zE6(wi:TI)(g:TG)(ti:TT)(te:TE)(inner:List (Option Nat)):TE:=fun σ H Q=>wi σ H fun J H1=>∀ D,H1 D=none->∃ W:Nat->Nat->L2.St->Hp->Prop,(∃ m,W 0 m (inSt inner σ) (upd H1 D (.lst [])))/\∀ i m σ' H',W i m σ' H'->
 (J.stop i H'/\Q (.ref D) H') ∨ (J.go i H'/\∀ x H2,J.yld i H' x H2->g x σ' H2 fun σ3 H3=>ti σ3 H3 fun b H4=>if b=true then te σ3 H4 fun y H5=>∃ ys,H5 D=some (.lst ys)/\ys.length<sizeLine/\∃ m',m'<m/\W (i+1) m' σ3 (upd H5 D (.lst (ys++[y])))else ∃ m',m'<m/\W (i+1) m' σ3 H4)
section
variable {X:Cx}{elt tg iter:Expr}{ifs:List Expr}{scope:Scope}{pos:Pos}{N':List Str}{inner:List (Option Nat)}{wi:TI}{g:TG}{ti:TT}{te:TE}
theorem zHF{Y:Cx}{D it:Addr}{fp:List Addr}{tn:Nat->Heap->Prop}{J:It}{W:Nat->Nat->L2.St->Hp->Prop}{Qn:Hp->Prop}{RR:Result->Shared->Prop}{σ0:L2.St}{H0:Hp}{s4:Shared}{m0:Nat}
  (hc:Y.calm=true) (hxe:∀ v s,¬ Y.xe v s) (hg:PG Y tg g) (ht:PTs Y ifs ti) (he:PE Y elt te) (T:Turn Y.prog Y.w Y.K tg J fp it tn) (fx:∀{H'':Hp},(∀ b∈fp,H'' b=none)->∀ b∈fp,FpOk Y [] H'' b)
  (I4:Inv Y [] σ0 H0 s4) (t4:tn 0 s4.heap) (fr4:∀ b∈fp,H0 b=none) (w0:W 0 m0 σ0 H0)
  (step:∀ i m σ' H',W i m σ' H'->(J.stop i H'/\Qn H') ∨ (J.go i H'/\∀ x H3,J.yld i H' x H3->g x σ' H3 fun σ3 H3=>ti σ3 H3 fun b H4=>if b=true then te σ3 H4 fun y H5=>∃ ys,H5 D=some (.lst ys)/\ys.length<sizeLine/\∃ m',m'<m/\W (i+1) m' σ3 (upd H5 D (.lst (ys++[y])))else ∃ m',m'<m/\W (i+1) m' σ3 H4))
  (fin:∀ σ' H' s5,Inv Y [] σ' H' s5->Qn H'->RR (.ok .next) s5):
  codeAny (model Y.prog Y.w) Y.A (.compLoop (.ListComp elt [⟨tg,iter,ifs,0⟩] scope pos) 0 (.ref it) (.ref D) Y.env) RR s4:=by
 refine codeAny_loop rfl (fun m s'=>∃ i σ' H',Inv Y [] σ' H' s'/\tn i s'.heap/\(∀ b∈fp,H' b=none)/\W i m σ' H') (fun m s' hI=>?_) m0 ⟨0,_,_,I4,t4,fr4,w0⟩
 obtain⟨i,σ',H',I',t',fr',w'⟩:=hI
 show wpAny _ Y.A ((compTurn (.ListComp elt [⟨tg,iter,ifs,0⟩] scope pos) 0 (.ref it) (.ref D) Y.env).onRaise (fun x=>do noteFrame x Y.env;theTreesLotGoes x)) _ _ s'
 refine wpAny_noted ?_
 rw [compTurn_list]
 refine Qa (wpAny_standAt (Qa ?_))
 rcases step i m σ' H' w' with⟨stop,qn⟩ | ⟨go,nxt⟩
 ·refine YU (T.done Y rfl rfl rfl hc i [] s' σ' H' (fun _ _=>False) I' (fx fr') t' stop) (fun r s5 hr=>?_) fun _ _ z=>z.elim
  obtain⟨hr,I5⟩:=hr
  subst hr
  exact Qb (fin σ' H' s5 I5 qn)
 ·refine YU (T.item Y rfl rfl rfl hc i [] s' σ' H' (fun _ _=>False) I' (fx fr') t' go) (fun r s5 hr=>?_) fun _ _ z=>z.elim
  obtain⟨u,hr,h5⟩:=hr
  subst hr
  refine Qa (YU h5 (fun _ s6 h6=>?_) fun _ _ z=>z.elim)
  obtain⟨x,H6,I6,r6,y6,t6,fr6⟩:=h6
  have I6':=I6.pinned (fx fr6) (T.obj _ _ t6)
  have back:∀{m':Nat}{σ7:L2.St}{H7:Hp}{s7:Shared},Inv Y ([]++zDW fp s6.heap) σ7 H7 s7->m'<m->W (i+1) m' σ7 H7->
    ∃ m',m'<m/\∃ i σ' H',Inv Y [] σ' H' s7/\tn i s7.heap/\(∀ b∈fp,H' b=none)/\W i m' σ' H':=fun{m' σ7 H7 s7} I7 lt w7=>by
   refine⟨m',lt,i+1,σ7,H7,I7.unpinned,T.keep _ _ _ t6 fun b hb o e=>(I7.pin (b,o) (Qx _ (Qx _ (zEF hb e)))).1,fun b hb=>?_,w7⟩
   obtain⟨o,e,_⟩:=T.obj _ _ t6 b hb
   exact(I7.pin (b,o) (Qx _ (Qx _ (zEF hb e)))).2.1
  refine Qa (YU (hg _ s6 σ' H6 x u _ I6' r6 (nxt x H6 y6)) (fun _ s7 h7=>?_) fun _ _ z=>absurd z (hxe _ _))
  obtain⟨σ7,H7,I7,q7⟩:=h7
  refine Qa (YU (ht _ s7 σ7 H7 _ I7 q7) (fun ok s8 h8=>?_) fun _ _ z=>absurd z (hxe _ _))
  obtain⟨H8,I8,q8⟩:=h8
  cases ok with
  | false=>
   simp only [Qq,if_false]at q8 ⊢
   obtain⟨m',lt,w8⟩:=q8
   exact Qb ⟨rfl,back I8 lt w8⟩
  | true=>
   simp only [if_true]at q8 ⊢
   refine Qa (Qa (YU (he _ s8 σ7 H8 _ I8 q8) (fun y s9 h9=>?_) fun _ _ z=>absurd z (hxe _ _)))
   obtain⟨yv,H9,I9,r9,ys,d9,l9,m',lt,w9⟩:=h9
   refine Qa (YU (zJs (X:=Y) _ s9 σ7 H9 (.ref D) [yv] _ [y] (fun v H'=>H'=upd H9 D (.lst (ys++[yv]))) I9 rfl (.cons r9 .nil) ⟨_,ys,yv,rfl,rfl,d9,l9,rfl⟩) (fun _ s10 h10=>?_) fun _ _ z=>absurd z (hxe _ _))
   obtain⟨_,H10,I10,_,e10⟩:=h10
   subst e10
   exact Qb (Qb ⟨rfl,back I10 lt w9⟩)
theorem zDx(hc:X.calm=true)(CS:zB1 X N' scope inner)(hg:∀ cl C fp s H,PG (inCx X N' scope cl C fp s H) tg g)(ht:∀ cl C fp s H,PTs (inCx X N' scope cl C fp s H) ifs ti)(he:∀ cl C fp s H,PE (inCx X N' scope cl C fp s H) elt te)
  {pins:List (Addr × Obj)}{σ:L2.St}{s2:Shared}{H2:Hp}{it:Addr}{fp:List Addr}{tn:Nat->Heap->Prop}{J:It}{cl:List (Str × Addr)}{Q:VK}{RR:Value->Addr->Result->Shared->Prop}
  (c1:∀ x c,cl.lookup x=some c->X.env.cells.lookup x=some c) (c2:∀ x,(x,NameKind.free)∈scope.names->∃ c,cl.lookup x=some c) (c3:∀ x c,cl.lookup x=some c->(x,NameKind.free)∈scope.names)
  (I2:Inv X pins σ H2 s2) (T:Turn X.prog X.w X.K tg J fp it tn) (t0:tn 0 s2.heap) (f2:∀ b∈fp,FpOk X pins H2 b)
  (q:∀ D,H2 D=none->∃ W:Nat->Nat->L2.St->Hp->Prop,(∃ m,W 0 m (inSt inner σ) (upd H2 D (.lst [])))/\∀ i m σ' H',W i m σ' H'->
   (J.stop i H'/\Q (.ref D) H') ∨ (J.go i H'/\∀ x H3,J.yld i H' x H3->g x σ' H3 fun σ3 H3=>ti σ3 H3 fun b H4=>if b=true then te σ3 H4 fun y H5=>∃ ys,H5 D=some (.lst ys)/\ys.length<sizeLine/\∃ m',m'<m/\W (i+1) m' σ3 (upd H5 D (.lst (ys++[y])))else ∃ m',m'<m/\W (i+1) m' σ3 H4))
  (fin:∀(D C:Addr) (H':Hp) (s5:Shared) (m:Str->Option Value),s5.heap.Ns C m->Q (.ref D) H'->(∀ h',Heap.SameBut C s5.heap h'->Inv X pins σ H' { s5 with heap:=h' })->(H' C=none/\C≠X.env.locals/\X.s₀.heap.objs.size<=C/\(∀ x c,X.env.cells.lookup x=some c->c≠C)/\∀ p∈X.pn++pins,p.1≠C)->RR (.ref D) C (.ok .next) s5):
  wpAny (model X.prog X.w) X.A (newList []) (fun acc s₃=>wpAny (model X.prog X.w) X.A (newFunctionEnv scope X.env.globals cl [] X.env.qual none .none (some X.env)) (fun cenv s₄=>
   codeAny (model X.prog X.w) X.A (.compStart (.ListComp elt [⟨tg,iter,ifs,0⟩] scope pos) 0 (.ref it) acc { cenv with scope:=relabel scope X.env }) (RR acc cenv.locals) s₄) X.xe s₃) X.xe s2:=by
 refine wpAny_newList ?_
 have hD:H2 s2.heap.objs.size=none:=I2.hok.fresh (Qh _)
 generalize hs3:({ s2 with heap:=s2.heap.push { cls:=.type "list",data:=.seq ([]:List Value).toArray } }:Shared)=s3
 have k23:∀ b o,s2.heap.get? b=some o->s3.heap.get? b=some o:=fun b o e=>by rw [<- hs3];exact Qc _ e
 have sz3:s3.heap.objs.size=s2.heap.objs.size+1:=by rw [<- hs3];exact Yr _ _
 have I3:Inv X pins σ (upd H2 s2.heap.objs.size (.lst [])) s3:=by
  rw [<- hs3]
  exact I2.laid (t':=s2.toks) (o:=.lst []) (fun b o e=>Qc _ e) (Qh _) ⟨QZ _,[],0,.nil,Qs _ rfl⟩
 have ffl:∀ b∈fp,b<s2.heap.objs.size:=fun b hb=>by
  obtain⟨o,e,_⟩:=T.obj 0 _ t0 b hb
  exact Qk e
 have f3:∀ b∈fp,FpOk X pins (upd H2 s2.heap.objs.size (.lst [])) b:=fun b hb=>by
  obtain⟨g0,g1⟩:=f2 b hb
  exact⟨by rw [zAs (Qt (ffl b hb))];exact g0,g1⟩
 have t3:tn 0 s3.heap:=T.keep _ _ _ t0 fun b _ o e=>k23 b o e
 obtain⟨W,⟨m0,w0⟩,step⟩:=q _ hD
 refine wpAny_newFunctionEnv (fun x hx=>CS.nocell x hx) (by intro y hy;simp at hy) (fun h₁ hns₁ hsb₁=>?_) CS.kind
 try dsimp only at hns₁ hsb₁ ⊢
 have k34:∀ b o,s3.heap.get? b=some o->h₁.get? b=some o:=fun b o e=>hsb₁.extBut b o (Qt (Qk e)) (Qc _ e)
 have hns:h₁.Ns s3.heap.objs.size fun _=>none:=by
  have:(fun x=>([]:List (Str × Value)).reverse.lookup x)=(fun _=>none:Str->Option Value):=by funext x;rfl
  rw [this]at hns₁;exact hns₁
 generalize hs4:({ s3 with heap:=h₁,toks:=s3.toks+([]:List (Str × Value)).length }:Shared)=s4
 have I4:Inv (inCx X N' scope cl s3.heap.objs.size fp s3 (upd H2 s2.heap.objs.size (.lst []))) [] (inSt inner σ) (upd H2 s2.heap.objs.size (.lst [])) s4:=
  zMW CS I3 f3 c1 c2 c3 (fun b hb=>by rw [sz3];exact YH (ffl b hb)) rfl k34 hns hs4.symm
 have t4:tn 0 s4.heap:=by rw [<- hs4];exact T.keep _ _ _ t3 fun b _ o e=>k34 b o e
 have CL:s3.heap.objs.size≠X.env.locals:=YO I3.lt
 have CC:∀ x c,X.env.cells.lookup x=some c->c≠s3.heap.objs.size:=fun x c e=>by
  obtain⟨v,o,z,_⟩:=I3.cell x c e
  exact Qt (Qk z)
 show codeAny (model X.prog X.w) X.A (.compStart (.ListComp elt [⟨tg,iter,ifs,0⟩] scope pos) 0 (.ref it) (.ref s2.heap.objs.size) (compEnvC scope cl s3.heap.objs.size X.env)) (RR (.ref s2.heap.objs.size) s3.heap.objs.size) s4
 have loop:codeAny (model X.prog X.w) X.A (.compLoop (.ListComp elt [⟨tg,iter,ifs,0⟩] scope pos) 0 (.ref it) (.ref s2.heap.objs.size) (compEnvC scope cl s3.heap.objs.size X.env)) (RR (.ref s2.heap.objs.size) s3.heap.objs.size) s4:=by
  have fx:∀{H'':Hp},(∀ b∈fp,H'' b=none)->∀ b∈fp,FpOk (inCx X N' scope cl s3.heap.objs.size fp s3 (upd H2 s2.heap.objs.size (.lst []))) [] H'' b:=fun{H''} z b hb=>
   ⟨z b hb,(I4.ok.exf b hb).1,I4.ok.exfs b hb,.inl hb,fun x c e=>(I4.ok.exf b hb).2 x c e,fun p hp=>absurd (show p∈([]:List (Addr × Obj))from hp) (by simp)⟩
  refine zHF (Y:=inCx X N' scope cl s3.heap.objs.size fp s3 (upd H2 s2.heap.objs.size (.lst []))) hc (fun _ _ z=>z) (hg _ _ _ _ _) (ht _ _ _ _ _) (he _ _ _ _ _) T fx I4 t4 (fun b hb=>(f3 b hb).1) w0 step fun σ' H' s5 I5 qn=>?_
  obtain⟨m5,hm5,_⟩:=id I5.loc
  exact fin _ _ H' s5 m5 hm5 qn (fun h' sb=>zMU I3 f3 rfl I5 sb) ⟨I5.free,CL,I3.sz,CC,fun p hp=>Qt (Qk (I3.pin p hp).1)⟩
 exact codeAny_compStart_list loop (T.self X.A 0 s4 _ _ t4 loop)
theorem zOH(hc:X.calm=true)(CS:zB1 X N' scope inner)(hi:PI X tg iter wi)(hg:∀ cl C fp s H,PG (inCx X N' scope cl C fp s H) tg g)(ht:∀ cl C fp s H,PTs (inCx X N' scope cl C fp s H) ifs ti)(he:∀ cl C fp s H,PE (inCx X N' scope cl C fp s H) elt te)
  (hs:∀ x,foldedSetIterable iter X.env x=pure x:=by intro _;rfl):PE X (.ListComp elt [⟨tg,iter,ifs,0⟩] scope pos) (zE6 wi g ti te inner):=by
 intro pins s σ H Q I h
 obtain⟨cl,hcl,c1,c2,c3⟩:=clos (env:=X.env) (scope:=scope) fun x hx hk=>I.ok.has x.1 (CS.free x hx hk).2
 rw [eval_ListComp]
 refine wpAny_comprehension_free (use:=none) rfl hs hcl CS.kind CS.loc (thn (hi pins s σ H _ I h) fun xv s1 h1=>thn h1 fun itv s2 h2=>?_)
 obtain⟨it,fp,tn,J,H2,rfl,I2,T,t0,f2,q⟩:=h2
 refine zDx (RR:=fun acc C=>compPost (model X.prog X.w) X.A X.xe none (EP X pins σ Q) acc C) hc CS hg ht he c1 c2 c3 I2 T t0 f2 q ?_
 intro D C H' s5 m hm hq hI _
 exact⟨m,hm,fun h' sb=>⟨.ref D,H',hI h' sb,rfl,hq⟩⟩
theorem zO6{i:Nat}{y:Str}{py spos:Pos}(hN:X.N.Nodup)(hc:X.calm=true)(CS:zB1 X N' scope inner)(hi:PI X tg iter wi)(hg:∀ cl C fp s H,PG (inCx X N' scope cl C fp s H) tg g)(ht:∀ cl C fp s H,PTs (inCx X N' scope cl C fp s H) ifs ti)(he:∀ cl C fp s H,PE (inCx X N' scope cl C fp s H) elt te)
  (hsw:swapsWith (.ListComp elt [⟨tg,iter,ifs,0⟩] scope pos) (some (.Name y py)) spos.line X.env=pure true:=by rfl) (hy:X.N[i]?=some y:=by rfl) (hx:Loc X.env.scope y:=by first | exact Or.inl rfl | exact Or.inr rfl) (hf:X.fn y=true ∨ X.env.scope.names.lookup y=some .local:=by first | exact .inl rfl | exact .inr rfl | assumption)
  (hs:∀ x,foldedSetIterable iter X.env x=pure x:=by intro _;rfl):PS X (.Assign [.Name y py] (.ListComp elt [⟨tg,iter,ifs,0⟩] scope pos) spos) (tAsg (zE6 wi g ti te inner) (zEp i)):=by
 intro pins s σ H D I h
 obtain⟨cl,hcl,c1,c2,c3⟩:=clos (env:=X.env) (scope:=scope) fun x hx hk=>I.ok.has x.1 (CS.free x hx hk).2
 rw [exec_Assign_Name_used _ _ _ _ hsw]
 refine Qa (wpAny_standAt (Qa ?_))
 show wpAny _ X.A (do let _ <- comprehension (.ListComp elt [⟨tg,iter,ifs,0⟩] scope pos) scope X.env _ (newList []) false (eval iter X.env) (some (assign (.Name y py) X.env))) _ _ s
 refine Qa (YU (wpAny_comprehension_free (use:=some (assign (.Name y py) X.env)) (Q:=fun _ s'=>SP X pins D .next s') rfl hs hcl CS.kind CS.loc
  (thn (hi pins s σ H _ I h) fun xv s1 h1=>thn h1 fun itv s2 h2=>?_)) (fun _ s' hq=>Qb (Qb hq)) fun _ _ e=>e)
 obtain⟨it,fp,tn,J,H2,rfl,I2,T,t0,f2,q⟩:=h2
 refine zDx (Q:=fun v H'=>zEp i v σ H' D.nx) (RR:=fun acc C=>compPost (model X.prog X.w) X.A X.xe (some (assign (.Name y py) X.env)) (fun _ s'=>SP X pins D .next s') acc C) hc CS hg ht he c1 c2 c3 I2 T t0 f2 q ?_
 intro D' C H' s5 m hm hq hI hC
 obtain⟨z1,z2,z3,z4,z5⟩:=hC
 show wpAny _ X.A (assign (.Name y py) X.env (.ref D')) _ _ _
 have I5:=hI s5.heap (Heap.SameBut.refl ..)
 refine wpAny_assign_Name (zKL (v:=.ref D') I5 hN hy hx (show L2.RelV (.ref D') (Value.ref D')from rfl) (fun s6 I6 k6=>?_) hf)
 obtain⟨a,sb,ha⟩:=k6
 have na:C≠a:=by
  rcases ha with ha | ha
  ·rw [ha];exact z2
  ·exact(z4 y a ha).symm
 refine⟨m,hm.sameBut sb na,fun h' sb'=>⟨_,H',?_,hq⟩⟩
 exact I6.turned (t':=s6.toks) (fun b o nb e=>by rw [sb'.2 b nb];exact e) z1 z2 (.inr z3) z4 z5
end
end CL
namespace DL
open PySem PySem.Spec PySem.SeqAt PyProof.Rows L2 CL
def zBU(inner:List (Option Nat))(ρ:Rho):Rho:=inner.map fun o=>match o with
 | some j=>match ρ[j]? with
  | some (.dat d)=>.dat d
  | _=>.no
 | none=>.no
def zCS(s:D->Rho->Option Rho)(t:Rho->Option Bool)(ge:Rho->Option D):List D->Rho->Option (List D)
 | [],_=>some []
 | d::ds,ρ=>(s d ρ).bind fun ρ1=>(t ρ1).bind fun b=>if b=true then(ge ρ1).bind fun y=>(zCS s t ge ds ρ1).bind fun r=>some (y::r)else zCS s t ge ds ρ1
def zAA(gi:Rho->Option (List D))(s:D->Rho->Option Rho)(t:Rho->Option Bool)(ge:Rho->Option D)(inner:List (Option Nat)):Rho->Option (List D):=
 fun ρ=>(gi ρ).bind fun xs=>(zCS s t ge xs (zBU inner ρ)).bind fun out=>if out.length<=1000 then some out else none
def eLc(g:Rho->Option (List D)):Rho->Option D:=fun ρ=>(g ρ).bind fun out=>some (.list out)
def eT:Rho->Option Bool:=fun _=>some true
def isOwn:Sl->Bool
 | .own _ | .ownD _ | .ownM _=>true
 | _=>false
def zBP(ρ:Rho):Prop:=∀(i:Nat) (s:Sl),isOwn s=true->ρ[i]?≠some s
def zCq(s:D->Rho->Option Rho):Prop:=∀ d ρ ρ',zBP ρ->s d ρ=some ρ'->zBP ρ'
def zD5(s:List D->Rho->Option Rho):Prop:=∀ ds ρ ρ',zBP ρ->s ds ρ=some ρ'->zBP ρ'
theorem zO0{ρ:Rho}{i:Nat}{d:D}(h:zBP ρ):zBP (ρ.set i (.dat d)):=fun j ds ow e=>by
 by_cases c:i=j
 ·subst c
  by_cases l:i<ρ.length
  ·rw [QT l]at e;cases e;cases ow
  ·rw [List.getElem?_eq_none (by simpa using Y2 l)]at e;cases e
 ·rw [QS c]at e;exact h j ds ow e
theorem zAI(i:Nat):zCq (zAm i):=fun d ρ ρ' h e=>by cases e;exact zO0 h
theorem zEr:zD5 uNil:=fun ds ρ ρ' h e=>by
 cases ds with
 | nil=>cases e;exact h
 | cons _ _=>cases e
theorem zB7{s1:D->Rho->Option Rho}{s2:List D->Rho->Option Rho}(h1:zCq s1)(h2:zD5 s2):zD5 (zAH s1 s2):=fun ds ρ ρ' h e=>by
 cases ds with
 | nil=>cases e
 | cons d ds=>
  obtain⟨ρ1,e1,e⟩:=bnd e
  exact h2 ds ρ1 ρ' (h1 d ρ ρ1 h e1) e
theorem zEs{n:Nat}{s:List D->Rho->Option Rho}(h1:zD5 s):zCq (uTup n s):=fun d ρ ρ' h e=>by
 cases d with
 | tuple ds=>
  have e':(if ds.length=n then s ds ρ else none)=some ρ':=e
  by_cases c:ds.length=n
  ·rw [if_pos c]at e';exact h1 ds ρ ρ' h e'
  ·rw [if_neg c]at e';cases e'
 | _=>cases e
theorem zGA(inner:List (Option Nat))(ρ:Rho):zBP (zBU inner ρ):=fun i ds ow e=>by
 unfold zBU at e
 rw [QM]at e
 cases q:inner[i]? with
 | none=>rw [q]at e;cases e
 | some o=>
  rw [q]at e
  cases o with
  | none=>cases e;cases ow
  | some j=>
   have e':(match ρ[j]? with | some (.dat d)=>Sl.dat d | _=>Sl.no)=ds:=QF e
   split at e' <;> (subst e';cases ow)
theorem zP3{K:PySem.W.Frag}{F:Addr->Prop}{H:Hp}{p:Addr}{vs us:List V}(hp:H p=some (.lst vs))(hf:¬ F p):Stay K F F H (upd H p (.lst us)):=
 ⟨fun _ h=>h,fun a xs h=>by
  rcases h with(h | ⟨o,h⟩) | h
  ·exact .inl (.inl (by rw [zAs (by intro z;subst z;rw [hp]at h;cases h)];exact h))
  ·exact .inl (.inr ⟨o,by rw [zAs (by intro z;subst z;rw [hp]at h;cases h)];exact h⟩)
  ·exact .inr h,fun a xs f h=>by
  have na:a≠p:=fun z=>hf (by rw [<- z];exact f)
  rcases h with h | ⟨o,h⟩
  ·exact .inl (by rw [zAs na];exact h)
  ·exact .inr ⟨o,by rw [zAs na];exact h⟩,fun a φ f h=>by rw [zAs (fun z=>hf (by rw [<- z];exact f))];exact h⟩
theorem StOk.plain{K:PySem.W.Frag}{F F':Addr->Prop}{H H' H₀ H₁:Hp}{σ:L2.St}{ρ:Rho}(S:StOk K F H H₀ σ ρ)(pl:zBP ρ)(T:Stay K F F' H H')(z:∀ a,F' a->H' a≠none):StOk K F' H' H₁ σ ρ:=
 ⟨S.len,fun i s h=>by
  obtain⟨o,q,w⟩:=S.sl i s h
  refine⟨o,q,?_⟩
  cases s with
  | no=>trivial
  | ownD kvs=>exact absurd h (pl i _ rfl)
  | ownM kvs=>exact absurd h (pl i _ rfl)
  | dat d=>obtain⟨v,e,r⟩:=w;exact⟨v,e,r.stay T⟩
  | own ds=>exact absurd h (pl i _ rfl),fun i j a ds es _ h1=>absurd h1 (pl i _ rfl),z⟩
theorem StOk.inner{K:PySem.W.Frag}{F:Addr->Prop}{H H₀:Hp}{σ:L2.St}{ρ:Rho}(S:StOk K F H H₀ σ ρ)(inner:List (Option Nat)):StOk K F H H₀ (inSt inner σ) (zBU inner ρ):=
 ⟨by simp [inSt,zBU],fun i s h=>by
  unfold zBU at h
  unfold inSt
  rw [QM]at h ⊢
  cases q:inner[i]? with
  | none=>rw [q]at h;cases h
  | some o=>
   rw [q]at h
   cases o with
   | none=>cases h;exact⟨none,rfl,trivial⟩
   | some j=>
    have h':(match ρ[j]? with | some (.dat d)=>Sl.dat d | _=>Sl.no)=s:=QF h
    split at h'
    ·rename_i d e
     cases h'
     obtain⟨v,e2,r⟩:=S.dat e
     exact⟨some v,by simp [e2],v,rfl,r⟩
    ·cases h'
     exact⟨_,rfl,trivial⟩,fun i j a ds es _ h1=>absurd h1 (zGA inner ρ i _ rfl),S.fz⟩
def DTs(X:Cx)(ifs:List Expr)(t:Rho->Option Bool):Prop:=PTs X ifs (tDT X.K t)
theorem zBI{X:Cx}:DTs X [] eT:=fun pins s σ H Q I zz=>by
 obtain⟨F,H₀,ρ,b,S,q,k⟩:=zz
 cases q
 exact wpAny_tests_nil ⟨H,I,k F H (Ext.refl F H)⟩
theorem zBe{X:Cx}{c:Expr}{t:Rho->Option Bool}(h:DT X c t):DTs X [c] t:=zPg h
section
variable {X:Cx}{elt tg iter:Expr}{ifs:List Expr}{scope:Scope}{pos:Pos}{N':List Str}{inner:List (Option Nat)}{gi:Rho->Option (List D)}{s:D->Rho->Option Rho}{t:Rho->Option Bool}{ge:Rho->Option D}
structure CInv(X:Cx)(s:D->Rho->Option Rho)(t:Rho->Option Bool)(ge:Rho->Option D)(xs out:List D)(F1:Addr->Prop)(H1:Hp)(D':Addr)(i m:Nat)(σ':L2.St)(H':Hp)(F2:Addr->Prop)(ρ2:Rho)(vs:List V)(don rst:List D):Prop where
 em:m=xs.length-i
 hi:i<=xs.length
 E:Ext F1 F2 H1 H'
 T:Stay X.K F1 F2 H1 H'
 S:StOk X.K F2 H' H1 σ' ρ2
 pl:zBP ρ2
 dD:H' D'=some (.lst vs)
 nf:¬ F2 D'
 rd:Reps X.K F2 H' don vs
 ec:zCS s t ge (xs.drop i) ρ2=some rst
 eo:don++rst=out
 kp:∀ b o,b≠D'->H1 b=some o->H' b=some o
theorem zFq(kp:zCq s){σ:L2.St}{H:Hp}{Q:VK}{F:Addr->Prop}{H₀:Hp}{ρ:Rho}{out:List D}(S:StOk X.K F H H₀ σ ρ)(q:zAA gi s t ge inner ρ=some out)
  (fin:∀ F' H' D' vs,Ext F F' H H'->Stay X.K F F' H H'->H D'=none->H' D'=some (.lst vs)->¬ F' D'->Reps X.K F' H' out vs->StOk X.K F' H' H₀ σ ρ->Q (.ref D') H'):
  zE6 (tDI X.K gi) (tDG X.K s) (tDT X.K t) (tD X.K ge) inner σ H Q:=by
 obtain⟨xs,e1,q⟩:=bnd q
 obtain⟨out',e2,q⟩:=bnd q
 by_cases hl:out'.length<=1000
 ·rw [if_pos hl]at q
  cases q
  refine⟨F,H₀,ρ,xs,S,e1,fun F1 H1 J E1 I1 D' hD=>?_⟩
  have S1:=S.ext E1
  refine⟨fun i m σ' H'=>∃ F2 ρ2 vs don rst,CInv X s t ge xs out F1 H1 D' i m σ' H' F2 ρ2 vs don rst,?_,?_⟩
  ·have E2:Ext F1 F1 H1 (upd H1 D' (.lst [])):=Ext.fresh hD
   refine⟨xs.length,F1,zBU inner ρ,[],[],out,rfl,QZ _,E2,E2.stay,?_,zGA inner ρ,zBm,fun f=>S1.fz _ f hD,.nil,e2,rfl,fun b o nb e=>by rw [zAs nb];exact e⟩
   exact(S1.inner inner).plain (zGA inner ρ) E2.stay (E2.fz S1.fz)
  ·rintro i m σ' H' ⟨F2,ρ2,vs,don,rst,rfl,hi,E2,T2,S2,pl,dD,nf,rd,ec,eo,kp2⟩
   obtain⟨it1,it2⟩:=I1 F2 H' T2 S2.fz i
   by_cases hlt:i<xs.length
   ·right
    have hget:xs[i]?=some xs[i]:=by simp [hlt]
    obtain⟨go,yld⟩:=it1 _ hget
    rw [Yw hlt]at ec
    obtain⟨ρ3,e3,ec⟩:=bnd ec
    obtain⟨b,e4,ec⟩:=bnd ec
    refine⟨go,fun x H3 y=>?_⟩
    obtain⟨F3,E3,R3⟩:=yld x H3 y
    have pl3:=kp _ _ _ pl e3
    refine⟨F3,H1,ρ2,xs[i],ρ3,S2.ext E3,R3,e3,fun σ5 S5=>⟨F3,H1,ρ3,b,S5,e4,fun F6 H6 E6=>?_⟩⟩
    have S6:=S5.ext E6
    have E36:=E3.trans E6
    have d6:H6 D'=some (.lst vs):=E36.same _ _ dD
    have nf6:¬ F6 D':=fun f=>by
     rcases E36.new _ f with f | ⟨f,_⟩
     ·exact nf f
     ·rw [dD]at f;cases f
    cases b with
    | false=>
     simp only [Qq,if_false]at ec ⊢
     exact⟨xs.length-(i+1),by lia,F6,ρ3,vs,don,rst,rfl,hlt,E2.trans E36,T2.trans E36.stay,S6,pl3,d6,nf6,rd.stay E36.stay,ec,eo,fun b o nb e=>E36.same _ _ (kp2 b o nb e)⟩
    | true=>
     simp only [if_true]at ec ⊢
     obtain⟨yd,e5,ec⟩:=bnd ec
     obtain⟨r',e6,ec⟩:=bnd ec
     cases ec
     refine⟨F6,H1,ρ3,yd,S6,e5,fun F7 H7 yv E7 R7=>?_⟩
     have E37:=E36.trans E7
     have d7:H7 D'=some (.lst vs):=E37.same _ _ dD
     have nf7:¬ F7 D':=fun f=>by
      rcases E37.new _ f with f | ⟨f,_⟩
      ·exact nf f
      ·rw [dD]at f;cases f
     have T8:Stay X.K F7 F7 H7 (upd H7 D' (.lst (vs++[yv]))):=zP3 d7 nf7
     have S7:=S6.ext E7
     have E8:Ext F1 F7 H1 (upd H7 D' (.lst (vs++[yv]))):=(E2.trans E37).turn hD
     have ll:vs.length<1000:=by
      have h1:=rd.length
      have h2:=congrArg List.length eo
      rw [Qp,QL]at h2
      lia
     refine⟨vs,d7,zGQ (YA ll),xs.length-(i+1),by lia,F7,ρ3,vs++[yv],don++[yd],r',rfl,hlt,E8,(T2.trans E37.stay).trans T8,S7.plain pl3 T8 (E8.fz S1.fz),pl3,zBm,nf7,?_,e6,by rw [Q9];exact eo,fun b o nb e=>?_⟩
     ·exact((rd.stay E37.stay).append (.cons R7 .nil)).stay T8
     ·rw [zAs nb];exact E37.same _ _ (kp2 b o nb e)
   ·left
    have hge:xs.length<=i:=Y2 hlt
    refine⟨it2 hge,?_⟩
    rw [List.drop_eq_nil_of_le hge]at ec
    cases ec
    rw [Yk]at eo
    subst eo
    have hH:H D'=none:=E1.same.free hD
    have EE:Ext F F2 H H':=E1.trans E2
    exact fin F2 H' D' vs EE (E1.stay.trans T2) hH dD nf rd (S.ext EE)
 ·rw [if_neg hl]at q;cases q
theorem zAS(hc:X.calm=true)(CS:zB1 X N' scope inner)(kp:zCq s)(hi:DI X tg iter gi)(hg:∀ cl C fp s' H,DG (inCx X N' scope cl C fp s' H) tg s)(ht:∀ cl C fp s' H,DTs (inCx X N' scope cl C fp s' H) ifs t)(he:∀ cl C fp s' H,DE (inCx X N' scope cl C fp s' H) elt ge)
  (hs:∀ x,foldedSetIterable iter X.env x=pure x:=by intro _;rfl):DE X (.ListComp elt [⟨tg,iter,ifs,0⟩] scope pos) (eLc (zAA gi s t ge inner)):=
 zAQ (zOH (g:=tDG X.K s) (ti:=tDT X.K t) (te:=tD X.K ge) hc CS hi (fun cl C fp s' H=>hg cl C fp s' H) (fun cl C fp s' H=>ht cl C fp s' H) (fun cl C fp s' H=>he cl C fp s' H) hs) fun σ H Q zz=>by
  obtain⟨F,H₀,ρ,d,S,q,k⟩:=zz
  obtain⟨out,e1,q⟩:=bnd q
  cases q
  refine zFq kp S e1 fun F' H' D' vs E' T' h1 h2 h3 h4 h5=>?_
  refine k (fun a=>F' a ∨ a=D') H' _ ⟨E'.same,fun a f=>.inl (E'.up a f),fun a f=>?_⟩ (.lst (.inl ⟨.inr rfl,.inl h2⟩) (h4.stay ⟨fun _ f=>.inl f,fun _ _ f=>f,fun _ _ _ f=>f,fun _ _ _ f=>f⟩))
  rcases f with f | rfl
  ·exact E'.new a f
  ·exact .inr ⟨h1,by rw [h2];simp⟩
theorem zFw{i:Nat}{y:Str}{py spos:Pos}(hN:X.N.Nodup)(hc:X.calm=true)(CS:zB1 X N' scope inner)(kp:zCq s)(hi:DI X tg iter gi)(hg:∀ cl C fp s' H,DG (inCx X N' scope cl C fp s' H) tg s)(ht:∀ cl C fp s' H,DTs (inCx X N' scope cl C fp s' H) ifs t)(he:∀ cl C fp s' H,DE (inCx X N' scope cl C fp s' H) elt ge)
  (hsw:swapsWith (.ListComp elt [⟨tg,iter,ifs,0⟩] scope pos) (some (.Name y py)) spos.line X.env=pure true:=by rfl) (hy:X.N[i]?=some y:=by rfl) (hx:L2.Loc X.env.scope y:=by first | exact Or.inl rfl | exact Or.inr rfl) (hf:X.fn y=true ∨ X.env.scope.names.lookup y=some .local:=by first | exact .inl rfl | exact .inr rfl | assumption)
  (hs:∀ x,foldedSetIterable iter X.env x=pure x:=by intro _;rfl):DS X (.Assign [.Name y py] (.ListComp elt [⟨tg,iter,ifs,0⟩] scope pos) spos) (sSet i (eLc (zAA gi s t ge inner))):=
 ps_mono (zO6 (g:=tDG X.K s) (ti:=tDT X.K t) (te:=tD X.K ge) hN hc CS hi (fun cl C fp s' H=>hg cl C fp s' H) (fun cl C fp s' H=>ht cl C fp s' H) (fun cl C fp s' H=>he cl C fp s' H) hsw hy hx hf hs) fun W σ H zz=>by
  obtain⟨F₀,H₀,F,ρ,o,E,S,q,k⟩:=zz
  obtain⟨d,e1,q⟩:=bnd q
  cases q
  obtain⟨out,e2,q⟩:=bnd e1
  cases q
  refine zFq kp S e2 fun F' H' D' vs E' T' h1 h2 h3 h4 h5=>?_
  have T9:Stay X.K F' (fun a=>F' a ∨ a=D') H' H':=⟨fun _ f=>.inl f,fun _ _ f=>f,fun _ _ _ f=>f,fun _ _ _ f=>f⟩
  have E9:Ext F (fun a=>F' a ∨ a=D') H H':=⟨E'.same,fun a f=>.inl (E'.up a f),fun a f=>by
   rcases f with f | rfl
   ·exact E'.new a f
   ·exact .inr ⟨h1,by rw [h2];simp⟩⟩
  exact k _ H' _ (E.trans E9) (T'.trans T9) ((S.ext E9).put (.lst (.inl ⟨.inr rfl,.inl h2⟩) (h4.stay T9)))
end
end DL
namespace SD
open PySem PySem.Spec PySem.SeqAt PyProof.Rows L2 DL SG
theorem zC3:∀ a:List Int,HT.lexLt a a=false
 | []=>rfl
 | x::xs=>by rw [HT.lexLt_cons,if_pos rfl];exact zC3 xs
theorem zEy:∀ a b c:List Int,HT.lexLt a b=true->HT.lexLt b c=true->HT.lexLt a c=true
 | [],b,[],h1,h2=>by cases b with | nil=>cases h1 | cons _ _=>cases h2
 | [],_,_::_,_,_=>rfl
 | _::_,[],_,h1,_=>by cases h1
 | _::_,_::_,[],_,h2=>by cases h2
 | x::xs,y::ys,z::zs,h1,h2=>by
  rw [HT.lexLt_cons]at h1 h2 ⊢
  by_cases c1:x=y
  ·subst c1
   rw [if_pos rfl]at h1
   by_cases c2:x=z
   ·subst c2
    rw [if_pos rfl]at h2 ⊢
    exact zEy xs ys zs h1 h2
   ·rw [if_neg c2]at h2 ⊢;exact h2
  ·rw [if_neg c1]at h1
   have g1:x<y:=of_decide_eq_true h1
   by_cases c2:y=z
   ·subst c2
    rw [if_neg c1];exact decide_eq_true g1
   ·rw [if_neg c2]at h2
    have g2:y<z:=of_decide_eq_true h2
    rw [if_neg (by lia)]
    exact decide_eq_true (by lia)
theorem zDM:∀ a b:List Int,HT.lexLt a b=false->HT.lexLt b a=false->a=b
 | [],[],_,_=>rfl
 | [],_::_,h1,_=>by cases h1
 | _::_,[],_,h2=>by cases h2
 | x::xs,y::ys,h1,h2=>by
  rw [HT.lexLt_cons]at h1 h2
  by_cases c:x=y
  ·subst c
   rw [if_pos rfl]at h1 h2
   rw [zDM xs ys h1 h2]
  ·rw [if_neg c]at h1
   rw [if_neg (Ne.symm c)]at h2
   have g1:¬ x<y:=of_decide_eq_false h1
   have g2:¬ y<x:=of_decide_eq_false h2
   lia
theorem zJa(a b c:List Int)(h:HT.lexLt a c=true):HT.lexLt a b=true ∨ HT.lexLt b c=true:=by
 cases e1:HT.lexLt a b with
 | true=>exact .inl rfl
 | false=>
  right
  cases e2:HT.lexLt b a with
  | false=>rw [<- zDM a b e1 e2];exact h
  | true=>exact zEy b a c e2 h
theorem zGj:∀(a b c d:List Int),a.length=b.length->HT.lexLt (a++c) (b++d)=if a=b then HT.lexLt c d else HT.lexLt a b
 | [],[],c,d,_=>by simp
 | [],_::_,_,_,h=>by simp at h
 | _::_,[],_,_,h=>by simp at h
 | x::xs,y::ys,c,d,h=>by
  rw [YM,YM,HT.lexLt_cons]
  have ih:=zGj xs ys c d (by simpa using h)
  by_cases e:x=y
  ·subst e
   rw [if_pos rfl,ih,HT.lexLt_cons,if_pos rfl]
   simp
  ·rw [if_neg e,if_neg (by simp [e]),HT.lexLt_cons,if_neg e]
def keyT(tab:List (Value × List Int)):PyProof.Rows.KeyKind where
 α:=List Int
 blt:=HT.lexLt
 irrefl:=zC3
 trans:=zEy
 negTrans:=zJa
 total:=zDM
 keyOf:=fun v=>tab.lookup v
 dflt:=[]
def isI:D->Option Int
 | .int i=>some i
 | _=>none
def zBh(x y:D):Bool:=(isI x).isSome && (isI y).isSome
def zA7:List D->List D->Bool
 | [],[]=>true
 | x::xs,y::ys=>zBh x y && zA7 xs ys
 | _,_=>false
def zB6(d:D):Option (List Int):=(isI d).bind fun i=>some [i]
theorem zGf{d:D}{i:Int}(h:isI d=some i):d=.int i:=by
 cases d with
 | int j=>cases h;rfl
 | _=>cases h
theorem zBT{d:D}{a:List Int}(h:zB6 d=some a):∃ i,d=.int i/\a=[i]:=by
 obtain⟨i,e,h⟩:=bnd h
 cases h
 exact⟨i,zGf e,rfl⟩
theorem zGk{x y:D}(h:zBh x y=true):(∃ i,x=.int i)/\∃ j,y=.int j:=by
 obtain⟨h1,h2⟩:=Qy.mp h
 obtain⟨i,e1⟩:=Jf.mp h1
 obtain⟨j,e2⟩:=Jf.mp h2
 exact⟨⟨i,zGf e1⟩,j,zGf e2⟩
def zBs:List D->Option (List Int)
 | []=>some []
 | d::ds=>(zB6 d).bind fun a=>(zBs ds).bind fun b=>some (a++b)
theorem zNz{d x y:D}(h1:zBh d x=true)(h2:zBh d y=true):zBh x y=true:=by
 obtain⟨_,i,rfl⟩:=zGk h1
 obtain⟨_,j,rfl⟩:=zGk h2
 rfl
theorem zEB:∀{d x y:List D},zA7 d x=true->zA7 d y=true->zA7 x y=true
 | [],[],[],_,_=>rfl
 | [],[],_::_,_,h=>by cases h
 | [],_::_,_,h,_=>by cases h
 | _::_,[],_,h,_=>by cases h
 | _::_,_::_,[],_,h=>by cases h
 | d::ds,x::xs,y::ys,h1,h2=>by
  have a:=Qy.mp h1
  have b:=Qy.mp h2
  exact Qy.mpr ⟨zNz a.1 b.1,zEB a.2 b.2⟩
section
variable {prog:Program}{w:World}{A:Around}{E:Value->Shared->Prop}{s:Shared}
theorem zId{x y:D}{a b:List Int}(l:zBh x y=true)(fx:zB6 x=some a)(fy:zB6 y=some b):a.length=b.length:=by
 obtain⟨i,_,rfl⟩:=zBT fx
 obtain⟨j,_,rfl⟩:=zBT fy
 rfl
theorem el_eq{x y:D}{p q:Value}{a b:List Int}{as bs:List Addr}(hu:A.units+64<cLine)(rp:Reads s.heap p x as)(rq:Reads s.heap q y bs)(l:zBh x y=true)(fx:zB6 x=some a)(fy:zB6 y=some b):EqAt A s p q (decide (a=b)):=by
 obtain⟨i,rfl,rfl⟩:=zBT fx
 obtain⟨j,rfl,rfl⟩:=zBT fy
 cases rp with
 | int _ t=>cases rq with
  | int _ u=>
   have e:(i == j)=decide ([i]=[j]):=by
    by_cases c:i=j
    ·subst c;simp
    ·simp [c]
   rw [<- e];exact EqAt.int_int (A:=A) (s:=s) i t j u
theorem zQf{b:Bool}{Q:Bool->Shared->Prop}(h:Q b s):wpAny (model prog w) A (truthOfDropped (.bool b)) Q E s:=by
 unfold truthOfDropped
 exact Ja h
theorem el_lt{x y:D}{p q:Value}{a b:List Int}{as bs:List Addr}{f:Bool}{Q:Bool->Shared->Prop}(hu:A.units+64<cLine)(rp:Reads s.heap p x as)(rq:Reads s.heap q y bs)(l:zBh x y=true)(fx:zB6 x=some a)(fy:zB6 y=some b)
  (hf:f=true->∃ i,x=.int i) (k:Q (HT.lexLt a b) s) (ne:a≠b):wpAny (model prog w) A (oneLt' f p q) Q E s:=by
 obtain⟨i,rfl,rfl⟩:=zBT fx
 obtain⟨j,rfl,rfl⟩:=zBT fy
 cases rp
 cases rq
 have e:HT.lexLt [i] [j]=decide (i<j):=by
  rw [HT.lexLt_cons,if_neg (by intro z;exact ne (by rw [z]))]
 rw [e]at k
 cases f with
 | true=>exact oneLt_int k
 | false=>
  rw [oneLt'_eq]
  simp only [Qq,if_false]
  refine Qa (HT.rcLt_int A s i _ j _ prog w E _ (zQf k))
theorem zKb{b:Bool}{fin:Bool}{Q:Bool->Shared->Prop}(hu:A.units+64<cLine):∀{xs ys:List D}{a c:List Int}{us vs:List Value}{as bs:List Addr} (i:Nat),zA7 xs ys=true->zBs xs=some a->zBs ys=some c->ReadsAll s.heap us xs as->ReadsAll s.heap vs ys bs->
  (b=true->i=0->∀ x r,xs=x::r->∃ n,x=.int n)->(a=c->Q fin s)->(a≠c->Q (HT.lexLt a c) s)->PySem.W.KatLex prog w A b fin Q (us.zip vs) i s
 | [],[],_,_,_,_,_,_,i,_,f1,f2,r1,r2,_,k1,k2=>by
  cases f1;cases f2;cases r1;cases r2
  exact PySem.W.kat_nil (k1 rfl)
 | [],_::_,_,_,_,_,_,_,_,l,_,_,_,_,_,_,_=>by cases l
 | _::_,[],_,_,_,_,_,_,_,l,_,_,_,_,_,_,_=>by cases l
 | x::xs,y::ys,_,_,_,_,_,_,i,l,f1,f2,r1,r2,hb,k1,k2=>by
  obtain⟨a1,e1,f1⟩:=bnd f1
  obtain⟨a2,e2,f1⟩:=bnd f1
  cases f1
  obtain⟨c1,e3,f2⟩:=bnd f2
  obtain⟨c2,e4,f2⟩:=bnd f2
  cases f2
  obtain⟨l1,l2⟩:=Qy.mp l
  have hlen:=zId l1 e1 e3
  cases r1 with
  | cons p1 p2=>cases r2 with
   | cons q1 q2=>
    rw [List.zip_cons_cons]
    refine PySem.W.kat_cons (el_eq hu p1 q1 l1 e1 e3 prog w _ _ ?_)
    by_cases c:a1=c1
    ·rw [decide_eq_true c]
     subst c
     refine PySem.W.kat_yes (zKb hu (i+1) l2 e2 e4 p2 q2 (fun _ h=>by lia) (fun e=>k1 (by rw [e])) fun e=>?_)
     have:=k2 (fun z=>e (List.append_cancel_left z))
     rw [zGj _ _ _ _ rfl,if_pos rfl]at this
     exact this
    ·rw [decide_eq_false c]
     refine PySem.W.kat_no (el_lt hu p1 q1 l1 e1 e3 (fun hf=>?_) ?_ c)
     ·obtain⟨g1,g2⟩:=Qy.mp hf
      exact hb g1 (by simpa using g2) x xs rfl
     ·have ne:a1++a2≠c1++c2:=fun z=>c (List.append_inj_left z hlen)
      have:=k2 ne
      rw [zGj _ _ _ _ hlen,if_neg c]at this
      exact this
theorem zGm{α:Type}{f:Value->Sem α}{g:Value->α}:∀{vs:List Value}{Q:List α->Shared->Prop},(∀ v∈vs,∀(R:α->Shared->Prop),R (g v) s->wpAny (model prog w) A (f v) R E s)->Q (vs.map g) s->wpAny (model prog w) A (vs.mapM f) Q E s
 | [],_,_,k=>by rw [List.mapM_nil];exact Qb k
 | v::vs,Q,h,k=>by
  rw [List.mapM_cons]
  refine Qa (h v Qe _ (Qa (zGm (fun u hu=>h u (Qd _ hu)) (Qb k))))
def isInt:D->Bool
 | .int _=>true
 | _=>false
def zBz(h:Heap):Value->Option Value
 | .ref a=>match h.get? a with
  | some o=>match o.data with
   | .seq xs _=>xs[0]?
   | _=>none
  | none=>none
 | _=>none
def tyE:Value->Value
 | .ref _=>.type "tuple"
 | _=>.type "int"
theorem zMB(v:Value):firstOfTuple' v=(typeOf v >>= fun t=>if(t != .type "tuple")=true then pure none else Builtin.List.listItems v >>= fun xs=>pure xs[0]?):=by
 unfold firstOfTuple'
 rfl
theorem zNm{vs:List Value}{bi:Bool}{d:D}(hd:isInt d=bi)(hR:∀ v∈vs,∃ x xs as,Reads s.heap v (.tuple (x::xs)) as/\zBh d x=true)(hne:vs≠[]):
  wpAny (model prog w) A (keyKind' vs.toArray) (fun q s'=>q=tuples' bi/\s'=s) E s:=by
 rw [keyKind'_eq,List.mapM_toArray,map_eq_pure_bind]
 refine Qa (Qa (zGm (g:=fun v=>zBz s.heap v) (fun v hv R hR'=>?_) (Qb ?_)))
 ·obtain⟨x,xs,as,r,_⟩:=hR v hv
  cases r with
  | @tuple a o us n _ _ h1 h2 h3 h4=>
   rw [zMB]
   refine Qa (Jb (T:="tuple") ⟨o,h1,h2⟩ ?_)
   have e:(Value.type "tuple" != Value.type "tuple")=false:=by simp
   rw [if_neg (by rw [e];simp)]
   refine Qa (listItems_at h1 h3 (Qb ?_))
   have e2:zBz s.heap (.ref a)=us[0]?:=by
    show(match s.heap.get? a with | some o=>(match o.data with | .seq xs _=>xs[0]? | _=>none) | none=>none)=us[0]?
    rw [h1]
    show(match o.data with | .seq xs _=>xs[0]? | _=>none)=us[0]?
    rw [h3]
   rw [e2]at hR'
   exact hR'
 ·have fst:∀ v∈vs,∃ u x as,zBz s.heap v=some u/\Reads s.heap u x as/\zBh d x=true:=fun v hv=>by
   obtain⟨x,xs,as,r,l⟩:=hR v hv
   cases r with
   | @tuple a o us n _ _ h1 h2 h3 h4=>
    have e2:zBz s.heap (.ref a)=us[0]?:=by
     show(match s.heap.get? a with | some o=>(match o.data with | .seq xs _=>xs[0]? | _=>none) | none=>none)=us[0]?
     rw [h1]
     show(match o.data with | .seq xs _=>xs[0]? | _=>none)=us[0]?
     rw [h3]
    generalize hl:us.toList=ul at h4
    cases h4 with
    | @cons u vs' _ _ as' bs' r1 r2=>
     refine⟨u,x,as',?_,r1,l⟩
     rw [e2,<- QD,hl]
     rfl
  have ty:∀ u x as,Reads s.heap u x as->zBh d x=true->tyE u=(if bi=true then .type "int" else .type "tuple")/\∀(R:Value->Shared->Prop),R (tyE u) s->wpAny (model prog w) A (typeOf u) R E s:=fun u x as r l=>by
   obtain⟨⟨i,ed⟩,j,rfl⟩:=zGk l
   subst ed
   cases r
   cases hd
   exact⟨rfl,fun R k=>Jb (T:="int") (typeIs_int s _ _) k⟩
  have all:((vs.map fun v=>zBz s.heap v).toArray.all fun x=>x.isSome)=true:=by
   rw [List.all_toArray,List.all_map,QG]
   intro v hv
   obtain⟨u,x,as,e,_⟩:=fst v hv
   simp [e]
  rw [if_pos all]
  refine Qa (wpAny_rule (Qa ?_))
  rw [oneTypeOnly'_eq]
  have ef:((vs.map fun v=>zBz s.heap v).toArray.filterMap id)=(vs.filterMap fun v=>zBz s.heap v).toArray:=by
   rw [List.filterMap_toArray,List.filterMap_map]
   rfl
  rw [ef,List.mapM_toArray,map_eq_pure_bind]
  have mem:∀ u∈vs.filterMap (fun v=>zBz s.heap v),∃ x as,Reads s.heap u x as/\zBh d x=true:=fun u hu=>by
   obtain⟨v,hv,e⟩:=List.mem_filterMap.mp hu
   obtain⟨u',x,as,e',r,l⟩:=fst v hv
   rw [e]at e';cases e'
   exact⟨x,as,r,l⟩
  refine Qa (Qa (zGm (g:=tyE) (fun u hu R k=>?_) (Qb ?_)))
  ·obtain⟨x,as,r,l⟩:=mem u hu
   exact(ty u x as r l).2 R k
  ·obtain⟨v0,vs',rfl⟩:∃ v0 vs',vs=v0::vs':=by
    cases vs with
    | nil=>exact absurd rfl hne
    | cons a b=>exact⟨a,b,rfl⟩
   obtain⟨u0,x0,as0,e0,r0,l0⟩:=fst v0 Qe
   have em:∀ t∈((v0::vs').filterMap (fun v=>zBz s.heap v)).map tyE,t=(if bi=true then .type "int" else .type "tuple"):=fun t ht=>by
    obtain⟨u,hu,rfl⟩:=QJ.mp ht
    obtain⟨x,as,r,l⟩:=mem u hu
    exact(ty u x as r l).1
   have e1:(((v0::vs').filterMap (fun v=>zBz s.heap v)).map tyE).toArray[0]?=some (if bi=true then .type "int" else .type "tuple"):=by
    rw [JF,e0]
    simp only [Qm]
    rw [(ty u0 x0 as0 r0 l0).1]
    rfl
   rw [e1]
   have e2:((((v0::vs').filterMap (fun v=>zBz s.heap v)).map tyE).toArray.all fun x=>x == (if bi=true then .type "int" else .type "tuple"))=true:=by
    rw [List.all_toArray,QG]
    intro t ht
    rw [em t ht]
    simp
   dsimp only
   rw [if_pos e2]
   refine Qb (Qb ⟨?_,rfl⟩)
   cases bi <;> rfl
end
end SD
namespace SD
open PySem PySem.Spec PySem.SeqAt PyProof.Rows L2 DL SG
abbrev KD:=List Int × D
def rowK(d0:List D):D->Option (List Int)
 | .tuple (x::xs)=>if zA7 d0 (x::xs)=true then zBs (x::xs)else none
 | _=>none
def zA1(d0:List D):List D->Option (List KD)
 | []=>some []
 | d::ds=>(rowK d0 d).bind fun k=>(zA1 d0 ds).bind fun r=>some ((k,d)::r)
def insK(p:KD):List KD->List KD
 | []=>[p]
 | q::r=>if HT.lexLt q.1 p.1=true then q::insK p r else p::q::r
def zAZ:List KD->List KD
 | []=>[]
 | p::r=>insK p (zAZ r)
def zBQ:List D->Option D
 | [.list []]=>some (.list [])
 | [.list (.tuple d0::ds)]=>if ds.length<63 then(zA1 d0 (.tuple d0::ds)).bind fun l=>some (.list ((zAZ l).map (·.2)))else none
 | _=>none
def Le(p q:KD):Prop:=HT.lexLt q.1 p.1=false
theorem Le.trans{p q r:KD}(a:Le p q)(b:Le q r):Le p r:=by
 unfold Le at *
 cases e:HT.lexLt r.1 p.1 with
 | false=>rfl
 | true=>
  rcases zJa _ q.1 _ e with h | h
  ·rw [b]at h;cases h
  ·rw [a]at h;cases h
theorem zGc(p:KD):∀ l:List KD,(insK p l).Perm (p::l)
 | []=>.refl _
 | q::r=>by
  unfold insK
  split
  ·exact((zGc p r).cons q).trans (.swap p q r)
  ·exact .refl _
theorem zDa:∀ l:List KD,(zAZ l).Perm l
 | []=>.refl _
 | p::r=>(zGc p (zAZ r)).trans ((zDa r).cons p)
theorem zIV(p:KD):∀ l:List KD,l.Pairwise Le->(insK p l).Pairwise Le
 | [],_=>by simp [insK]
 | q::r,h=>by
  obtain⟨h1,h2⟩:=Yc.mp h
  unfold insK
  split
  ·rename_i c
   refine Yc.mpr ⟨fun z hz=>?_,zIV p r h2⟩
   rcases Qi.mp ((zGc p r).mem_iff.mp hz)with e | e
   ·subst e
    unfold Le
    cases e2:HT.lexLt z.1 q.1 with
    | false=>rfl
    | true=>have:=zEy _ _ _ c e2;rw [zC3]at this;cases this
   ·exact h1 z e
  ·rename_i c
   have pq:Le p q:=by simpa [Le]using c
   refine Yc.mpr ⟨fun z hz=>?_,h⟩
   rcases Qi.mp hz with e | e
   ·rw [e];exact pq
   ·exact pq.trans (h1 z e)
theorem zD1:∀ l:List KD,(zAZ l).Pairwise Le
 | []=>.nil
 | p::r=>zIV p _ (zD1 r)
theorem zGS:∀{a b:List KD},a.Perm b->a.Pairwise Le->b.Pairwise Le->(∀ p∈a,∀ q∈a,p.1=q.1->p=q)->a=b
 | [],b,h,_,_,_=>h.nil_eq
 | x::r,[],h,_,_,_=>absurd h.length_eq (by simp)
 | x::r,y::t,h,ha,hb,inj=>by
  have hy:y∈x::r:=h.mem_iff.mpr Qe
  have hx:x∈y::t:=h.mem_iff.mp Qe
  have e:x=y:=by
   refine inj x Qe y hy (zDM _ _ ?_ ?_)
   ·rcases Qi.mp hx with c | c
    ·rw [c];exact zC3 _
    ·exact(Yc.mp hb).1 x c
   ·rcases Qi.mp hy with c | c
    ·rw [c];exact zC3 _
    ·exact(Yc.mp ha).1 y c
  subst e
  rw [zGS h.cons_inv (Yc.mp ha).2 (Yc.mp hb).2 fun p hp q hq=>inj p (Qd _ hp) q (Qd _ hq)]
theorem zOQ{α β:Type}{f:α->β}{a b:List β}(h:a.Perm b):∀ l:List α,l.map f=a->∃ l':List α,l'.Perm l/\l'.map f=b:=by
 induction h with
 | nil=>intro l e;exact⟨l,.refl _,e⟩
 | cons x _ ih=>
  intro l e
  cases l with
  | nil=>cases e
  | cons y l=>
   rw [Qm]at e
   injection e with e1 e2
   obtain⟨l',p,q⟩:=ih l e2
   exact⟨y::l',p.cons y,by rw [Qm,e1,q]⟩
 | swap x y r=>
  intro l e
  match l,e with
  | a::b::l,e=>
   rw [Qm,Qm]at e
   injection e with e1 e2
   injection e2 with e2 e3
   exact⟨b::a::l,.swap a b l,by rw [Qm,Qm,e1,e2,e3]⟩
 | trans _ _ ih1 ih2=>
  intro l e
  obtain⟨l1,p1,q1⟩:=ih1 l e
  obtain⟨l2,p2,q2⟩:=ih2 l1 q1
  exact⟨l2,p2.trans p1,q2⟩
theorem zIb:∀{xs ys:List D}{a:List Int},zA7 xs ys=true->zBs xs=some a->zBs ys=some a->xs=ys
 | [],[],_,_,_,_=>rfl
 | [],_::_,_,l,_,_=>by cases l
 | _::_,[],_,l,_,_=>by cases l
 | x::xs,y::ys,a,l,f1,f2=>by
  obtain⟨a1,e1,f1⟩:=bnd f1
  obtain⟨a2,e2,f1⟩:=bnd f1
  obtain⟨c1,e3,f2⟩:=bnd f2
  obtain⟨c2,e4,f2⟩:=bnd f2
  obtain⟨l1,l2⟩:=Qy.mp l
  have hl:=zId l1 e1 e3
  have ee:a1++a2=c1++c2:=(QF f1).trans (QF f2).symm
  obtain⟨g1,g2⟩:=List.append_inj ee hl
  subst g1 g2
  rw [zIb l2 e2 e4]
  congr 1
  obtain⟨i,rfl,ei⟩:=zBT e1
  obtain⟨j,rfl,ej⟩:=zBT e3
  rw [ei]at ej
  cases ej
  rfl
theorem zFJ:∀{xs:List D}{a:List Int},zBs xs=some a->PyData.canLayAll0 xs=true
 | [],_,_=>rfl
 | x::xs,a,f=>by
  obtain⟨a1,e1,f⟩:=bnd f
  obtain⟨a2,e2,f⟩:=bnd f
  have h2:=zFJ e2
  obtain⟨i,rfl,_⟩:=zBT e1
  exact h2
theorem zCD{d0:List D}{d:D}{k:List Int}(h:rowK d0 d=some k):∃ x xs,d=.tuple (x::xs)/\zA7 d0 (x::xs)=true/\zBs (x::xs)=some k:=by
 cases d with
 | tuple ds=>
  cases ds with
  | nil=>cases h
  | cons x xs=>
   have h':(if zA7 d0 (x::xs)=true then zBs (x::xs)else none)=some k:=h
   by_cases c:zA7 d0 (x::xs)=true
   ·rw [if_pos c]at h';exact⟨x,xs,rfl,c,h'⟩
   ·rw [if_neg c]at h';cases h'
 | _=>cases h
theorem zCC{d0:List D}{d e:D}{k:List Int}(h1:rowK d0 d=some k)(h2:rowK d0 e=some k):d=e:=by
 obtain⟨x,xs,rfl,l1,f1⟩:=zCD h1
 obtain⟨y,ys,rfl,l2,f2⟩:=zCD h2
 rw [zIb (zEB l1 l2) f1 f2]
theorem zGL{d0:List D}:∀{ds:List D}{l:List KD},zA1 d0 ds=some l->l.map (·.2)=ds/\∀ p∈l,rowK d0 p.2=some p.1
 | [],_,h=>by cases h;exact⟨rfl,fun p hp=>nomatch hp⟩
 | d::ds,_,h=>by
  obtain⟨k,e1,h⟩:=bnd h
  obtain⟨r,e2,h⟩:=bnd h
  cases h
  obtain⟨h1,h2⟩:=zGL e2
  refine⟨by rw [Qm,h1],fun p hp=>?_⟩
  rcases Qi.mp hp with e | e
  ·rw [e];exact e1
  ·exact h2 p e
abbrev Tr:=KD × V × Value
section
variable {X:Cx}{pins:List (Addr × Obj)}{σ:L2.St}{H:Hp}{s:Shared}{F:Addr->Prop}
theorem zKS{K:PySem.W.Frag}:∀{l:List KD}{vs:List V}{us:List Value},Reps K F H (l.map (·.2)) vs->L2.Vals vs us->∃ T:List Tr,T.map (·.1)=l/\T.map (·.2.1)=vs/\T.map (·.2.2)=us/\∀ t∈T,Rep K F H t.1.2 t.2.1/\L2.RelV t.2.1 t.2.2
 | [],_,_,r,v=>by cases r;cases v;exact⟨[],rfl,rfl,rfl,fun t ht=>nomatch ht⟩
 | p::l,_,_,r,v=>by
  cases r with
  | cons r1 r2=>cases v with
   | cons v1 v2=>
    obtain⟨T,h1,h2,h3,h4⟩:=zKS (l:=l) r2 v2
    refine⟨(p,_,_)::T,by rw [Qm,h1],by rw [Qm,h2],by rw [Qm,h3],fun t ht=>?_⟩
    rcases Qi.mp ht with e | e
    ·rw [e];exact⟨r1,v1⟩
    ·exact h4 t e
theorem zKT{K:PySem.W.Frag}:∀{T:List Tr},(∀ t∈T,Rep K F H t.1.2 t.2.1/\L2.RelV t.2.1 t.2.2)->Reps K F H (T.map (·.1.2)) (T.map (·.2.1))/\L2.Vals (T.map (·.2.1)) (T.map (·.2.2))
 | [],_=>⟨.nil,.nil⟩
 | t::T,h=>by
  obtain⟨h1,h2⟩:=h t Qe
  obtain⟨g1,g2⟩:=zKT fun u hu=>h u (Qd _ hu)
  exact⟨.cons h1 g1,.cons h2 g2⟩
theorem zE8:∀{T:List Tr}{v:Value}{k:List Int},(T.map fun t=>(t.2.2,t.1.1)).lookup v=some k->∃ t∈T,t.2.2=v/\t.1.1=k
 | [],_,_,h=>by cases h
 | t::T,v,k,h=>by
  rw [Qm,QI]at h
  cases e:v == t.2.2 with
  | true=>rw [e]at h;cases h;exact⟨t,Qe,(QW e).symm,rfl⟩
  | false=>
   rw [e]at h
   obtain⟨u,hu,h1,h2⟩:=zE8 h
   exact⟨u,Qd _ hu,h1,h2⟩
theorem zKQ:∀{T:List Tr}{t:Tr},t∈T->∃ k,(T.map fun t=>(t.2.2,t.1.1)).lookup t.2.2=some k:=by
 intro T
 induction T with
 | nil=>intro t h;cases h
 | cons u T ih=>
  intro t h
  rw [Qm,QI]
  cases e:t.2.2 == u.2.2 with
  | true=>exact⟨_,rfl⟩
  | false=>
   rcases Qi.mp h with z | z
   ·rw [z,beq_self_eq_true]at e;cases e
   ·exact ih z
theorem zKF{d0:List D}{its:List Value}{ds:List D}{vs:List V}{l:List KD}{Q:VK}(hu:X.A.units+66<cLine)(I:L2.Inv X pins σ H s)(rv:L2.Vals vs its)(r:Reps X.K F H ds vs)(hk:zA1 d0 ds=some l)(h64:ds.length<64)
  (k:∀ p vs',H p=none->Reps X.K F H ((zAZ l).map (·.2)) vs'->vs'.length<=1000->Q (.ref p) (upd H p (.lst vs'))):wpAny (model X.prog X.w) X.A.in1 (newList its >>= fun l=>holding [l] (call (.builtin "list.sort") [l] []) >>= fun _=>ret l) (fun fin s'=>∃ v,fin=.done (.ret v)/\EP X pins σ Q v s') X.xe s:=by
 obtain⟨em,hrow⟩:=zGL hk
 obtain⟨T,t1,t2,t3,t4⟩:=zKS (K:=X.K) (F:=F) (H:=H) (l:=l) (by rw [em];exact r) rv
 have rowT:∀ t∈T,rowK d0 t.1.2=some t.1.1:=fun t ht=>hrow t.1 (by rw [<- t1];exact YI ht)
 have l64:its.length<64:=by rw [<- rv.length,<- r.length];exact h64
 have all:KeysOf (keyT (T.map fun t=>(t.2.2,t.1.1))) (pairsOf its):=fun p hp=>by
  rw [pairsOf_toList]at hp
  have:p.1∈its:=(List.of_mem_zip hp).1
  rw [<- t3]at this
  obtain⟨t,ht,e⟩:=QJ.mp this
  rw [<- e]
  exact zKQ ht
 have rd:∀ t∈T,∀ h':Heap,(∀ b o,s.heap.get? b=some o->h'.get? b=some o)->∃ as,Reads h' t.2.2 t.1.2 as:=fun t ht h' hk'=>by
  obtain⟨y,ys,y1,_,y2⟩:=zCD (rowT t ht)
  obtain⟨as,z⟩:=(t4 t ht).1.reads I (by rw [y1];exact zFJ y2) (t4 t ht).2
  exact⟨as,Reads.keeps hk' z⟩
 have same:∀ t∈T,∀ u∈T,t.2.2=u.2.2->t.1.1=u.1.1:=fun t ht u hu' e=>by
  obtain⟨as,z1⟩:=rd t ht s.heap fun _ _ q=>q
  obtain⟨bs,z2⟩:=rd u hu' s.heap fun _ _ q=>q
  obtain⟨x,xs,e1,_,f1⟩:=zCD (rowT t ht)
  rw [e]at z1
  have e2:t.1.2=u.1.2:=Reads.unique t.1.2 u.1.2 u.2.2 as bs (by rw [e1];exact zFJ f1) z1 z2
  have h1:=rowT t ht
  have h2:=rowT u hu'
  rw [e2,h2]at h1
  exact(QF h1).symm
 refine Qa (wpAny_newList ?_ (hsz:=?_))
 rotate_left
 ·exact zAY (by lia)
 show wpAny _ _ _ _ _ { s with heap:=s.heap.push (seqObj "list" its.toArray 0) }
 have hL:(s.heap.push (seqObj "list" its.toArray 0)).get? s.heap.objs.size=some (seqObj "list" its.toArray 0):=Qs _ rfl
 have kp:∀ h':Heap,(∀ b o,b≠s.heap.objs.size->(s.heap.push (seqObj "list" its.toArray 0)).get? b=some o->h'.get? b=some o)->∀ b o,s.heap.get? b=some o->h'.get? b=some o:=fun h' hk' b o e=>
  hk' b o (Qt (Qk e)) (Qc _ e)
 refine Qa (Yf (Yg slot_list_sort ⟨_,hL,rfl⟩ entry_list_sort (zPV (κ:=keyT (T.map fun t=>(t.2.2,t.1.1))) (kd:=tuples' (isInt (d0.headD .none))) hL all l64 (fun h' hk' h2=>?_) (fun h' hk'=>?_) fun z' p1 p2=>⟨_,rfl,Qb ⟨_,rfl,?_⟩⟩) (args_list_sort _)))
 ·-- the kind of the keys
  refine zNm (s:={ s with heap:=h' }) (d:=d0.headD .none) rfl (fun v hv=>?_) (fun e=>by rw [e]at h2;simp at h2)
  rw [<- t3]at hv
  obtain⟨t,ht,e⟩:=QJ.mp hv
  obtain⟨x,xs,e1,l1,f1⟩:=zCD (rowT t ht)
  obtain⟨as,z⟩:=rd t ht h' (kp h' hk')
  rw [e1]at z
  refine⟨x,xs,as,by rw [<- e];exact z,?_⟩
  cases d0 with
  | nil=>cases l1
  | cons y ys=>exact(Qy.mp l1).1
 ·-- what a comparison answers
  intro x y ka kb E' Q' h1 h2 hQ'
  obtain⟨t,ht,e1,g1⟩:=zE8 h1
  obtain⟨u,hu',e2,g2⟩:=zE8 h2
  obtain⟨x1,xs1,e3,l1,f1⟩:=zCD (rowT t ht)
  obtain⟨y1,ys1,e4,l2,f2⟩:=zCD (rowT u hu')
  obtain⟨as,z1⟩:=rd t ht h' (kp h' hk')
  obtain⟨bs,z2⟩:=rd u hu' h' (kp h' hk')
  rw [e3,e1]at z1
  rw [e4,e2]at z2
  rw [g1]at f1
  rw [g2]at f2
  cases z1 with
  | @tuple ax ox us n _ _ q1 q2 q3 q4=>cases z2 with
   | @tuple ay oy ws m _ _ w1 w2 w3 w4=>
    have ll:us.size=ws.size:=by
     have a1:=ReadsAll.length _ _ _ q4
     have a2:=ReadsAll.length _ _ _ w4
     have a3:∀(p q:List D),zA7 p q=true->p.length=q.length:=by
      intro p
      induction p with
      | nil=>intro q hq';cases q with
       | nil=>rfl
       | cons _ _=>cases hq'
      | cons p0 p ih=>intro q hq';cases q with
       | nil=>cases hq'
       | cons q0 q=>simp [ih q (Qy.mp hq').2]
     have a4:=a3 _ _ (zEB l1 l2)
     rw [Qo]at a1 a2
     lia
    have ef:decide (us.size<ws.size)=false:=by rw [ll];simp
    refine PySem.W.kat_lt (s:={ s with heap:=h' }) q1 q3 w1 w3 ?_
    rw [ef]
    refine zKb (s:={ s with heap:=h' }) (show X.A.in1.in1.units+64<cLine by show X.A.units+1+1+64<cLine;lia) 0 (zEB l1 l2) f1 f2 q4 w4 (fun hb _ z r' ez=>?_) (fun e=>?_) fun _=>hQ'
    ·cases ez
     cases d0 with
     | nil=>cases l1
     | cons y0 ys0=>
      have l3:=(Qy.mp l1).1
      cases y0 with
      | int n=>cases x1 with
       | int m=>exact⟨m,rfl⟩
       | _=>cases l3
      | _=>cases hb
    ·have e5:HT.lexLt ka kb=false:=by rw [e];exact zC3 _
     have:(keyT (T.map fun t=>(t.2.2,t.1.1))).blt ka kb=false:=e5
     rw [this]at hQ'
     exact hQ'
 ·-- the list behind
  have pm:(((arrOf z').map (·.2)).toList).Perm its:=by
   have h1:=Array.perm_iff_toList_perm.mp p1
   have h2:=h1.map (·.2)
   rw [pairsOf_toList]at h2
   rw [Array.toList_map]
   have h3:(its.zip its).map (·.2)=its:=by
    rw [List.map_snd_zip]
    exact Qh _
   rw [h3]at h2
   exact h2
  obtain⟨T',q1,q2⟩:=zOQ pm.symm T t3
  have memT:∀ t∈T',t∈T:=fun t ht=>q1.mem_iff.mp ht
  obtain⟨g1,g2⟩:=zKT (K:=X.K) (F:=F) (H:=H) (T:=T') fun t ht=>t4 t (memT t ht)
  have lT:T'.length=its.length:=by rw [q1.length_eq,<- t3,Qj]
  have ord:(T'.map (·.1)).Pairwise Le:=by
   rw [Q1,List.pairwise_iff_getElem]
   intro i j hi hj hij
   have sz':(arrOf z').size=T'.length:=by
    rw [p1.size_eq,JA,lT]
   have key:∀ m (hm:m<T'.length),KK (keyT (T.map fun t=>(t.2.2,t.1.1))) (arrOf z') m=T'[m].1.1:=fun m hm=>by
    have hm':m<(arrOf z').size:=by rw [sz'];exact hm
    have e1:(arrOf z')[m]?=some (arrOf z')[m]:=getElem?_pos _ m hm'
    have e2:(arrOf z')[m]∈(pairsOf its).toList:=(Array.perm_iff_toList_perm.mp p1).mem_iff.mp (by simp)
    rw [pairsOf_toList]at e2
    have e3:(arrOf z')[m].1=(arrOf z')[m].2:=by
     obtain⟨n,hn,en⟩:=List.getElem_of_mem e2
     rw [List.getElem_zip]at en
     rw [<- en]
    have e4:(arrOf z')[m].2=T'[m].2.2:=by
     have:=congrArg (fun(l:List Value)=>l[m]?) q2
     simp only [QM,Array.toList_map,QD,e1]at this
     rw [Qg hm]at this
     exact(QF this).symm
    unfold KK
    rw [e1]
    show((keyT (T.map fun t=>(t.2.2,t.1.1))).keyOf (arrOf z')[m].1).getD []=_
    rw [e3,e4]
    obtain⟨kx,hkx⟩:=zKQ (memT T'[m] (YD hm))
    obtain⟨t,ht,e5,e6⟩:=zE8 hkx
    show((T.map fun t=>(t.2.2,t.1.1)).lookup T'[m].2.2).getD []=_
    rw [hkx]
    show kx=_
    rw [<- e6]
    exact same t ht _ (memT _ (YD hm)) e5
   have:=p2 i j (YA hij) (by rw [JA,<- lT];exact hj)
   rw [key i hi,key j hj]at this
   exact this
  have uni:T'.map (·.1)=zAZ l:=by
   refine zGS (((q1.map (·.1)).trans (.of_eq t1)).trans (zDa l).symm) ord (zD1 l) fun p hp q hq' e=>?_
   obtain⟨t,ht,rfl⟩:=QJ.mp hp
   obtain⟨u,hu',rfl⟩:=QJ.mp hq'
   have h1:=rowT t (memT t ht)
   have h2:=rowT u (memT u hu')
   rw [e]at h1
   exact YW e (zCC h1 h2)
  have eD:(zAZ l).map (·.2)=T'.map (·.1.2):=by rw [<- uni,Q7];rfl
  have fresh:H s.heap.objs.size=none:=I.hok.fresh (Qh _)
  obtain⟨ep,hat⟩:=sortedHeap_at (out:=(arrOf z').map (·.2)) hL
  have old:∀ b o,s.heap.get? b=some o->(sortedHeap (s.heap.push (seqObj "list" its.toArray 0)) s.heap.objs.size its ((arrOf z').map (·.2))).get? b=some o:=fun b o e=>by
   have lt:=Qk e
   rw [sortedHeap_old (Qt lt) (by rw [size_push'];exact YH lt)]
   exact Qc _ e
  have lv:(T'.map (·.2.1)).length<=1000:=by rw [Qj,lT];lia
  refine⟨.ref s.heap.objs.size,_,I.laid (t':=s.toks) (o:=.lst (T'.map (·.2.1))) old (Qh _) ?_,rfl,k _ _ fresh (by rw [eD];exact g1) lv⟩
  refine⟨zAY lv,T'.map (·.2.2),ep,g2,?_⟩
  rw [hat,q2]
theorem zD2{d0:List D}{a:Addr}{ds:List D}{vs:List V}{l:List KD}{Q:VK}(hu:X.A.units+66<cLine)(I:L2.Inv X pins σ H s)(hq:SqL X.K H a vs)(r:Reps X.K F H ds vs)(hk:zA1 d0 ds=some l)(h64:ds.length<64)
  (k:∀ p vs',H p=none->Reps X.K F H ((zAZ l).map (·.2)) vs'->vs'.length<=1000->Q (.ref p) (upd H p (.lst vs'))):wpAny (model X.prog X.w) X.A (call (.builtin "sorted") [.ref a]) (EP X pins σ Q) X.xe s:=by
 obtain⟨its,rv,pl,hz⟩:=I.list hq
 refine Calls.call_function_entry kind_sorted plain_sorted entry_sorted (args_sorted1 _) ?_
 unfold Builtin.«sorted»
 refine Qa (m:=checkCount "sorted" 1 1 _) (Qb (Qa (collect_list pl.isList ?_ (hsz:=?_))))
 ·refine zKF hu (I.kept (h':=(s.heap.push (seqObj "list" #[] 0)).update s.heap.objs.size (Obj.mapSeq (·++its.toArray))) (t':=s.toks) fun b o e=>?_) rv r hk h64 k
  rw [Heap.get?_update_ne _ _ _ _ (Qt (Qk e))]
  exact Qc _ e
 ·rw [<- rv.length];exact hz
end
end SD
namespace DL
open PySem PySem.Spec PyProof.Rows L2 SD
theorem zHA{X:Cx}(hu:X.A.units+66<cLine):zAF X (.builtin "sorted") (rDA X.K zBQ):=fun pins s σ H xs us Q I rx zz=>by
 obtain⟨F,ds,q,z,R,hq,k⟩:=zz
 unfold zBQ at hq
 split at hq
 ·cases hq
  cases R with
  | cons R1 R2=>
   cases R2
   cases R1 with
   | @lst a vs _ h1 r1=>
    obtain⟨u,rfl,ru⟩:=zBw rx
    cases ru
    exact zD2 (d0:=[]) (l:=[]) hu I h1.sq r1 rfl (by simp) fun p vs' hp r' _=>k _ _ _ (Ext.frozen hp) (Rep.newLst hp r')
 ·rename_i d0 ds'
  by_cases c:ds'.length<63
  ·rw [if_pos c]at hq
   obtain⟨l,e1,hq⟩:=bnd hq
   cases hq
   cases R with
   | cons R1 R2=>
    cases R2
    cases R1 with
    | @lst a vs _ h1 r1=>
     obtain⟨u,rfl,ru⟩:=zBw rx
     cases ru
     exact zD2 (d0:=d0) hu I h1.sq r1 e1 (by simp;lia) fun p vs' hp r' _=>k _ _ _ (Ext.frozen hp) (Rep.newLst hp r')
  ·rw [if_neg c]at hq;cases hq
 ·cases hq
end DL
namespace ZL
open PySem PySem.Spec PyProof.Rows L2 DL
def Itz(K:PySem.W.Frag)(a b:Addr):It:=
 ⟨fun i H=>∃ xs ys x y,SqL K H a xs/\SqL K H b ys/\xs[i]?=some x/\ys[i]?=some y,
  fun i H v H'=>∃ p,H p=none/\v=.ref p/\∃ x y,H'=upd H p (.tup [x,y])/\(∀ xs,SqL K H a xs->xs[i]?=some x)/\∀ ys,SqL K H b ys->ys[i]?=some y,
  fun i H=>∃ xs ys,SqL K H a xs/\SqL K H b ys/\(xs.length<=i ∨ ys.length<=i)⟩
theorem zFf{X:Cx}{pins:List (Addr × Obj)}{σ:L2.St}{H H':Hp}{s:Shared}{ch:List Addr}{h':Heap}{tk:Nat}(I:L2.Inv X pins σ H s)(hf:∀ b∈ch,FpOk X pins H b)(k:∀ b o,b∉ch->s.heap.get? b=some o->h'.get? b=some o)
  (hH:∀ b o,s.heap.get? b=some o->H' b=H b) (hS:∀ b o,H b=some o->H' b=some o) (hok:HOk X.prog X.w H' h'):L2.Inv X pins σ H' { s with heap:=h',toks:=tk }:=by
 refine I.step (g':=s.gens) (d':=s.drawn) (ch:=ch) (fun b hb=>?_) (fun b o _ _ hc e _=>k b o hc e) (fun b o _ _ hc e _=>⟨o.slots,k b o hc e⟩) (fun b o _ e n=>by rw [hH b o e];exact n)
  (fun b o hc e=>⟨o,k b o hc e⟩) (fun b xs e=>hS _ _ e) (fun b o u e=>hS _ _ e) (fun b ps e=>⟨#[],by rw [hS _ _ e];simp⟩) (fun m hm=>?_) hok I.bare
 ·obtain⟨_,f1,_,f3,f4,f5⟩:=hf b hb
  exact⟨f3,f1,f4,f5⟩
 ·obtain⟨o,es,ep,ho,r⟩:=hm
  exact⟨o,es,ep,k _ o (fun z=>(hf _ z).2.1 rfl) ho,r⟩
theorem zQm{P:Program}{w:World}{K:PySem.W.Frag}{elts:List Expr}{x1}{tpos:Pos}(a b z TI TO i1 i2:Addr)(D:ZipApart z TI TO i1 i2 a b):
  Turn P w K (.Tuple elts x1 tpos) (Itz K a b) [z,TI,TO,i1,i2] z (fun i h=>IsZip h z TI TO .none/\IsPair h TI (.ref i1) (.ref i2)/\(∃ u v,IsPair h TO u v)/\h.IsListIter i1 a i/\h.IsListIter i2 b i) where
 mem:=by simp
 obj:=fun i h st c hc=>by
  obtain⟨h1,h2,⟨u,v,h3⟩,⟨o4,e4,_,d4⟩,⟨o5,e5,_,d5⟩⟩:=st
  rcases Qi.mp hc with rfl | hc
  ·exact⟨_,h1,fun v z=>by have z':Data.fields _=Data.cell v:=z;cases z'⟩
  rcases Qi.mp hc with rfl | hc
  ·exact⟨_,h2,fun v z=>by have z':Data.seq _ _=Data.cell v:=z;cases z'⟩
  rcases Qi.mp hc with rfl | hc
  ·exact⟨_,h3,fun v z=>by have z':Data.seq _ _=Data.cell v:=z;cases z'⟩
  rcases Qi.mp hc with rfl | hc
  ·exact⟨o4,e4,fun v z=>by rw [d4]at z;cases z⟩
  rcases Qi.mp hc with rfl | hc
  ·exact⟨o5,e5,fun v z=>by rw [d5]at z;cases z⟩
  cases hc
 keep:=fun i h h' st k=>by
  obtain⟨h1,h2,⟨u,v,h3⟩,h4,h5⟩:=st
  exact⟨k z (by simp) _ h1,k TI (by simp) _ h2,⟨u,v,k TO (by simp) _ h3⟩,h4.at fun o e=>k i1 (by simp) o e,h5.at fun o e=>k i2 (by simp) o e⟩
 item:=by
  intro X hP hw hK hc i pins s σ H E I hf st hg
  subst hP hw hK
  obtain⟨xs,ys,x,y,ha,hb,hx,hy⟩:=hg
  obtain⟨h1,h2,⟨u,v,h3⟩,h4,h5⟩:=st
  obtain⟨its,rv,pl,_⟩:=I.list ha
  obtain⟨jts,rw',pl2,_⟩:=I.list hb
  obtain⟨xu,ex,rx⟩:=rv.get hx
  obtain⟨yu,ey,ry⟩:=rw'.get hy
  refine wpAny_pyNext_zip_item D h1 h2 h3 h4 h5 pl.isList pl2.isList (x:=xu) (y:=yu) (by simpa using ex) (by simpa using ey) fun h' a1 a2 a3 a4 a5 a6 hk=>⟨_,rfl,?_⟩
  refine wpAny_letOwnedTupleGo_zip (s:={ s with heap:=h' }) a1 fun h'' z1 sb=>?_
  have up:∀ c o,c≠z->h'.get? c=some o->h''.get? c=some o:=fun c o nc e=>sb.extBut c o nc e
  have hn:H s.heap.objs.size=none:=I.hok.fresh (Qh _)
  have old:∀ c o,s.heap.get? c=some o->c≠s.heap.objs.size:=fun c o e=>Qt (Qk e)
  have zT:s.heap.objs.size≠z:=(old z _ h1).symm
  have kk:∀ c o,c∉[z,TI,TO,i1,i2]->s.heap.get? c=some o->h''.get? c=some o:=fun c o nc e=>
   up c o (fun q=>nc (by simp [q])) (hk c o (fun q=>nc (by simp [q])) (fun q=>nc (by simp [q])) (fun q=>nc (by simp [q])) (fun q=>nc (by simp [q])) e)
  have nfp:∀ c o,H c=some o->c∉[z,TI,TO,i1,i2]:=fun c o e hc'=>by
   have:=(hf c hc').1
   rw [this]at e;cases e
  have t2:IsPair h'' TI (.ref i1) (.ref i2):=up _ _ D.TIz (hk _ _ D.TIz D.TITO D.TIi1 D.TIi2 h2)
  have t3:IsPair h'' TO xu yu:=up _ _ D.TOz a2
  have t4:h''.IsListIter i1 a (i+1):=a3.at fun o e=>up _ o D.i1z e
  have t5:h''.IsListIter i2 b (i+1):=a4.at fun o e=>up _ o D.i2z e
  have hok:HOk X.prog X.w (upd H s.heap.objs.size (.tup [x,y])) h'':=fun c o e=>by
   by_cases hcT:c=s.heap.objs.size
   ·subst hcT
    rw [zBm]at e;cases e
    exact⟨zAY (by simp),[xu,yu],.cons rx (.cons ry .nil),⟨_,up _ _ zT a5,rfl,0,rfl⟩⟩
   ·rw [zAs hcT]at e
    refine(I.hok c o e).stay (fun d v hd q=>kk d v ?_ q) (fun d q=>by rw [zAs (zBj q hn)];exact q) fun d xs q=>by rw [zAs (zBj q hn)];exact q
    rcases hd with rfl | hd
    ·exact nfp _ _ e
    ·exact nfp _ _ hd
  refine⟨.ref s.heap.objs.size,_,zFf (s:=s) (h':=h'') (tk:=s.toks) I hf kk (fun c o e=>zAs (old c o e)) (fun c o e=>by rw [zAs (zBj e hn)];exact e) hok,rfl,⟨_,hn,rfl,x,y,rfl,fun xs' h'=>by rw [I.list_inj h' ha];exact hx,fun ys' h'=>by rw [I.list_inj h' hb];exact hy⟩,⟨z1,t2,⟨_,_,t3⟩,t4,t5⟩,fun c hc'=>?_⟩
  ·have e:=(hf c hc').1
   have nT:c≠s.heap.objs.size:=by
    rcases Qi.mp hc' with rfl | hc'
    ·exact old _ _ h1
    rcases Qi.mp hc' with rfl | hc'
    ·exact old _ _ h2
    rcases Qi.mp hc' with rfl | hc'
    ·exact old _ _ h3
    rcases Qi.mp hc' with rfl | hc'
    ·obtain⟨_,e',_⟩:=h4;exact old _ _ e'
    rcases Qi.mp hc' with rfl | hc'
    ·obtain⟨_,e',_⟩:=h5;exact old _ _ e'
    cases hc'
   rw [zAs nT];exact e
 done:=by
  intro X hP hw hK hc i pins s σ H E I hf st hg
  subst hP hw hK
  obtain⟨xs,ys,ha,hb,hend⟩:=hg
  obtain⟨h1,h2,⟨u,v,h3⟩,h4,h5⟩:=st
  obtain⟨its,rv,pl,_⟩:=I.list ha
  obtain⟨jts,rw',pl2,_⟩:=I.list hb
  have l1:=rv.length
  have l2:=rw'.length
  refine wpAny_pyNext_zip_end (I.ok.hd hc) D h1 h2 h3 h4 h5 pl.isList pl2.isList (by
   rcases hend with hend | hend
   ·left;simp;lia
   ·right;simp;lia) fun h' hk=>⟨rfl,?_⟩
  have kk:∀ c o,c∉[z,TI,TO,i1,i2]->s.heap.get? c=some o->h'.get? c=some o:=fun c o nc e=>
   hk c o (fun q=>nc (by simp [q])) (fun q=>nc (by simp [q])) (fun q=>nc (by simp [q])) (fun q=>nc (by simp [q])) e
  have nfp:∀ c o,H c=some o->c∉[z,TI,TO,i1,i2]:=fun c o e hc'=>by
   have:=(hf c hc').1
   rw [this]at e;cases e
  refine zFf (s:=s) (h':=h') (tk:=s.toks) I hf kk (fun _ _ _=>rfl) (fun _ _ e=>e) fun c o e=>?_
  refine(I.hok c o e).stay (fun d v hd q=>kk d v ?_ q) (fun d q=>q) fun d xs q=>q
  rcases hd with rfl | hd
  ·exact nfp _ _ e
  ·exact nfp _ _ hd
 self:=fun _ _ _ _ _ st h=>wpAny_pyIter_zip st.1 h
theorem nne{x y:Nat}(h:x≠y):@Ne Addr x y:=h
theorem zQw{n a b:Nat}(la:a<n)(lb:b<n):ZipApart (n+4) (n+2) (n+3) n (n+1) a b:=
 ⟨nne (by lia),nne (by lia),nne (by lia),nne (by lia),nne (by lia),nne (by lia),nne (by lia),nne (by lia),nne (by lia),nne (by lia),nne (by lia),nne (by lia),nne (by lia),nne (by lia),nne (by lia),nne (by lia),nne (by lia),nne (by lia)⟩
def iZip(K:PySem.W.Frag)(ta:TA):TI:=fun σ H R=>ta σ H fun vs H1=>∃ a b,vs=[.ref a,.ref b]/\(∃ xs,SqL K H1 a xs)/\(∃ ys,SqL K H1 b ys)/\R (Itz K a b) H1
theorem zOX{X:Cx}{elts:List Expr}{x1}{tpos:Pos}{a b:Expr}{ta:TA}{p pos:Pos}(hg:Gl X "zip")(hm:X.mg "zip"=none)(ha:PA X [a,b] ta)(hs:starEach [a,b] X.env=[(false,eval a X.env),(false,eval b X.env)]:=by rfl)(hs2:starEach [b] X.env=[(false,eval b X.env)]:=by rfl):
  PI X (.Tuple elts x1 tpos) (.Call (.Name "zip" p) [a,b] [] pos) (iZip X.K ta):=by
 intro pins s σ H R I h
 refine Call_ (zB8 I hg hm boot_zip (YE (thn (ha pos pins s σ H _ I h) fun us s1 ⟨vs,H1,I1,r1,q1⟩=>?_) (by rw [hs,hs2]) (by rw [hs2];rfl)))
 obtain⟨a',b',e,⟨xs,hx⟩,⟨ys,hy⟩,q⟩:=q1
 subst e
 cases r1 with
 | cons r rr=>
  cases rr with
  | cons r' rr=>
   cases rr
   cases r
   cases r'
   obtain⟨its,rv,pl,_⟩:=I1.list hx
   obtain⟨jts,rw',pl2,_⟩:=I1.list hy
   refine call_zip_2 pl.isList pl2.isList fun h' a1 a2 a3 a4 a5 a6 hk=>?_
   have I2:L2.Inv X pins σ H1 { s1 with heap:=h' }:=I1.kept (t':=s1.toks) hk
   refine wpAny_pyIter_zip (s:={ s1 with heap:=h' }) a1 ?_
   have la:a'<s1.heap.objs.size:=by obtain⟨_,e,_⟩:=pl.isList;exact Qk e
   have lb:b'<s1.heap.objs.size:=by obtain⟨_,e,_⟩:=pl2.isList;exact Qk e
   refine⟨_,[s1.heap.objs.size+4,s1.heap.objs.size+2,s1.heap.objs.size+3,s1.heap.objs.size,s1.heap.objs.size+1],_,_,H1,rfl,I2,zQm a' b' (s1.heap.objs.size+4) (s1.heap.objs.size+2) (s1.heap.objs.size+3) s1.heap.objs.size (s1.heap.objs.size+1) (zQw la lb),⟨a1,a2,⟨_,_,a3⟩,a4,a5⟩,fun c hc=>?_,q⟩
   have lc:s1.heap.objs.size<=c:=by
    rcases Qi.mp hc with rfl | hc
    ·exact Yn _ _
    rcases Qi.mp hc with rfl | hc
    ·exact Yn _ _
    rcases Qi.mp hc with rfl | hc
    ·exact Yn _ _
    rcases Qi.mp hc with rfl | hc
    ·exact Qh _
    rcases Qi.mp hc with rfl | hc
    ·exact Yn _ _
    cases hc
   exact I1.fpOk lc (I1.hok.fresh lc)
end ZL
namespace DL
open PySem PySem.Spec PyProof.Rows L2 ZL
def zipD:List D->Option (List D)
 | [.list xs,.list ys]=>some (List.zipWith (fun x y=>.tuple [x,y]) xs ys)
 | _=>none
theorem zM6{K:PySem.W.Frag}{F:Addr->Prop}{H:Hp}{a b:Addr}{vs us:List V}{ds es:List D}(h1:FzL K F H a vs)(r1:Reps K F H ds vs)(h2:FzL K F H b us)(r2:Reps K F H es us):ItD K F H (List.zipWith (fun x y=>.tuple [x,y]) ds es) (Itz K a b):=fun F2 H2 T z i=>by
 have g1:=h1.stay T
 have g2:=h2.stay T
 have s1:=r1.stay T
 have s2:=r2.stay T
 refine⟨fun d hd=>?_,fun hl=>⟨vs,us,g1.sq,g2.sq,?_⟩⟩
 ·rw [List.getElem?_zipWith]at hd
  cases e1:ds[i]? with
  | none=>rw [e1]at hd;cases hd
  | some x=>
   cases e2:es[i]? with
   | none=>rw [e1,e2]at hd;cases hd
   | some y=>
    rw [e1,e2]at hd
    cases hd
    obtain⟨v,e3,R1⟩:=s1.get e1
    obtain⟨u,e4,R2⟩:=s2.get e2
    refine⟨⟨vs,us,v,u,g1.sq,g2.sq,e3,e4⟩,fun w H3 yy=>?_⟩
    obtain⟨p,hp,rfl,x',y',rfl,q1,q2⟩:=yy
    have q3:=q1 vs g1.sq
    have q4:=q2 us g2.sq
    rw [e3]at q3;cases q3
    rw [e4]at q4;cases q4
    exact⟨F2,Ext.fresh hp,Rep.newTup hp (.cons R1 (.cons R2 .nil))⟩
 ·rw [List.length_zipWith]at hl
  rw [<- s1.length,<- s2.length]
  lia
theorem zMe{X:Cx}{elts:List Expr}{x1}{tpos:Pos}{a b:Expr}{gr:Rho->Option (List D)}{p pos:Pos}(hg:Gl X "zip")(hm:X.mg "zip"=none)(ha:DA X [a,b] gr)(hs:starEach [a,b] X.env=[(false,eval a X.env),(false,eval b X.env)]:=by rfl)(hs2:starEach [b] X.env=[(false,eval b X.env)]:=by rfl):
  DI X (.Tuple elts x1 tpos) (.Call (.Name "zip" p) [a,b] [] pos) (fun ρ=>(gr ρ).bind zipD):=
 zGy (zOX hg hm ha hs hs2) fun σ H R zz=>by
  obtain⟨F,H₀,ρ,ds,S,q,k⟩:=zz
  obtain⟨xs,e1,q⟩:=bnd q
  unfold zipD at q
  split at q
  ·cases q
   refine⟨F,H₀,ρ,_,S,e1,fun F1 H1 vs E1 R1=>?_⟩
   cases R1 with
   | cons r rs=>
    cases r with
    | @lst a' vs' _ h1 r1=>
     cases rs with
     | cons r rs=>
      cases r with
      | @lst b' us' _ h2 r2=>
       cases rs
       exact⟨a',b',rfl,⟨_,h1.sq⟩,⟨_,h2.sq⟩,k F1 H1 _ E1 (zM6 h1 r1 h2 r2)⟩
  ·cases q
end DL
namespace DL
open PySem PySem.Spec PySem.SeqAt PyProof.Rows L2 CL SD ZL
def cutD(xs:List D)(lo hi:Option Int):List D:=(xs.drop (HT.sIx xs.length 0 lo)).take (HT.sIx xs.length xs.length hi-HT.sIx xs.length 0 lo)
def tDO(K:PySem.W.Frag)(g:Rho->Option (Option Int)):TO:=fun σ H Q=>TDx K σ H g fun F o=>∀ F' H',Ext F F' H H'->Q o H'
def DO(X:Cx)(e:Option Expr)(g:Rho->Option (Option Int)):Prop:=PO X e (tDO X.K g)
def oNo:Rho->Option (Option Int):=fun _=>some none
def oE(g:Rho->Option D):Rho->Option (Option Int):=fun ρ=>(g ρ).bind fun d=>(asI d).bind fun i=>some (some i)
section
variable {X:Cx}{a b e:Expr}{ga:Rho->Option D}{pos p p2:Pos}{lo hi:Option Expr}{gl gh:Rho->Option (Option Int)}
theorem zJ0{o:Option Expr}{t t':TO}(h:PO X o t)(m:∀ σ H Q,t' σ H Q->t σ H Q):PO X o t':=fun pins s σ H Q I q=>h pins s σ H Q I (m σ H Q q)
theorem zDA:DO X none oNo:=zJ0 zO1 fun σ H Q zz=>by
 obtain⟨F,H₀,ρ,o,S,q,k⟩:=zz
 cases q
 exact k F H (Ext.refl F H)
theorem zDB(h:DE X e ga):DO X (some e) (oE ga):=zJ0 (zO2 h) fun σ H Q zz=>by
 obtain⟨F,H₀,ρ,o,S,q,k⟩:=zz
 obtain⟨d,e1,q⟩:=bnd q
 obtain⟨i,e2,q⟩:=bnd q
 cases q
 exact⟨F,H₀,ρ,d,S,e1,fun F1 H1 v E1 R1=>⟨i,zPz R1 e2,k F1 H1 E1⟩⟩
theorem Reps.cut{K:PySem.W.Frag}{F:Addr->Prop}{H:Hp}{ds:List D}{vs:List V}(r:Reps K F H ds vs)(lo hi:Option Int):Reps K F H (cutD ds lo hi) (cutV vs lo hi):=by
 unfold cutD cutV
 rw [r.length]
 exact(r.drop _).take _
def tyD:D->String
 | .none=>"NoneType"
 | .bool _=>"bool"
 | .int _=>"int"
 | .str _=>"str"
 | .list _=>"list"
 | .tuple _=>"tuple"
 | .dict _=>"dict"
def isD(T:String)(d:D):Bool:=tyD d == T || (T == "int" && tyD d == "bool")
def zGe:D->Bool
 | .dict _=>true
 | _=>false
def eIs(T:String)(ga:Rho->Option D):Rho->Option D:=fun ρ=>(ga ρ).bind fun d=>if zGe d=true then none else some (.bool (isD T d))
theorem zNn(K:PySem.W.Frag)(T:String)(hT:T="list" ∨ T="tuple" ∨ T="int" ∨ T="bool" ∨ T="str" ∨ T="dict")(d:D):PySem.W.kitOne K (.type (tyD d)) (.type T)=some (isD T d):=by
 rcases hT with rfl | rfl | rfl | rfl | rfl | rfl <;> cases d <;> (first | rfl | (unfold PySem.W.kitOne;with_unfolding_all rfl) | decide +kernel)
theorem zLt{T:String}(hT:T="list" ∨ T="tuple" ∨ T="int" ∨ T="bool" ∨ T="str" ∨ T="dict"):zAF X (.builtin "isinstance") (fun xs H Q=>∃(F:Addr->Prop) (d:D) (x:V),Rep X.K F H d x/\zGe d=false/\xs=[x,.ty T]/\Q (.bl (isD T d)) H):=by
 intro pins s σ H xs us Q I rv h
 obtain⟨F,d,x,R,nd,rfl,q⟩:=h
 obtain⟨u,u2,rfl,ru,r2⟩:=zK2 rv
 cases(show u2=Value.type T from r2)
 have ok:=zNn X.K T hT d
 have fin:∀ tk,EP X pins σ Q (.bool (isD T d)) { s with toks:=tk }:=fun tk=>⟨.bl _,H,I.tok tk,rfl,q⟩
 cases R with
 | non=>cases(show u=Value.none from ru);exact PySem.W.kia_one PySem.W.kitx_none I.kIn True.intro ok (fun z=>nomatch z) fin
 | dct _ _ _ _ _=>cases nd
 | exn _ _ _=>cases nd
 | bl b=>cases(show u=Value.bool b from ru);exact PySem.W.kia_one PySem.W.kitx_bool I.kIn True.intro ok (fun z=>nomatch z) fin
 | int i=>obtain⟨t,e⟩:=(show ∃ t,u=Value.int i t from ru);cases e;exact PySem.W.kia_one PySem.W.kitx_int I.kIn True.intro ok (fun z=>nomatch z) fin
 | str y=>obtain⟨t,e⟩:=(show ∃ t,u=Value.str y t from ru);cases e;exact PySem.W.kia_one PySem.W.kitx_str I.kIn True.intro ok (fun z=>nomatch z) fin
 | @tup a vs ds h1 r1=>
  cases(show u=Value.ref a from ru)
  obtain⟨its,_,⟨o,g1,g2,_⟩,_⟩:=I.tuple h1
  exact PySem.W.kia_one PySem.W.kitx_tuple I.kIn ⟨o,g1,g2⟩ ok (fun z=>nomatch z) fin
 | @lst a vs ds h1 r1=>
  cases(show u=Value.ref a from ru)
  obtain⟨its,_,⟨o,n,g1,g2,_⟩,_⟩:=I.list h1.sq
  exact PySem.W.kia_one PySem.W.kitx_list I.kIn ⟨o,g1,g2⟩ ok (fun z=>nomatch z) fin
theorem zLo:bootBuiltins "isinstance"=some (.builtin "isinstance"):=by decide +kernel
theorem zFu{T:String}{Tn:Str}{p':Pos}(hT:T="list" ∨ T="tuple" ∨ T="int" ∨ T="bool" ∨ T="str" ∨ T="dict")(hg:Gl X "isinstance")(hm:X.mg "isinstance"=none)(hgT:Gl X Tn)(hmT:X.mg Tn=none)(hvT:bootBuiltins Tn=some (.type T))(hn:Tn≠"__name__")(ha:DE X e ga)
  (hs:starEach [e,.Name Tn p'] X.env=(false,eval e X.env)::starEach [.Name Tn p'] X.env:=by rfl) (hs2:starEach [.Name Tn p'] X.env=(false,eval (.Name Tn p') X.env)::starEach [] X.env:=by rfl) (hdb:(Tn == ("__debug__":Str))=false:=by decide)
  (hpl:(backTo pos (starEach [.Name Tn p'] X.env)).any (·.1)=false:=by rfl):DE X (.Call (.Name "isinstance" p) [e,.Name Tn p'] [] pos) (eIs T ga):=
 zAQ (zJR (zLt hT) hg hm zLo (zDU ha (zDU (zOC (v:=.ty T) hgT hmT hvT rfl hn hdb) zEL hs2) hs) (he:=hs) (hpl:=hpl)) fun σ H Q zz=>by
  obtain⟨F,H₀,ρ,d,S,q,k⟩:=zz
  obtain⟨x,e1,q⟩:=bnd q
  by_cases c:zGe x=true
  ·rw [if_pos c]at q;cases q
  ·rw [if_neg c]at q
   cases q
   exact⟨F,H₀,ρ,x,S,e1,fun F1 H1 v E1 R1=>⟨F1,x,v,R1,by simpa using c,rfl,k F1 H1 _ E1 (.bl _)⟩⟩
end
def zFp(osc:Scope)(oN N':List Str)(scope:Scope)(inner:List (Option Nat)):Bool:=
 scope.kind == .function && scope.names.all (fun x=>x.2 != .cell) && scope.names.all (fun x=>x.2 != .local || scope.names.lookup x.1 == some .local) &&
 scope.names.all (fun x=>x.2 != .free || (scope.names.lookup x.1 == some .free && (osc.names.lookup x.1 == some .cell || osc.names.lookup x.1 == some .free))) && inner.length == N'.length &&
 (List.range inner.length).all fun i=>match inner[i]? with
  | some (some j)=>match N'[i]? with
   | some x=>oN[j]? == some x && scope.names.lookup x == some .free
   | none=>false
  | _=>true
theorem zAM{X:Cx}{N':List Str}{scope:Scope}{inner:List (Option Nat)}(osc:Scope)(oN:List Str)(h1:X.env.scope=osc)(h2:X.N=oN)(h:zFp osc oN N' scope inner=true):zB1 X N' scope inner:=by
 unfold zFp at h
 simp only [QH]at h
 obtain⟨⟨⟨⟨⟨a1,a2⟩,a3⟩,a4⟩,a5⟩,a6⟩:=h
 refine⟨QW a1,fun x hx e=>?_,fun x hx e=>?_,fun x hx e=>?_,QW a5,fun i j e=>?_⟩
 ·have:=QG.mp a2 x hx
  rw [e]at this;cases this
 ·have:=QG.mp a3 x hx
  rw [e]at this
  rcases YJ.mp this with z | z
  ·cases z
  ·exact QW z
 ·have:=QG.mp a4 x hx
  rw [e]at this
  rcases YJ.mp this with z | z
  ·cases z
  ·obtain⟨z1,z2⟩:=Qy.mp z
   refine⟨QW z1,?_⟩
   rw [h1]
   rcases YJ.mp z2 with z | z
   ·exact .inl (QW z)
   ·exact .inr (QW z)
 ·have hi:i<inner.length:=(Qf.mp e).1
  have:=QG.mp a6 i (QE.mpr hi)
  rw [e]at this
  dsimp only at this
  split at this
  ·rename_i x e2
   obtain⟨z1,z2⟩:=Qy.mp this
   exact⟨x,e2,by rw [h2];exact QW z1,QW z2⟩
  ·cases this
theorem u64{k:Nat}{A:Around}(r:Room k A):A.units+64<cLine:=by have:=r.un;lia
theorem u65{k:Nat}{A:Around}(r:Room k A):A.units+65<cLine:=by have:=r.un;lia
theorem u66{k:Nat}{A:Around}(r:Room k A):A.units+66<cLine:=by have:=r.un;lia
def zE4(K:PySem.W.Frag)(G:List D->Option D):Sp:=fun vs H Q E=>∃(a:Addr) (ns:List Int),vs=[.ref a]/\SqL K H a (ns.map V.int)/\ns.length<=63/\∀ H',Q (.bl true) H'
theorem zC2{K:PySem.W.Frag}{F:Addr->Prop}{H:Hp}:∀ ns:List Int,Reps K F H (ns.map PyData.int) (ns.map V.int)
 | []=>.nil
 | n::ns=>.cons (.int n) (zC2 ns)
theorem law_D{P:Program}{w:World}{K:PySem.W.Frag}{mg:Str->Option Value}{base:Heap}{CX:CXT}{k:Nat}{f:Addr}{fd:FuncData}{ps:List Str}{G:List D->Option D}(F:FnOk P w K mg base CX k f fd ps (spD K 1 G))
  (h:∀ ns:List Int,ns.length<=63->G [.list (ns.map PyData.int)]=some (.bool true)):FnOk P w K mg base CX k f fd ps (zE4 K G):=
 F.imp fun vs H Q E zz=>by
  obtain⟨a,ns,e,hq,hl,q⟩:=zz
  subst e
  refine⟨fun b=>H b≠none,[.list (ns.map PyData.int)],.bool true,rfl,fun _ z=>z,.cons ?_ .nil,h ns hl,fun F' H' v E' R'=>?_⟩
  ·rcases hq with hq | hq
   ·refine .lst (.inl ⟨?_,hq⟩) (zC2 ns)
    rcases hq with hq | ⟨o,hq⟩ <;> (rw [hq];simp)
   ·exact .lst (.inr (.inr hq)) (zC2 ns)
  ·cases R'
   exact q H'
theorem zAt{P:Program}{w:World}{K:PySem.W.Frag}{mg:Str->Option Value}{base:Heap}{x qual:Str}{st:Stmt}{f:Addr}{fd:FuncData}{N ps:List Str}{k n m:Nat}{g:Rho->Option Out}{G:List D->Option D}(hG:G=fnD m g)(hn:ps.length=n)(hm:N.length=m)(F:Fun K x qual st f fd)(S:zAp N ps (zAg st))
  (hb:∀(cdv:Value) (A:Around) (outer:List Env) (s:Shared) (H:Hp) (E:XK),Room k (A.deeper (envOfC qual (zAg st) s.heap.objs.size f cdv))->
   DSs (cxOf CX0 P w K mg base N qual (zAg st) f cdv A outer s H E).nox (zA3 st) g):FnOk P w K mg base CX0 (k+1) f fd ps (spD K n G):=by
 subst hn hm hG
 exact fn_D F S hb
end DL
namespace ST
open PySem PySem.SetTable
def fI(M i:Nat):Nat:=(i * 5+1) % (M+1)
def itN(M:Nat):Nat->Nat->Nat
 | 0,i=>i
 | n+1,i=>itN M n (fI M i)
theorem zDK(M:Nat):∀ a b i,itN M (a+b) i=itN M b (itN M a i)
 | 0,b,i=>by rw [YG];rfl
 | a+1,b,i=>by rw [Nat.succ_add];exact zDK M a b (fI M i)
def logs:Nat->List Nat
 | 7=>[0,1,6,7,4,5,2,3]
 | 15=>[0,1,6,15,12,13,2,11,8,9,14,7,4,5,10,3]
 | 31=>[0,1,6,15,28,13,2,27,24,25,30,7,20,5,26,19,16,17,22,31,12,29,18,11,8,9,14,23,4,21,10,3]
 | 63=>[0,1,6,47,28,45,2,59,56,25,62,7,20,5,58,19,48,49,54,31,12,29,50,43,40,9,46,55,4,53,42,3,32,33,38,15,60,13,34,27,24,57,30,39,52,37,26,51,16,17,22,63,44,61,18,11,8,41,14,23,36,21,10,35]
 | 255=>[0,1,70,239,156,109,2,123,120,25,254,71,148,5,58,83,240,49,182,159,140,157,114,43,104,73,110,247,132,53,170,3,224,97,38,79,124,205,226,219,88,121,222,167,116,101,26,179,208,145,150,255,108,253,82,139,72,169,78,87,100,149,138,99,192,193,6,175,92,45,194,59,56,217,190,7,84,197,250,19,176,241,118,95,76,93,50,235,40,9,46,183,68,245,106,195,160,33,230,15,60,141,162,155,24,57,158,103,52,37,218,115,144,81,86,191,44,189,18,75,8,105,14,23,36,85,74,35,128,129,198,111,28,237,130,251,248,153,126,199,20,133,186,211,112,177,54,31,12,29,242,171,232,201,238,119,4,181,42,131,96,225,166,207,252,77,98,91,216,249,94,39,244,229,154,51,80,17,22,127,236,125,210,11,200,41,206,215,228,21,10,227,64,65,134,47,220,173,66,187,184,89,62,135,212,69,122,147,48,113,246,223,204,221,178,107,168,137,174,55,196,117,234,67,32,161,102,143,188,13,34,27,152,185,30,231,180,165,90,243,16,209,214,63,172,61,146,203,136,233,142,151,164,213,202,163]
 | _=>[0,1,70,111,28,109,2,123,120,25,126,71,20,5,58,83,112,49,54,31,12,29,114,43,104,73,110,119,4,53,42,3,96,97,38,79,124,77,98,91,88,121,94,39,116,101,26,51,80,17,22,127,108,125,82,11,72,41,78,87,100,21,10,99,64,65,6,47,92,45,66,59,56,89,62,7,84,69,122,19,48,113,118,95,76,93,50,107,40,9,46,55,68,117,106,67,32,33,102,15,60,13,34,27,24,57,30,103,52,37,90,115,16,81,86,63,44,61,18,75,8,105,14,23,36,85,74,35]
def zB5(M:Nat):Bool:=(itN M (M+1) 0 == 0) && (List.range (M+1)).all fun j=>decide ((logs M).getD j 0<=M) && itN M ((logs M).getD j 0) 0 == j
theorem cyc7:zB5 7=true:=by decide +kernel
theorem cyc31:zB5 31=true:=by decide +kernel
theorem zLW:zB5 127=true:=by decide +kernel
theorem cyc15:zB5 15=true:=by decide +kernel
theorem cyc63:zB5 63=true:=by decide +kernel
theorem zLX:zB5 255=true:=by decide +kernel
def Good(M:Nat):Prop:=M=7 ∨ M=31 ∨ M=127 ∨ M=15 ∨ M=63 ∨ M=255
theorem Good.cyc{M:Nat}(g:Good M):zB5 M=true:=by
 rcases g with rfl | rfl | rfl | rfl | rfl | rfl
 ·exact cyc7
 ·exact cyc31
 ·exact zLW
 ·exact cyc15
 ·exact cyc63
 ·exact zLX
theorem cyc0{M:Nat}(g:Good M):itN M (M+1) 0=0/\∀ j,j<=M->∃ k,k<=M/\itN M k 0=j:=by
 have h:=g.cyc
 unfold zB5 at h
 rw [QH,beq_iff_eq,QG]at h
 refine⟨h.1,fun j hj=>?_⟩
 have:=h.2 j (QE.mpr (by lia))
 rw [QH,beq_iff_eq,decide_eq_true_eq]at this
 exact⟨_,this.1,this.2⟩
theorem cyc{M i j:Nat}(g:Good M)(hi:i<=M)(hj:j<=M):∃ k,k<=M/\itN M k i=j:=by
 obtain⟨z,c⟩:=cyc0 g
 obtain⟨m,hm,rfl⟩:=c i hi
 obtain⟨n,hn,rfl⟩:=c j hj
 by_cases q:m<=n
 ·refine⟨n-m,by lia,?_⟩
  rw [<- zDK]
  congr 1
  lia
 ·refine⟨n+(M+1)-m,by lia,?_⟩
  rw [<- zDK,show m+(n+(M+1)-m)=(M+1)+n by lia,zDK,z]
def adv(M:Nat)(p:Probe):Probe:=
 if p.more > 0 then{ p with j:=p.j+1,more:=p.more-1 } else
 { p with j:=(leap M p.i p.perturb).1,more:=runEnd M (leap M p.i p.perturb).1-(leap M p.i p.perturb).1,i:=(leap M p.i p.perturb).1,perturb:=(leap M p.i p.perturb).2 }
def run(M:Nat)(l:Nat × Nat):Probe:={ j:=l.1,more:=runEnd M l.1-l.1,i:=l.1,perturb:=l.2,dummy:=none }
def L(M:Nat)(h:Int):Nat->Nat × Nat
 | 0=>(bits h % (M+1),bits h)
 | k+1=>leap M (L M h k).1 (L M h k).2
def P(M:Nat)(h:Int):Nat->Probe
 | 0=>run M (L M h 0)
 | n+1=>adv M (P M h n)
theorem L_le(M:Nat)(h:Int):∀ k,(L M h k).1<=M
 | 0=>YT (Nat.mod_lt _ (Nat.succ_pos _))
 | k+1=>YT (Nat.mod_lt _ (Nat.succ_pos _))
theorem zEQ{M i:Nat}(h:i<=M):i<=runEnd M i/\runEnd M i<=M/\runEnd M i-i<=9:=by
 unfold runEnd
 split <;> lia
theorem P_ok(M:Nat)(h:Int):∀ n,(P M h n).j+(P M h n).more<=M/\(P M h n).dummy=none
 | 0=>by
  have:=zEQ (L_le M h 0)
  show(L M h 0).1+(runEnd M (L M h 0).1-(L M h 0).1)<=M/\none=none
  exact⟨by lia,rfl⟩
 | n+1=>by
  obtain⟨h1,h2⟩:=P_ok M h n
  show(adv M (P M h n)).j+(adv M (P M h n)).more<=M/\(adv M (P M h n)).dummy=none
  unfold adv
  split
  ·exact⟨by show(P M h n).j+1+((P M h n).more-1)<=M;lia,h2⟩
  ·refine⟨?_,h2⟩
   have:(leap M (P M h n).i (P M h n).perturb).1<=M:=YT (Nat.mod_lt _ (Nat.succ_pos _))
   have:=zEQ this
   show(leap M (P M h n).i (P M h n).perturb).1+(runEnd M (leap M (P M h n).i (P M h n).perturb).1-(leap M (P M h n).i (P M h n).perturb).1)<=M
   lia
theorem P_le(M:Nat)(h:Int)(n:Nat):(P M h n).j<=M:=by have:=(P_ok M h n).1;lia
theorem zFh{M:Nat}{h:Int}{n k:Nat}(e:P M h n=run M (L M h k)):∀ d,d<=runEnd M (L M h k).1-(L M h k).1->
  P M h (n+d)={ j:=(L M h k).1+d,more:=runEnd M (L M h k).1-(L M h k).1-d,i:=(L M h k).1,perturb:=(L M h k).2,dummy:=none }
 | 0,_=>e
 | d+1,hd=>by
  show adv M (P M h (n+d))=_
  rw [zFh e d (by lia)]
  unfold adv
  rw [if_pos (show runEnd M (L M h k).1-(L M h k).1-d > 0 by lia)]
  rfl
theorem zHm{M:Nat}{h:Int}{n k:Nat}(e:P M h n=run M (L M h k)):P M h (n+(runEnd M (L M h k).1-(L M h k).1)+1)=run M (L M h (k+1)):=by
 show adv M (P M h (n+(runEnd M (L M h k).1-(L M h k).1)))=_
 rw [zFh e _ (Qh _)]
 unfold adv
 rw [if_neg (show ¬ runEnd M (L M h k).1-(L M h k).1-(runEnd M (L M h k).1-(L M h k).1) > 0 by lia)]
 rfl
theorem P_at(M:Nat)(h:Int):∀ k,∃ n,n<=10 * k/\P M h n=run M (L M h k)
 | 0=>⟨0,Qh _,rfl⟩
 | k+1=>by
  obtain⟨n,hn,e⟩:=P_at M h k
  have:=zEQ (L_le M h k)
  exact⟨_,by lia,zHm e⟩
theorem zGY(M:Nat)(h:Int):∀ k,(L M h k).2=bits h / 32 ^ k
 | 0=>by show bits h=_;rw [Nat.pow_zero,Nat.div_one]
 | k+1=>by
  show(L M h k).2 / 32=_
  rw [zGY M h k,Nat.div_div_eq_div_mul,<- Nat.pow_succ]
theorem zLn(h:Int):bits h<36893488147419103232:=by
 unfold bits
 have:h % (2 ^ 64:Int)<2 ^ 64:=Jn _ (by decide)
 have h2:(2 ^ 64:Int)=18446744073709551616:=by decide
 rw [h2]at this ⊢
 lia
theorem L_13(M:Nat)(h:Int):∀ k,(L M h (13+k)).2=0/\(L M h (13+k)).1=itN M k (L M h 13).1
 | 0=>by
  refine⟨?_,rfl⟩
  rw [zGY]
  exact Nat.div_eq_of_lt (zLn h)
 | k+1=>by
  obtain⟨h1,h2⟩:=L_13 M h k
  show(L M h (13+k)).2 / 32=0/\((L M h (13+k)).1 * 5+1+(L M h (13+k)).2 / 32) % (M+1)=itN M (k+1) (L M h 13).1
  rw [h1,h2,zDK]
  exact⟨rfl,rfl⟩
theorem zHG{M:Nat}(g:Good M)(h:Int){j:Nat}(hj:j<=M):∃ k,k<turns M/\(L M h k).1=j:=by
 obtain⟨k,hk,e⟩:=cyc g (L_le M h 13) hj
 exact⟨13+k,by unfold turns;lia,by rw [(L_13 M h k).2,e]⟩
theorem cover{M:Nat}(g:Good M)(h:Int){j:Nat}(hj:j<=M):∃ n,n<10 * turns M/\(P M h n).j=j:=by
 obtain⟨k,hk,e⟩:=zHG g h hj
 obtain⟨n,hn,q⟩:=P_at M h k
 exact⟨n,by lia,by rw [q,<- e];rfl⟩
end ST
namespace ST
open PySem PySem.SetTable
abbrev Up(l:List Nat):Prop:=l.Pairwise (· < ·)
theorem Up.at{l:List Nat}(s:Up l){i k x y:Nat}(hx:l[i]?=some x)(hy:l[k]?=some y)(h:i<k):x<y:=by
 obtain⟨h1,rfl⟩:=Qf.mp hx
 obtain⟨h2,rfl⟩:=Qf.mp hy
 exact List.pairwise_iff_getElem.mp s i k h1 h2 h
theorem Up.le{l:List Nat}(s:Up l){i k x y:Nat}(hx:l[i]?=some x)(hy:l[k]?=some y)(h:i<=k):x<=y:=by
 by_cases e:i=k
 ·subst e;rw [hx]at hy;cases hy;exact Qh _
 ·exact YA (s.at hx hy (by lia))
theorem Up.nodup{l:List Nat}(s:Up l):l.Nodup:=s.imp fun h=>Qt h
theorem zF5(xs:Array Nat)(s:Up xs.toList)(j:Nat):∀ fuel lo hi,lo<=hi->hi<=xs.size->hi-lo<=fuel->
  (∀ i x,xs.toList[i]?=some x->i<lo->x<j)->(∀ i x,xs.toList[i]?=some x->hi<=i->j<=x)->
  below.go xs j fuel lo hi<=xs.size/\(∀ i x,xs.toList[i]?=some x->i<below.go xs j fuel lo hi->x<j)/\(∀ i x,xs.toList[i]?=some x->below.go xs j fuel lo hi<=i->j<=x)
 | 0,lo,hi,h1,h2,h3,a,b=>by
  have e:lo=hi:=by lia
  subst e
  exact⟨h2,a,b⟩
 | fuel+1,lo,hi,h1,h2,h3,a,b=>by
  unfold below.go
  by_cases c:lo<hi
  ·rw [if_pos c]
   dsimp only
   have hm:(lo+hi) / 2<xs.size:=by lia
   have hv:xs.toList[(lo+hi) / 2]?=some (xs.getD ((lo+hi) / 2) j):=by
    rw [QD,QA hm]
    simp [Array.getD,hm]
   by_cases d:xs.getD ((lo+hi) / 2) j<j
   ·rw [if_pos d]
    exact zF5 xs s j fuel _ _ (by lia) h2 (by lia) (fun i x hx hi'=>QX (s.le hx hv (by lia)) d) b
   ·rw [if_neg d]
    exact zF5 xs s j fuel _ _ (by lia) (by lia) (by lia) a (fun i x hx hi'=>Ql (by lia) (s.le hv hx hi'))
  ·rw [if_neg c]
   have e:lo=hi:=by lia
   subst e
   exact⟨h2,a,b⟩
theorem zCR(xs:Array Nat)(s:Up xs.toList)(j:Nat):below xs j<=xs.size/\(∀ i x,xs.toList[i]?=some x->i<below xs j->x<j)/\(∀ i x,xs.toList[i]?=some x->below xs j<=i->j<=x):=
 zF5 xs s j _ _ _ (QZ _) (Qh _) (by lia) (fun i x _ h=>absurd h (Yt _)) fun i x hx h=>by
  obtain⟨q,_⟩:=Qf.mp hx
  rw [Qo]at q
  lia
structure TOk(t:SetTable)(hs:List Int):Prop where
 good:Good t.mask
 dum:t.dummies=#[]
 len:t.place.toList.length=hs.length
 up:Up t.place.toList
 le:∀ x∈t.place.toList,x<=t.mask
 room:t.place.toList.length * 5<t.mask * 3
 reach:∀ q∈t.place.toList.zip hs,∃ n,(P t.mask q.2 n).j=q.1/\∀ m,m<n->(P t.mask q.2 m).j∈t.place.toList
theorem zEZ{t:SetTable}(hd:t.dummies=#[])(s:Up t.place.toList)(j:Nat):(∃ i,t.slot j=.live i/\t.place.toList[i]?=some j) ∨ (t.slot j=.empty/\j∉t.place.toList):=by
 obtain⟨h1,h2,h3⟩:=zCR t.place s j
 unfold slot
 dsimp only
 by_cases c:(t.place[below t.place j]? == some j)=true
 ·rw [if_pos c]
  exact .inl ⟨_,rfl,by rw [QD];exact QW c⟩
 ·rw [if_neg c,hd]
  refine .inr ⟨rfl,fun hj=>c ?_⟩
  obtain⟨i,hi⟩:=QQ hj
  have e:i=below t.place j:=by
   by_cases a:i<below t.place j
   ·have:=h2 i j hi a;lia
   ·by_cases b:i=below t.place j
    ·exact b
    ·have hb:below t.place j<t.place.toList.length:=by
      obtain⟨q,_⟩:=Qf.mp hi
      lia
     have hv:=Qg hb
     have:=s.at hv hi (by lia)
     have:=h3 _ _ hv (Qh _)
     lia
  rw [<- e,<- QD,hi]
  simp
theorem zKy{t:SetTable}(hd:t.dummies=#[])(s:Up t.place.toList){j i:Nat}(h:t.slot j=.live i):t.place.toList[i]?=some j:=by
 rcases zEZ hd s j with⟨i',h1,h2⟩ | ⟨h1,_⟩
 ·rw [h]at h1;cases h1;exact h2
 ·rw [h]at h1;cases h1
theorem zEw{p:Nat->Prop}[DecidablePred p]:∀ n,p n->∃ m,m<=n/\p m/\∀ k,k<m->¬ p k:=by
 intro n
 induction n using Nat.strongRecOn with
 | ind n ih=>
  intro h
  by_cases c:∃ k,k<n/\p k
  ·obtain⟨k,hk,pk⟩:=c
   obtain⟨m,h1,h2,h3⟩:=ih k hk pk
   exact⟨m,by lia,h2,h3⟩
  ·exact⟨n,Qh _,h,fun k hk pk=>c ⟨k,hk,pk⟩⟩
theorem spare{M:Nat}{l:List Nat}(h:l.length<=M):∃ j,j<=M/\j∉l:=by
 refine Yo fun c=>?_
 have:List.range (M+1) ⊆ l:=fun j hj=>Yo fun hn=>c ⟨j,by have:=QE.mp hj;lia,hn⟩
 have:=Yv List.nodup_range this
 rw [Ya]at this
 lia
theorem zIh{M:Nat}{l:List Nat}(g:Good M)(h:l.length<=M)(x:Int):∃ n,n<10 * turns M/\(P M x n).j∉l/\∀ m,m<n->(P M x m).j∈l:=by
 obtain⟨j,hj,hn⟩:=spare h
 obtain⟨n,h1,h2⟩:=cover g x hj
 obtain⟨m,q1,q2,q3⟩:=zEw (p:=fun n=>(P M x n).j∉l) n (by rw [h2];exact hn)
 exact⟨m,by lia,q2,fun k hk=>Yo (q3 k hk)⟩
section
variable {t:SetTable}{hs:List Int}{hashAt:Nat->Int}{h:Int}{n:Nat}
theorem zIE(T:TOk t hs)(h1:(P t.mask h n).j∉t.place.toList)(h2:∀ m,m<n->(P t.mask h m).j∈t.place.toList):∀ fuel c,c<=n->n-c<fuel->
  (probe.go t hashAt h fuel (P t.mask h c)=some (.empty (P t.mask h n).j none)/\∀ m,c<=m->m<n->∀ i,t.slot (P t.mask h m).j=.live i->hashAt i≠h)
  ∨ ∃ m i,c<=m/\m<n/\t.slot (P t.mask h m).j=.live i/\hashAt i=h/\(∀ m',c<=m'->m'<m->∀ i,t.slot (P t.mask h m').j=.live i->hashAt i≠h)/\probe.go t hashAt h fuel (P t.mask h c)=some (.candidate (P t.mask h m).j i (P t.mask h (m+1)))
 | 0,c,_,hf=>absurd hf (Yt _)
 | fuel+1,c,hc,hf=>by
  unfold probe.go
  by_cases e:c=n
  ·subst e
   rcases zEZ T.dum T.up (P t.mask h c).j with⟨i,q1,q2⟩ | ⟨q1,_⟩
   ·exact absurd (QP q2) h1
   ·rw [q1]
    refine .inl ⟨?_,fun m a b=>by lia⟩
    show some (Met.empty (P t.mask h c).j (P t.mask h c).dummy)=_
    rw [(P_ok t.mask h c).2]
  ·rcases zEZ T.dum T.up (P t.mask h c).j with⟨i,q1,q2⟩ | ⟨_,q2⟩
   ·rw [q1]
    dsimp only
    by_cases k:(hashAt i == h)=true
    ·rw [if_pos k]
     exact .inr ⟨c,i,Qh _,by lia,q1,QW k,fun m' a b=>by lia,rfl⟩
    ·rw [if_neg k]
     have hk:hashAt i≠h:=fun e=>k (by rw [e];simp)
     rcases zIE T h1 h2 fuel (c+1) (by lia) (by lia)with⟨a,b⟩ | ⟨m,i',a1,a2,a3,a4,a5,a6⟩
     ·refine .inl ⟨a,fun m hm1 hm2 i2 hi2=>?_⟩
      by_cases e2:m=c
      ·subst e2;rw [q1]at hi2;cases hi2;exact hk
      ·exact b m (by lia) hm2 i2 hi2
     ·refine .inr ⟨m,i',by lia,a2,a3,a4,fun m' hm1 hm2 i2 hi2=>?_,a6⟩
      by_cases e2:m'=c
      ·subst e2;rw [q1]at hi2;cases hi2;exact hk
      ·exact a5 m' (by lia) hm2 i2 hi2
   ·exact absurd (h2 c (by lia)) q2
theorem met(T:TOk t hs)(h1:(P t.mask h n).j∉t.place.toList){i j:Nat}(hj:t.place.toList[i]?=some j)(hh:hs[i]?=some h):∃ m,m<n/\(P t.mask h m).j=j:=by
 have hq:(j,h)∈t.place.toList.zip hs:=QP (i:=i) (by rw [Yx];exact⟨hj,hh⟩)
 obtain⟨m,e,a⟩:=T.reach _ hq
 refine⟨m,Yo fun c=>h1 ?_,e⟩
 by_cases d:n=m
 ·subst d;rw [e];exact QP hj
 ·exact a n (by lia)
end
theorem zBV{α:Type}(xs:Array α)(p:Nat)(x:α):(insertAt xs p x).toList=xs.toList.take p++x::xs.toList.drop p:=by
 rw [SetTable.toList_insertAt]
theorem zPj{t:SetTable}{hs:List Int}{h:Int}{n:Nat}(T:TOk t hs)(h1:(P t.mask h n).j∉t.place.toList)(h2:∀ m,m<n->(P t.mask h m).j∈t.place.toList)
  (hr:(t.place.toList.length+1) * 5<t.mask * 3) (pl:Bool):
  TOk { (t.put (P t.mask h n).j).1 with plain:=pl } (hs.take (t.put (P t.mask h n).j).2++h::hs.drop (t.put (P t.mask h n).j).2):=by
 obtain⟨b1,b2,b3⟩:=zCR t.place T.up (P t.mask h n).j
 have hmem:∀ x,x∈(insertAt t.place (below t.place (P t.mask h n).j) (P t.mask h n).j).toList ↔ x=(P t.mask h n).j ∨ x∈t.place.toList:=by
  intro x
  rw [zBV,QC,Qi]
  conv=>rhs;rw [<- Q3 (below t.place (P t.mask h n).j) t.place.toList,QC]
  constructor
  ·rintro(a | a | a)
   ·exact .inr (.inl a)
   ·exact .inl a
   ·exact .inr (.inr a)
  ·rintro(a | a | a)
   ·exact .inr (.inl a)
   ·exact .inl a
   ·exact .inr (.inr a)
 refine⟨T.good,?_,?_,?_,?_,?_,?_⟩
 ·show(if has t.dummies _=true then _ else t.dummies)=#[]
  rw [T.dum]
  rfl
 ·show(insertAt t.place (below t.place (P t.mask h n).j) (P t.mask h n).j).toList.length=(hs.take (below t.place (P t.mask h n).j)++h::hs.drop (below t.place (P t.mask h n).j)).length
  rw [zBV]
  simp only [Qp,QV,QL,Yp]
  rw [T.len]
 ·show Up (insertAt t.place (below t.place (P t.mask h n).j) (P t.mask h n).j).toList
  rw [zBV]
  unfold Up
  rw [Jc]
  have hlt:∀ x∈t.place.toList.take (below t.place (P t.mask h n).j),x<(P t.mask h n).j:=fun x hx=>by
   obtain⟨i,hi⟩:=QQ hx
   rw [List.getElem?_take]at hi
   split at hi
   ·rename_i q;exact b2 i x hi q
   ·cases hi
  have hgt:∀ x∈t.place.toList.drop (below t.place (P t.mask h n).j),(P t.mask h n).j<x:=fun x hx=>by
   obtain⟨i,hi⟩:=QQ hx
   rw [List.getElem?_drop]at hi
   have:=b3 _ x hi (by lia)
   have hne:x≠(P t.mask h n).j:=fun e=>h1 (e ▸ QP hi)
   lia
  refine⟨T.up.sublist (List.take_sublist _ _),Yc.mpr ⟨hgt,T.up.sublist (List.drop_sublist _ _)⟩,fun a ha b hb=>?_⟩
  rcases Qi.mp hb with rfl | hb
  ·exact hlt a ha
  ·exact YZ (hlt a ha) (hgt b hb)
 ·intro x hx
  rcases(hmem x).mp hx with rfl | hx
  ·exact P_le _ _ _
  ·exact T.le x hx
 ·show(insertAt t.place (below t.place (P t.mask h n).j) (P t.mask h n).j).toList.length * 5<t.mask * 3
  rw [zBV]
  simp only [Qp,QV,QL,Yp]
  lia
 ·intro q hq
  have hz:(insertAt t.place (below t.place (P t.mask h n).j) (P t.mask h n).j).toList.zip (hs.take (below t.place (P t.mask h n).j)++h::hs.drop (below t.place (P t.mask h n).j))=(t.place.toList.take (below t.place (P t.mask h n).j)).zip (hs.take (below t.place (P t.mask h n).j))++((P t.mask h n).j,h)::(t.place.toList.drop (below t.place (P t.mask h n).j)).zip (hs.drop (below t.place (P t.mask h n).j)):=by
   rw [zBV,List.zip_append (by rw [QV,QV,T.len]),List.zip_cons_cons]
  have hq':q=((P t.mask h n).j,h) ∨ q∈t.place.toList.zip hs:=by
   have hq2:q∈(insertAt t.place (below t.place (P t.mask h n).j) (P t.mask h n).j).toList.zip (hs.take (below t.place (P t.mask h n).j)++h::hs.drop (below t.place (P t.mask h n).j)):=hq
   rw [hz,QC,Qi]at hq2
   conv=>rhs;rw [<- Q3 (below t.place (P t.mask h n).j) t.place.toList,<- Q3 (below t.place (P t.mask h n).j) hs,List.zip_append (by rw [QV,QV,T.len]),QC]
   rcases hq2 with a | a | a
   ·exact .inr (.inl a)
   ·exact .inl a
   ·exact .inr (.inr a)
  rcases hq' with rfl | hq'
  ·exact⟨n,rfl,fun m hm=>(hmem _).mpr (.inr (h2 m hm))⟩
  ·obtain⟨m,e,a⟩:=T.reach q hq'
   exact⟨m,e,fun k hk=>(hmem _).mpr (.inr (a k hk))⟩
end ST
namespace ST
open PySem PySem.SetTable
structure Own(M:Nat)(hs:List Int)(ow:Array (Option Nat)):Prop where
 size:ow.size=M+1
 lt:∀ j i:Nat,ow[j]?=some (some i)->i<hs.length
 all:∀ i,i<hs.length->∃ j:Nat,ow[j]?=some (some i)
 inj:∀ j j' i:Nat,ow[j]?=some (some i)->ow[j']?=some (some i)->j=j'
 reach:∀(j i:Nat) (h:Int),ow[j]?=some (some i)->hs[i]?=some h->∃ n,(P M h n).j=j/\∀ m,m<n->∃ i',ow[(P M h m).j]?=some (some i')
theorem Own.free{M:Nat}{hs:List Int}{ow:Array (Option Nat)}(W:Own M hs ow)(h:hs.length<=M):∃ j:Nat,j<=M/\ow[j]?=some none:=by
 refine Yo fun c=>?_
 have hv:∀ j,j<=M->∃ i,ow[j]?=some (some i):=fun j hj=>by
  have hl:j<ow.size:=by rw [W.size];lia
  cases e:ow[j]with
  | none=>exact absurd ⟨j,hj,by rw [QA hl,e]⟩ c
  | some i=>exact⟨i,by rw [QA hl,e]⟩
 have e:∀ j,j<=M->ow[j]?=some (some ((ow.getD j none).getD 0)):=fun j hj=>by
  obtain⟨i,hi⟩:=hv j hj
  have hl:j<ow.size:=by rw [W.size];lia
  rw [hi]
  rw [QA hl]at hi
  have:ow.getD j none=some i:=by simp [Array.getD,hl];exact QF hi
  rw [this]
  rfl
 have hs1:(List.range (M+1)).map (fun j=>(ow.getD j none).getD 0) ⊆ List.range hs.length:=fun i hi=>by
  obtain⟨j,hj,rfl⟩:=QJ.mp hi
  exact QE.mpr (W.lt j _ (e j (by have:=QE.mp hj;lia)))
 have hn:((List.range (M+1)).map (fun j=>(ow.getD j none).getD 0)).Nodup:=by
  unfold List.Nodup
  rw [Q1]
  refine List.Pairwise.imp_of_mem ?_ List.nodup_range
  intro a b ha hb hne he
  refine hne (W.inj a b _ (e a (by have:=QE.mp ha;lia)) ?_)
  rw [he]
  exact e b (by have:=QE.mp hb;lia)
 have:=Yv hn hs1
 rw [Qj,Ya,Ya]at this
 lia
theorem zIi{M:Nat}{ow:Array (Option Nat)}{h:Int}(hsz:ow.size=M+1):∀ fuel k n,P M h n=run M (L M h k)->(∀ m,m<n->∃ i,ow[(P M h m).j]?=some (some i))->
  (∃ kk,k<=kk/\kk<k+fuel/\ow[(L M h kk).1]?=some none)->
  ∃ n',layClean.free M ow fuel (L M h k).1 (L M h k).2=some (P M h n').j/\ow[(P M h n').j]?=some none/\∀ m,m<n'->∃ i,ow[(P M h m).j]?=some (some i)
 | 0,k,n,e,a,⟨kk,h1,h2,_⟩=>by lia
 | fuel+1,k,n,e,a,⟨kk,h1,h2,h3⟩=>by
  have hr:=zEQ (L_le M h k)
  have hget:∀ d,d<=runEnd M (L M h k).1-(L M h k).1->ow[(L M h k).1+d]?=some (ow.getD ((L M h k).1+d) (some 0)):=fun d hd=>by
   have hl:(L M h k).1+d<ow.size:=by lia
   rw [QA hl]
   simp [Array.getD,hl]
  have hP:∀ d,d<=runEnd M (L M h k).1-(L M h k).1->(P M h (n+d)).j=(L M h k).1+d:=fun d hd=>by rw [zFh e d hd]
  unfold layClean.free
  cases q:(List.range (runEnd M (L M h k).1+1-(L M h k).1)).find? fun d=>(ow.getD ((L M h k).1+d) (some 0)).isNone with
  | some d=>
   rw [List.find?_range_eq_some]at q
   obtain⟨q1,q2,q3⟩:=q
   have hd:d<=runEnd M (L M h k).1-(L M h k).1:=by have:=QE.mp q2;lia
   refine⟨n+d,?_,?_,fun m hm=>?_⟩
   ·rw [hP d hd]
   ·rw [hP d hd,hget d hd,Option.isNone_iff_eq_none.mp q1]
   ·by_cases c:m<n
    ·exact a m c
    ·have:=q3 (m-n) (by lia)
     have hd':m-n<=runEnd M (L M h k).1-(L M h k).1:=by lia
     have h5:=hP (m-n) hd'
     rw [show n+(m-n)=m by lia]at h5
     rw [h5,hget (m-n) hd']
     cases hv:ow.getD ((L M h k).1+(m-n)) (some 0)with
     | none=>rw [hv]at this;simp at this
     | some i=>exact⟨i,rfl⟩
  | none=>
   rw [List.find?_eq_none]at q
   have hocc:∀ d,d<=runEnd M (L M h k).1-(L M h k).1->∃ i,ow[(L M h k).1+d]?=some (some i):=fun d hd=>by
    have:=q d (QE.mpr (by lia))
    rw [hget d hd]
    cases hv:ow.getD ((L M h k).1+d) (some 0)with
    | none=>rw [hv]at this;simp at this
    | some i=>exact⟨i,rfl⟩
   have hk:kk≠k:=fun e2=>by
    subst e2
    obtain⟨i,hi⟩:=hocc 0 (QZ _)
    rw [Nat.add_zero,h3]at hi
    cases hi
   refine zIi hsz fuel (k+1) _ (zHm e) (fun m hm=>?_) ⟨kk,by lia,by lia,h3⟩
   by_cases c:m<n
   ·exact a m c
   ·have hd':m-n<=runEnd M (L M h k).1-(L M h k).1:=by lia
    have h5:=hP (m-n) hd'
    rw [show n+(m-n)=m by lia]at h5
    rw [h5]
    exact hocc (m-n) hd'
theorem Own.put{M:Nat}{hs:List Int}{ow:Array (Option Nat)}{h:Int}{n:Nat}(W:Own M hs ow)(h1:ow[(P M h n).j]?=some none)(h2:∀ m,m<n->∃ i,ow[(P M h m).j]?=some (some i)):
  Own M (hs++[h]) (ow.setIfInBounds (P M h n).j (some hs.length)):=by
 have hl:(P M h n).j<ow.size:=by rw [W.size];have:=P_le M h n;lia
 have hg:∀ j,(ow.setIfInBounds (P M h n).j (some hs.length))[j]?=if(P M h n).j=j then some (some hs.length)else ow[j]?:=fun j=>by
  rw [Array.getElem?_setIfInBounds]
  split
  ·first | rfl | rw [if_pos hl]
  ·rfl
 have hup:∀ j:Nat,(∃ i,ow[j]?=some (some i))->∃ i,(ow.setIfInBounds (P M h n).j (some hs.length))[j]?=some (some i):=fun j zz=>by
  obtain⟨i,hi⟩:=zz
  rw [hg]
  split
  ·exact⟨_,rfl⟩
  ·exact⟨i,hi⟩
 refine⟨by simpa using W.size,fun j i hj=>?_,fun i hi=>?_,fun j j' i hj hj'=>?_,fun j i x hj hx=>?_⟩
 ·rw [Qp,Yd]
  rw [hg]at hj
  split at hj
  ·cases hj;lia
  ·have:=W.lt j i hj;lia
 ·rw [Qp,Yd]at hi
  by_cases c:i<hs.length
  ·obtain⟨j,hj⟩:=W.all i c
   refine⟨j,?_⟩
   rw [hg,if_neg (fun e=>by rw [e,hj]at h1;cases h1)]
   exact hj
  ·refine⟨(P M h n).j,?_⟩
   rw [hg,if_pos rfl,show i=hs.length by lia]
 ·rw [hg]at hj hj'
  split at hj
  ·rename_i e
   cases hj
   split at hj'
   ·rename_i e';rw [<- e,<- e']
   ·have:=W.lt j' _ hj';lia
  ·split at hj'
   ·cases hj'
    have:=W.lt j _ hj;lia
   ·exact W.inj j j' i hj hj'
 ·rw [hg]at hj
  split at hj
  ·rename_i e
   cases hj
   rw [YF (Qh _),Nat.sub_self]at hx
   cases hx
   exact⟨n,e,fun m hm=>hup _ (h2 m hm)⟩
  ·rw [YL (W.lt j i hj)]at hx
   obtain⟨m,e,a⟩:=W.reach j i x hj hx
   exact⟨m,e,fun k hk=>hup _ (a k hk)⟩
def lay(M:Nat)(acc:Option (Array (Option Nat) × Nat))(h:Int):Option (Array (Option Nat) × Nat):=do
 let(owner,k) <- acc
 let j <- layClean.free M owner (turns M) (bits h % (M+1)) (bits h)
 pure (owner.setIfInBounds j (some k),k+1)
theorem zIe{M:Nat}(g:Good M):∀(rest done:List Int) (ow:Array (Option Nat)),Own M done ow->(done++rest).length<=M->∃ ow',rest.foldl (lay M) (some (ow,done.length))=some (ow',(done++rest).length)/\Own M (done++rest) ow'
 | [],done,ow,W,_=>⟨ow,by rw [Yk];rfl,by rw [Yk];exact W⟩
 | h::rest,done,ow,W,hl=>by
  rw [Qp,QL]at hl
  obtain⟨j,hj,hf⟩:=W.free (by lia)
  obtain⟨kk,hk,e⟩:=zHG g h hj
  obtain⟨n,q1,q2,q3⟩:=zIi (h:=h) W.size (turns M) 0 0 rfl (fun m hm=>absurd hm (Yt _)) ⟨kk,QZ _,by lia,by rw [e];exact hf⟩
  have W2:=W.put q2 q3
  obtain⟨ow',r1,r2⟩:=zIe g rest (done++[h]) _ W2 (by simp;lia)
  refine⟨ow',?_,by rw [<- List.append_cons]at r2;exact r2⟩
  rw [Q5]
  have:lay M (some (ow,done.length)) h=some (ow.setIfInBounds (P M h n).j (some done.length),(done++[h]).length):=by
   show(layClean.free M ow (turns M) (L M h 0).1 (L M h 0).2).bind _=_
   rw [q1,Qp]
   rfl
  rw [this,r1,<- List.append_cons]
theorem own0(M:Nat):Own M [] (Array.replicate (M+1) none):=by
 have:∀(j:Nat) (i:Nat),(Array.replicate (M+1) (none:Option Nat))[j]?=some (some i)->False:=fun j i h=>by
  rw [Array.getElem?_replicate]at h
  split at h <;> simp at h
 exact⟨by simp,fun j i h=>(this j i h).elim,fun i hi=>absurd hi (Yt _),fun j j' i h=>(this j i h).elim,fun j i _ h=>(this j i h).elim⟩
theorem zNs{M:Nat}(g:Good M)(hs:Array Int)(hl:hs.size<=M):∃ ow,layClean M hs=some ow/\Own M hs.toList ow:=by
 obtain⟨ow,h1,h2⟩:=zIe g hs.toList [] _ (own0 M) (by simpa using hl)
 refine⟨ow,?_,h2⟩
 unfold layClean
 rw [<- Array.foldl_toList]
 show(hs.toList.foldl (lay M) (some (Array.replicate (M+1) none,0))).map (·.1)=_
 rw [show(0:Nat)=([]:List Int).length from rfl,h1]
 rfl
def zA0(M:Nat)(ow:Array (Option Nat)):List (Nat × Nat):=(List.range (M+1)).filterMap fun j=>(ow.getD j none).map (j,·)
theorem zCx{M:Nat}{hs:List Int}{ow:Array (Option Nat)}(W:Own M hs ow)(q:Nat × Nat):q∈zA0 M ow ↔ q.1<=M/\ow[q.1]?=some (some q.2):=by
 unfold zA0
 rw [List.mem_filterMap]
 constructor
 ·rintro⟨j,hj,e⟩
  have hl:j<ow.size:=by rw [W.size];exact QE.mp hj
  cases hv:ow.getD j none with
  | none=>rw [hv]at e;cases e
  | some i=>
   rw [hv]at e
   cases e
   refine⟨by have:=QE.mp hj;show j<=M;lia,?_⟩
   show ow[j]?=some (some i)
   rw [QA hl]
   simp [Array.getD,hl]at hv
   rw [hv]
 ·rintro⟨h1,h2⟩
  have hl:q.1<ow.size:=by rw [W.size];lia
  refine⟨q.1,QE.mpr (by lia),?_⟩
  rw [QA hl]at h2
  have:ow.getD q.1 none=some q.2:=by simp [Array.getD,hl];exact QF h2
  rw [this]
  rfl
theorem zJi(M:Nat)(ow:Array (Option Nat)):(zA0 M ow).Pairwise fun p q=>p.1<q.1:=by
 unfold zA0
 rw [List.pairwise_filterMap]
 refine List.Pairwise.imp ?_ List.pairwise_lt_range
 intro a b hab x hx y hy
 cases ha:ow.getD a none with
 | none=>rw [ha]at hx;cases hx
 | some i=>
  cases hb:ow.getD b none with
  | none=>rw [hb]at hy;cases hy
  | some k=>
   rw [ha]at hx;rw [hb]at hy
   cases hx;cases hy
   exact hab
theorem zI1{hs:Array Int}{M:Nat}(fi mo:Nat)(le pl:Bool)(g:Good M)(hl:hs.size * 5<M * 3):
  ∃ t' order,laid M fi mo le pl hs=some (t',order)/\List.Perm order.toList (List.range hs.size)/\TOk t' (order.toList.map fun i=>hs.toList.getD i 0)/\t'.led=le/\t'.plain=pl:=by
 obtain⟨ow,h1,W⟩:=zNs g hs (by lia)
 have hperm:List.Perm ((zA0 M ow).map (·.2)) (List.range hs.size):=by
  rw [List.perm_ext_iff_of_nodup ?_ List.nodup_range]
  ·intro i
   rw [QJ,QE]
   constructor
   ·rintro⟨q,hq,rfl⟩
    have:=W.lt _ _ ((zCx W q).mp hq).2
    simpa using this
   ·intro hi
    obtain⟨j,hj⟩:=W.all i (by simpa using hi)
    have hjl:j<ow.size:=(Array.getElem?_eq_some_iff.mp hj).1
    exact⟨(j,i),(zCx W (j,i)).mpr ⟨by rw [W.size]at hjl;show j<=M;lia,hj⟩,rfl⟩
  ·unfold List.Nodup
   rw [Q1]
   refine List.Pairwise.imp_of_mem ?_ (zJi M ow)
   intro p q hp hq hlt he
   have a:=((zCx W p).mp hp).2
   have b:=((zCx W q).mp hq).2
   rw [he]at a
   have:=W.inj _ _ _ a b
   lia
 have hlen:(zA0 M ow).length=hs.size:=by
  have:=hperm.length_eq
  rwa [Qj,Ya]at this
 refine⟨{ mask:=M,place:=((zA0 M ow).map (·.1)).toArray,dummies:=#[],finger:=fi,led:=le,moves:=mo,plain:=pl },((zA0 M ow).map (·.2)).toArray,?_,hperm,?_,rfl,rfl⟩
 ·unfold laid
  rw [h1]
  rfl
 ·refine⟨g,rfl,?_,?_,?_,?_,?_⟩
  ·show((zA0 M ow).map (·.1)).length=(((zA0 M ow).map (·.2)).map fun i=>hs.toList.getD i 0).length
   simp
  ·show Up ((zA0 M ow).map (·.1))
   unfold Up
   rw [Q1]
   exact zJi M ow
  ·intro x hx
   have hx':x∈(zA0 M ow).map (·.1):=hx
   obtain⟨q,hq,rfl⟩:=QJ.mp hx'
   exact((zCx W q).mp hq).1
  ·show((zA0 M ow).map (·.1)).length * 5<M * 3
   rw [Qj,hlen]
   exact hl
  ·intro q hq
   have hq':q∈((zA0 M ow).map (·.1)).zip (((zA0 M ow).map (·.2)).map fun i=>hs.toList.getD i 0):=hq
   rw [Q7,List.zip_map']at hq'
   obtain⟨p,hp,rfl⟩:=QJ.mp hq'
   obtain⟨a,b⟩:=(zCx W p).mp hp
   have hlt:=W.lt _ _ b
   have hx:hs.toList[p.2]?=some (hs.toList.getD p.2 0):=by
    rw [Q0,Qg hlt]
    rfl
   obtain⟨n,e,c⟩:=W.reach _ _ _ b hx
   refine⟨n,e,fun m hm=>?_⟩
   obtain⟨i,hi⟩:=c m hm
   show(P M (hs.toList.getD p.2 0) m).j∈(zA0 M ow).map (·.1)
   exact QJ.mpr ⟨((P M (hs.toList.getD p.2 0) m).j,i),(zCx W _).mpr ⟨P_le _ _ _,hi⟩,rfl⟩
theorem zPx{t:SetTable}{hs:Array Int}{wanted M:Nat}(hM:sizeAbove wanted-1=M)(g:Good M)(hl:hs.size * 5<M * 3):
  ∃ t' order,t.relaid hs wanted=some (t',order)/\List.Perm order.toList (List.range hs.size)/\TOk t' (order.toList.map fun i=>hs.toList.getD i 0)/\t'.led=t.led/\t'.plain=t.plain:=by
 unfold relaid
 rw [hM]
 exact zI1 _ _ _ _ g hl
end ST
namespace ST
open PySem PySem.SetTable
section
variable {prog:Program}{w:World}{A:Around}{E:Value->Shared->Prop}{s:Shared}
abbrev TK(prog:Program)(w:World)(h:Heap)(k:List Int)(a:Addr):Prop:=IsTupleKey (intKind prog w) h k a
abbrev TH(prog:Program)(w:World)(k:List Int):Int:=tupleKeyHash (intKind prog w) k
theorem items_int{ks:List Int}{vs:List Value}(h:ItemsAre (intKind prog w) ks vs):∀ v∈vs,∃ i t,v=.int i t:=by
 induction h with
 | nil=>intro v hv;simp at hv
 | @cons k v' ks vs h1 _ ih=>
  intro v hv
  rcases Qi.mp hv with rfl | hv
  ·obtain⟨t,e⟩:=Value.isInt_shape h1
   exact⟨k,t,e⟩
  ·exact ih v hv
theorem zJB{k:List Int}{a:Addr}{Q:Bool->Shared->Prop}(hk:TK prog w s.heap k a)(h:Q false s):wpAny (model prog w) A (ofAClassStatement 8 (.ref a)) Q E s:=by
 have hT:=hk.typeIs
 obtain⟨o,items,n,ho,_,hd,hi⟩:=hk
 have hv:=items_int hi
 unfold ofAClassStatement
 refine Qa (Jb hT ?_)
 show wpAny _ _ (do let underTuple <- (if("tuple" == "tuple")=true then pure true else isSubtype (.type "tuple") (.type "tuple"));_) Q E s
 refine Qa ?_
 rw [if_pos (by decide)]
 refine Qb ?_
 simp only [YQ,Qq,if_false]
 refine Qa (wpAny_seqItems ho hd ?_)
 dsimp only
 refine Qa ?_
 rw [<- Array.forIn_toList]
 refine Jh _ (fun rest r s'=>r.1=none/\s'=s/\∀ v∈rest,∃ i t,v=Value.int i t) _ ?_ ?_ _ _ ⟨rfl,rfl,hv⟩
 ·rintro v rest r s' ⟨hr,rfl,hall⟩
  obtain⟨i,t,rfl⟩:=hall v Qe
  refine Qa ?_
  unfold ofAClassStatement
  refine Qb ?_
  simp only [Qq,if_false]
  exact Qb ⟨rfl,rfl,fun u hu'=>hall u (Qd _ hu')⟩
 ·rintro⟨r1,r2⟩ s' ⟨hr,rfl,_⟩
  simp only at hr
  subst hr
  exact Qb h
theorem zLp{k:List Int}{a:Addr}{Q:Bool->Shared->Prop}(hk:TK prog w s.heap k a)(h:Q true s):wpAny (model prog w) A (hashByValue 8 (.ref a)) Q E s:=by
 have hT:=hk.typeIs
 obtain⟨o,items,n,ho,_,hd,hi⟩:=hk
 have hv:=items_int hi
 unfold hashByValue
 refine Qa (wpAny_specialOf hT F.slot_tuple_hash.lookup ?_)
 dsimp only
 refine Qa (wpAny_seqItems ho hd ?_)
 refine Qa ?_
 show wpAny _ _ (forIn items _ _) _ _ s
 rw [<- Array.forIn_toList]
 refine Jh _ (fun rest r s'=>r.1=none/\s'=s/\∀ v∈rest,∃ i t,v=Value.int i t) _ ?_ ?_ _ _ ⟨rfl,rfl,hv⟩
 ·rintro v rest r s' ⟨hr,rfl,hall⟩
  obtain⟨i,t,rfl⟩:=hall v Qe
  refine Qa ?_
  unfold hashByValue
  refine Qb ?_
  simp only [YQ,Qq,if_false]
  exact Qb ⟨rfl,rfl,fun u hu'=>hall u (Qd _ hu')⟩
 ·rintro⟨r1,r2⟩ s' ⟨hr,rfl,_⟩
  simp only at hr
  subst hr
  exact Qb h
theorem zJD{k:List Int}{a:Addr}{stored:List Value}{Q:Bool->Shared->Prop}(hk:TK prog w s.heap k a)(hs:∀ y∈stored,∃ k' b,y=.ref b/\TK prog w s.heap k' b)(h:Q false s):
  wpAny (model prog w) A (searchCouldBeSeen (.ref a) stored) Q E s:=by
 unfold searchCouldBeSeen
 refine Qa ?_
 refine Jh _ (fun rest r s'=>r.1=none/\s'=s/\∀ y∈rest,∃ k' b,y=.ref b/\TK prog w s.heap k' b) _ ?_ ?_ _ _ ⟨rfl,rfl,hs⟩
 ·rintro v rest r s' ⟨hr,rfl,hall⟩
  have hrest:∀ y∈rest,∃ k' b,y=.ref b/\TK prog w s'.heap k' b:=fun u hu'=>hall u (Qd _ hu')
  obtain⟨k',b,rfl,hb⟩:=hall v Qe
  dsimp only
  by_cases c:(a == b)=true
  ·rw [c]
   simp only [Bool.true_or,if_true]
   exact Qb ⟨rfl,rfl,hrest⟩
  ·rw [if_neg (by simp [carriedByValue,c])]
   refine Qa (wpAny_eqIsQuiet_tuple hk ?_)
   simp only [YQ,Qq,if_false]
   refine Qa (wpAny_eqIsQuiet_tuple hb ?_)
   simp only [YQ,Qq,if_false]
   refine Qa (zJB hk ?_)
   simp only [Qq,if_false]
   refine Qa (zJB hb ?_)
   simp only [Qq,if_false]
   exact Qb ⟨rfl,rfl,hrest⟩
 ·rintro⟨r1,r2⟩ s' ⟨hr,rfl,_⟩
  simp only at hr
  subst hr
  exact Qb h
end
end ST
namespace ST
open PySem PySem.SetTable
section
variable {prog:Program}{w:World}{A:Around}{E:Value->Shared->Prop}{s:Shared}
inductive Ents(prog:Program)(w:World)(h:Heap):List (Int × Value)->List (List Int)->Prop
 | nil:Ents prog w h [] []
 | cons {k:List Int}{b:Addr}{es:List (Int × Value)}{ks:List (List Int)}:TK prog w h k b->Ents prog w h es ks->Ents prog w h ((TH prog w k,.ref b)::es) (k::ks)
theorem Ents.at{h:Heap}{es:List (Int × Value)}{ks:List (List Int)}(X:Ents prog w h es ks):∀{i:Nat}{e:Int × Value},es[i]?=some e->∃ k b,ks[i]?=some k/\e=(TH prog w k,.ref b)/\TK prog w h k b:=by
 induction X with
 | nil=>intro i e h;simp at h
 | @cons k b es ks h1 _ ih=>
  intro i e h
  cases i with
  | zero=>cases h;exact⟨k,b,rfl,rfl,h1⟩
  | succ i=>exact ih (i:=i) (by simpa using h)
theorem Ents.length{h:Heap}{es:List (Int × Value)}{ks:List (List Int)}(X:Ents prog w h es ks):es.length=ks.length:=by
 induction X with
 | nil=>rfl
 | cons _ _ ih=>simp [ih]
theorem Ents.append{h:Heap}{es es':List (Int × Value)}{ks ks':List (List Int)}(X:Ents prog w h es ks)(Y:Ents prog w h es' ks'):Ents prog w h (es++es') (ks++ks'):=by
 induction X with
 | nil=>exact Y
 | cons h1 _ ih=>exact .cons h1 ih
theorem Ents.take{h:Heap}{es:List (Int × Value)}{ks:List (List Int)}(X:Ents prog w h es ks):∀ n,Ents prog w h (es.take n) (ks.take n):=by
 induction X with
 | nil=>intro n;simpa using Ents.nil
 | cons h1 _ ih=>
  intro n
  cases n with
  | zero=>exact .nil
  | succ n=>exact .cons h1 (ih n)
theorem Ents.drop{h:Heap}{es:List (Int × Value)}{ks:List (List Int)}(X:Ents prog w h es ks):∀ n,Ents prog w h (es.drop n) (ks.drop n):=by
 induction X with
 | nil=>intro n;simpa using Ents.nil
 | @cons k b es ks h1 hr ih=>
  intro n
  cases n with
  | zero=>exact .cons h1 hr
  | succ n=>exact ih n
theorem Ents.mono{h h':Heap}{es:List (Int × Value)}{ks:List (List Int)}(X:Ents prog w h es ks)(m:∀ k b,TK prog w h k b->TK prog w h' k b):Ents prog w h' es ks:=by
 induction X with
 | nil=>exact .nil
 | cons h1 _ ih=>exact .cons (m _ _ h1) ih
theorem Ents.pick{h:Heap}{es:List (Int × Value)}{ks:List (List Int)}(X:Ents prog w h es ks):∀(l:List Nat),(∀ i∈l,i<es.length)->Ents prog w h (l.filterMap (es[·]?)) (l.filterMap (ks[·]?)):=by
 intro l
 induction l with
 | nil=>intro _;exact .nil
 | cons i l ih=>
  intro hl
  have hi:=hl i Qe
  obtain⟨k,b,h1,h2,h3⟩:=X.at (Qg hi)
  rw [List.filterMap_cons_some (b:=(TH prog w k,Value.ref b)) (by rw [Qg hi,h2]),List.filterMap_cons_some (b:=k) h1]
  exact .cons h3 (ih fun j hj=>hl j (Qd _ hj))
theorem TOk.fits{t:SetTable}{hs:List Int}(T:TOk t hs){n:Nat}(e:hs.length=n):t.fits n=true:=by
 have h1:=T.len
 have h2:=T.room
 rw [Qo]at h1 h2
 unfold SetTable.fits SetTable.fill
 rw [T.dum,h1,e]
 rw [h1]at h2
 simp only [QH,beq_iff_eq,decide_eq_true_eq]
 refine⟨?_,?_⟩
 ·trivial
 ·show n+0<=t.mask
  lia
theorem TOk.odd{t:SetTable}{hs:List Int}(T:TOk t hs):t.gaveWay=false:=by
 unfold SetTable.gaveWay
 rcases T.good with h | h | h | h | h | h <;> rw [h] <;> rfl
theorem zKo{a x:Addr}{o:Obj}{es:Array (Int × Value)}{ep:Nat}{t:SetTable}{ks:List (List Int)}{k:List Int}{n:Nat}{Q:SetFound->Shared->Prop}
  (hu:A.units<cLine) (ho:s.heap.get? a=some o) (hd:o.data=.set es ep t) (T:TOk t (es.toList.map (·.1))) (X:Ents prog w s.heap es.toList ks) (hk:TK prog w s.heap k x)
  (h1:(P t.mask (TH prog w k) n).j∉t.place.toList) (h2:∀ m,m<n->(P t.mask (TH prog w k) m).j∈t.place.toList)
  (q1:k∈ks->Q (.there none) s) (q2:k∉ks->Q (.free (P t.mask (TH prog w k) n).j false) s):
  ∀ fuel c,c<=n->n<10 * turns t.mask->n-c<fuel->(∀ m,m<c->∀ i,t.slot (P t.mask (TH prog w k) m).j=.live i->ks[i]?≠some k)->∀ stand:Option Probe,stand.getD (t.probeStart (TH prog w k))=P t.mask (TH prog w k) c->
  wpAny (model prog w) A (setSearchFrom a (.ref x) (TH prog w k) true fuel stand) Q E s
 | 0,c,_,_,hf,_,_,_=>absurd hf (Yt _)
 | fuel+1,c,hc,hN,hf,inv,stand,hst=>by
  have hfit:t.fits es.size=true:=T.fits (by simp)
  unfold setSearchFrom
  refine Qa (QK ho hd hfit ?_)
  dsimp only
  rw [hst,if_neg (by rw [T.odd];exact Qu)]
  refine Qa (Qb ?_)
  generalize hg:t.probe _ (TH prog w k) (P t.mask (TH prog w k) c)=met
  obtain⟨f,hfe,hg⟩:∃ f:Nat->Int,(∀ i,f i=(es[i]?.map (·.1)).getD 0)/\t.probe f (TH prog w k) (P t.mask (TH prog w k) c)=met:=⟨_,fun _=>rfl,hg⟩
  have key:∀ m i,t.slot (P t.mask (TH prog w k) m).j=.live i->f i≠TH prog w k->ks[i]?≠some k:=fun m i hi hne hki=>by
   have hp:=zKy T.dum T.up hi
   have hl:i<es.toList.length:=by
    have:=(Qf.mp hp).1
    rw [T.len]at this
    simpa using this
   obtain⟨k',b,e1,e2,e3⟩:=X.at (Qg hl)
   rw [hki]at e1
   cases e1
   apply hne
   rw [hfe,<- QD,Qg hl,e2]
   rfl
  have hgo:=zIE (hashAt:=f) T h1 h2 (10 * turns t.mask) c hc (by lia)
  rcases hgo with⟨g1,g2⟩ | ⟨m,i,g1,g2,g3,g4,g5,g6⟩
  ·have:met=some (.empty (P t.mask (TH prog w k) n).j none):=hg.symm.trans g1
   subst this
   dsimp only
   refine Qb (q2 fun hmem=>?_)
   obtain⟨i,hi⟩:=QQ hmem
   have hl:i<es.toList.length:=by rw [X.length];exact(Qf.mp hi).1
   obtain⟨k',b,e1,e2,e3⟩:=X.at (Qg hl)
   rw [hi]at e1
   cases e1
   have hpl:i<t.place.toList.length:=by rw [T.len];simpa using hl
   obtain⟨m,hm,hj⟩:=met T h1 (Qg hpl) (h:=TH prog w k) (by rw [QM,Qg hl,e2];rfl)
   obtain⟨i',hs1,hs2⟩ | ⟨_,hs2⟩:=zEZ T.dum T.up (P t.mask (TH prog w k) m).j
   ·have hii:i'=i:=by
     rw [hj]at hs2
     have a1:=Qg hpl
     by_cases l1:i'<i
     ·have:=T.up.at hs2 a1 l1;lia
     ·by_cases l2:i<i'
      ·have:=T.up.at a1 hs2 l2;lia
      ·lia
    subst hii
    by_cases cm:m<c
    ·exact inv m cm i' hs1 hi
    ·exact key m i' hs1 (g2 m (by lia) hm i' hs1) hi
   ·rw [hj]at hs2
    exact hs2 (YD _)
  ·have:met=some (.candidate (P t.mask (TH prog w k) m).j i (P t.mask (TH prog w k) (m+1))):=hg.symm.trans g6
   subst this
   have hp:=zKy T.dum T.up g3
   have hl:i<es.toList.length:=by
    have:=(Qf.mp hp).1
    rw [T.len]at this
    simpa using this
   obtain⟨k',b,e1,e2,e3⟩:=X.at (Qg hl)
   have hei:es[i]?=some (TH prog w k',.ref b):=by rw [<- QD,Qg hl,e2]
   dsimp only
   have hseen:∀ y∈(es.filter (fun x=>x.1 == TH prog w k)).toList.map (fun x=>x.2),∃ k' b,y=.ref b/\TK prog w s.heap k' b:=fun y hy=>by
    obtain⟨e,he,rfl⟩:=QJ.mp hy
    have he':e∈es.toList:=by
     rw [Array.toList_filter]at he
     exact(QB.mp he).1
    obtain⟨i2,hi2⟩:=QQ he'
    obtain⟨k2,b2,_,z2,z3⟩:=X.at hi2
    exact⟨k2,b2,by rw [z2],z3⟩
   split
   all_goals try (refine Qa (zJD hk hseen ?_);rw [if_neg Qu])
   all_goals
    rw [hei]
    dsimp only
    refine Qa (Yf (wpAny_eqBool_tuple hu e3 hk ?_))
    refine Qa (QK ho hd hfit ?_)
    dsimp only
    by_cases hkk:k'=k
    ·rw [if_pos (by simp [hkk])]
     exact Qb (q1 (hkk ▸ QP e1))
    ·rw [if_neg (by simp [hkk]),show t.sameMemory t.moves t.mask=some true by unfold sameMemory;simp]
     dsimp only
     rw [if_pos rfl,g3]
     dsimp only
     rw [hei]
     dsimp only
     refine Qa (wpAny_isSame_ref_self ?_)
     simp only [if_true]
     refine Qa (Qb ?_)
     dsimp only
     rw [if_neg (by simp [hkk])]
     refine zKo hu ho hd T X hk h1 h2 q1 q2 fuel (m+1) (by lia) hN (by lia) (fun m' hm' i' hi'=>?_) _ rfl
     by_cases l1:m'<c
     ·exact inv m' l1 i' hi'
     ·by_cases l2:m'=m
      ·subst l2
       rw [g3]at hi'
       cases hi'
       rw [e1]
       exact fun e=>hkk (QF e)
      ·exact key m' i' hi' (g5 m' (by lia) (by lia) i' hi')
end
end ST
namespace ST
open PySem PySem.SetTable
section
variable {prog:Program}{w:World}{A:Around}{E:Value->Shared->Prop}{s:Shared}
theorem TK.keep{h h':Heap}{a b:Addr}{o:Obj}{es:Array (Int × Value)}{ep:Nat}{t:SetTable}{k:List Int}(ho:h.get? a=some o)(hd:o.data=.set es ep t)(hs:Heap.SameBut a h h')(x:TK prog w h k b):TK prog w h' k b:=by
 obtain⟨o',items,n,ho',hc,hd',hi⟩:=x
 have hne:b≠a:=by
  rintro rfl
  obtain rfl:o'=o:=QF (ho'.symm.trans ho)
  rw [hd]at hd';exact nomatch hd'
 exact⟨o',items,n,(hs.2 b hne).trans ho',hc,hd',hi⟩
def ledW(w:World):Bool := !w.params.followText "set-order"
def SetT(prog:Program)(w:World)(V:Value->Prop)(h:Heap)(a:Addr)(ks:List (List Int)):Prop:=
 ∃ o es ep t,h.get? a=some o/\o.ExactSet/\o.data=.set es ep t/\TOk t (es.toList.map (·.1))/\(t.plain=true/\t.led=ledW w)/\Ents prog w h es.toList ks/\ks.Nodup/\∀ e∈es.toList,V e.2
theorem zGb(es:List (Int × Value)):∀ l:List Nat,(∀ i∈l,i<es.length)->(l.filterMap (es[·]?)).map (·.1)=l.map fun i=>(es.map (·.1)).getD i 0
 | [],_=>rfl
 | i::l,h=>by
  have hi:=h i Qe
  rw [List.filterMap_cons_some (b:=es[i]) (Qg hi),Qm,Qm,zGb es l fun j hj=>h j (Qd _ hj)]
  congr 1
  rw [Q0,QM,Qg hi]
  rfl
theorem zMN{t:SetTable}{hs:List Int}(T:TOk t hs)(hf:(t.place.toList.length+1) * 5 >= t.mask * 3)(h76:t.place.toList.length+1<=76):
  ∃ M,sizeAbove (grown (t.place.toList.length+1))-1=M/\Good M/\(t.place.toList.length+1) * 5<M * 3/\¬ sizeAbove (grown (t.place.toList.length+1)) > sizeLine:=by
 have hr:=T.room
 rcases T.good with g | g | g | g | g | g
 ·rw [g]at hr hf
  have e:t.place.toList.length+1=5:=by lia
  rw [e]
  exact⟨31,by decide,.inr (.inl rfl),by decide,by rw [Yq];decide⟩
 ·rw [g]at hr hf
  have e:t.place.toList.length+1=19:=by lia
  rw [e]
  exact⟨127,by decide,.inr (.inr (.inl rfl)),by decide,by rw [Yq];decide⟩
 ·rw [g]at hr hf
  lia
 ·rw [g]at hr hf
  have e:t.place.toList.length+1=9:=by lia
  rw [e]
  exact⟨63,by decide,.inr (.inr (.inr (.inr (.inl rfl)))),by decide,by rw [Yq];decide⟩
 ·rw [g]at hr hf
  have e:t.place.toList.length+1=38:=by lia
  rw [e]
  exact⟨255,by decide,.inr (.inr (.inr (.inr (.inr rfl)))),by decide,by rw [Yq];decide⟩
 ·rw [g]at hr hf
  lia
theorem zJ8{V:Value->Prop}{a:Addr}{o:Obj}{es:Array (Int × Value)}{ep:Nat}{t:SetTable}{ks:List (List Int)}{wanted M:Nat}{Q:Unit->Shared->Prop}
  (ho:s.heap.get? a=some o) (hex:o.ExactSet) (hd:o.data=.set es ep t) (hfit:t.fits es.size=true) (hp:t.plain=true/\t.led=ledW w) (X:Ents prog w s.heap es.toList ks) (hnd:ks.Nodup) (hV:∀ e∈es.toList,V e.2)
  (hM:sizeAbove wanted-1=M) (g:Good M) (hl:es.size * 5<M * 3) (hz:¬ sizeAbove wanted > sizeLine) (hsz:es.size<=sizeLine)
  (h:∀ h' ks',Heap.SameBut a s.heap h'->SetT prog w V h' a ks'->List.Perm ks' ks->Q () { s with heap:=h' }):
  wpAny (model prog w) A (setRelay a wanted) Q E s:=by
 obtain⟨t',order,r1,r2,r3,r4,r5⟩:=zPx (t:=t) (hs:=es.map (·.1)) hM g (by simpa using hl)
 have hlt:∀ i∈order.toList,i<es.toList.length:=fun i hi=>by
  have:=QE.mp (r2.mem_iff.mp hi)
  simpa using this
 have hes:(order.filterMap (es[·]?)).toList=order.toList.filterMap (es.toList[·]?):=by
  rw [Jo]
  congr 1
  funext i
  rw [QD]
 have hperm:List.Perm (order.filterMap (es[·]?)).toList es.toList:=by
  rw [Jo]
  refine(r2.filterMap _).trans ?_
  rw [Y5,filterMap_getElem?_range]
 have hsize:(order.filterMap (es[·]?)).size=es.size:=by rw [<- Qo,hperm.length_eq,Qo]
 unfold setRelay
 refine Qa (QK ho hd hfit ?_)
 dsimp only
 rw [if_neg hz]
 rw [r1]
 refine Qa ?_
 show wpAny _ _ (if((order.filterMap (es[·]?)).size != es.size)=true then _ else pure (order.filterMap (es[·]?),t')) _ _ s
 rw [if_neg (by simp [hsize])]
 refine Qb ?_
 dsimp only
 refine Jd ho hd ?_ (by rw [hsize];exact hsz)
 have hg:(s.heap.update a (Obj.putSet (order.filterMap (es[·]?)) t')).get? a=some { o with data:=.set (order.filterMap (es[·]?)) (ep+1) t' }:=by
  have:=Ye (Obj.putSet (order.filterMap (es[·]?)) t') ho (by rw [Ji _ t' hd];rfl)
  rw [Ji _ t' hd]at this;exact this
 have hsb:=QY s.heap a (Obj.putSet (order.filterMap (es[·]?)) t')
 refine h _ (order.toList.filterMap (ks[·]?)) hsb ⟨_,_,_,t',hg,hex,rfl,?_,⟨by rw [r5];exact hp.1,by rw [r4];exact hp.2⟩,?_,?_,fun e he=>hV e (hperm.mem_iff.mp he)⟩ ?_
 ·rw [hes,zGb _ _ hlt]
  simpa using r3
 ·rw [hes]
  exact(X.pick _ hlt).mono fun k b=>TK.keep ho hd hsb
 ·have:List.Perm (order.toList.filterMap (ks[·]?)) ks:=by
   refine(r2.filterMap _).trans ?_
   rw [Y5,<- Qo,X.length,YX]
  exact this.nodup_iff.mpr hnd
 ·refine(r2.filterMap _).trans ?_
  rw [Y5,<- Qo,X.length,YX]
theorem zHp{V:Value->Prop}{a x:Addr}{ks:List (List Int)}{k:List Int}{Q:Bool->Shared->Prop}(hu:A.units<cLine)(S:SetT prog w V s.heap a ks)(hk:TK prog w s.heap k x)(hx:V (.ref x))(h76:ks.length+1<=76)
  (q1:k∈ks->Q false s) (q2:k∉ks->∀ h' ks',Heap.SameBut a s.heap h'->SetT prog w V h' a ks'->List.Perm ks' (k::ks)->Q true { s with heap:=h' }):
  wpAny (model prog w) A (setAddHashed a (.ref x) (TH prog w k)) Q E s:=by
 obtain⟨o,es,ep,t,ho,hex,hd,T,hp,X,hnd,hV⟩:=S
 have hfit:t.fits es.size=true:=T.fits (by simp)
 have hlen:t.place.toList.length=ks.length:=by rw [T.len,Qj,X.length]
 have hes:es.size=ks.length:=by rw [<- X.length,Qo]
 have hroom:=T.room
 obtain⟨n,n1,n2,n3⟩:=zIh (l:=t.place.toList) T.good (by lia) (TH prog w k)
 have hM:t.mask<=255:=by rcases T.good with g | g | g | g | g | g <;> lia
 unfold setAddHashed setAddHashedIn
 refine Yf (Qa (QK ho hd hfit ?_))
 dsimp only
 rw [if_neg (by simp [byScan,Value.scannable])]
 refine Qa ?_
 unfold setSearch
 refine zKo hu ho hd T X hk n2 n3 ?_ ?_ 100000 0 (QZ _) n1 (by unfold turns at n1;lia) (fun m hm=>absurd hm (Yt _)) none rfl
 ·intro hmem
  exact Qb (q1 hmem)
 ·intro hmem
  dsimp only
  refine Qa (QK ho hd hfit ?_)
  dsimp only
  rw [if_pos (show(t.put (P t.mask (TH prog w k) n).j).1.plain=true from hp.1)]
  refine Qa (zLp hk ?_)
  rw [if_pos rfl]
  have hesz:(insertAt es (t.put (P t.mask (TH prog w k) n).j).2 (TH prog w k,Value.ref x)).size=es.size+1:=by
   rw [<- Qo,(Y0 _ _ _).length_eq]
   simp
  refine Qa (Jd ho hd ?_ (by rw [hesz,Yq];lia))
  have hg:(s.heap.update a (Obj.putSet (insertAt es (t.put (P t.mask (TH prog w k) n).j).2 (TH prog w k,Value.ref x)) (t.put (P t.mask (TH prog w k) n).j).1)).get? a=some { o with data:=.set (insertAt es (t.put (P t.mask (TH prog w k) n).j).2 (TH prog w k,Value.ref x)) (ep+1) (t.put (P t.mask (TH prog w k) n).j).1 }:=by
   have:=Ye (Obj.putSet (insertAt es (t.put (P t.mask (TH prog w k) n).j).2 (TH prog w k,Value.ref x)) (t.put (P t.mask (TH prog w k) n).j).1) ho (by rw [Ji _ _ hd];rfl)
   rw [Ji _ _ hd]at this;exact this
  have hsb:=QY s.heap a (Obj.putSet (insertAt es (t.put (P t.mask (TH prog w k) n).j).2 (TH prog w k,Value.ref x)) (t.put (P t.mask (TH prog w k) n).j).1)
  have X2:Ents prog w (s.heap.update a (Obj.putSet (insertAt es (t.put (P t.mask (TH prog w k) n).j).2 (TH prog w k,Value.ref x)) (t.put (P t.mask (TH prog w k) n).j).1)) (insertAt es (t.put (P t.mask (TH prog w k) n).j).2 (TH prog w k,Value.ref x)).toList (ks.take (t.put (P t.mask (TH prog w k) n).j).2++k::ks.drop (t.put (P t.mask (TH prog w k) n).j).2):=by
   rw [zBV]
   exact((X.take _).append (.cons hk (X.drop _))).mono fun k b=>TK.keep ho hd hsb
  have hkp:List.Perm (ks.take (t.put (P t.mask (TH prog w k) n).j).2++k::ks.drop (t.put (P t.mask (TH prog w k) n).j).2) (k::ks):=by
   refine List.perm_middle.trans ?_
   rw [Q3]
  have hnd2:(ks.take (t.put (P t.mask (TH prog w k) n).j).2++k::ks.drop (t.put (P t.mask (TH prog w k) n).j).2).Nodup:=hkp.nodup_iff.mpr (Yl.mpr ⟨hmem,hnd⟩)
  have hV2:∀ e∈(insertAt es (t.put (P t.mask (TH prog w k) n).j).2 (TH prog w k,Value.ref x)).toList,V e.2:=fun e he=>by
   have:=(Y0 es (t.put (P t.mask (TH prog w k) n).j).2 (TH prog w k,Value.ref x)).mem_iff.mp he
   rw [Array.toList_push,QC,Qv]at this
   rcases this with h | rfl
   ·exact hV e h
   ·exact hx
  have hfill:(t.put (P t.mask (TH prog w k) n).j).1.fill=t.place.toList.length+1:=by
   show(insertAt t.place (below t.place (P t.mask (TH prog w k) n).j) (P t.mask (TH prog w k) n).j).size+(if has t.dummies _=true then _ else t.dummies).size=_
   rw [T.dum,<- Qo,(Y0 _ _ _).length_eq]
   simp [has]
  have hfit2:(t.put (P t.mask (TH prog w k) n).j).1.fits (insertAt es (t.put (P t.mask (TH prog w k) n).j).2 (TH prog w k,Value.ref x)).size=true:=by
   unfold SetTable.fits
   rw [hfill,hesz]
   have:(t.put (P t.mask (TH prog w k) n).j).1.place.size=es.size+1:=by
    show(insertAt t.place (below t.place (P t.mask (TH prog w k) n).j) (P t.mask (TH prog w k) n).j).size=_
    rw [<- Qo,(Y0 _ _ _).length_eq]
    simp
    rw [<- Qo,hlen,hes]
   rw [this]
   simp only [beq_self_eq_true,JI,decide_eq_true_eq]
   show t.place.toList.length+1<=t.mask
   lia
  by_cases hfull:(t.put (P t.mask (TH prog w k) n).j).1.tooFull=true
  ·rw [hfull]
   simp only [Bool.not_false,Bool.and_self,if_true]
   have hf5:(t.place.toList.length+1) * 5 >= t.mask * 3:=by
    unfold SetTable.tooFull at hfull
    rw [hfill]at hfull
    exact of_decide_eq_true hfull
   obtain⟨M,m1,m2,m3,m4⟩:=zMN T hf5 (by lia)
   refine Qa (zJ8 (V:=V) hg hex rfl hfit2 hp X2 hnd2 hV2 (M:=M) ?_ m2 ?_ ?_ ?_ ?_)
   ·rw [hes,<- hlen];exact m1
   ·rw [hesz,hes,<- hlen];exact m3
   ·rw [hes,<- hlen];exact m4
   ·rw [hesz,Yq];lia
   ·intro h' ks' hsb' S' pk
    exact Qb (q2 hmem h' ks' (hsb.trans hsb') S' (pk.trans hkp))
  ·rw [Bool.not_eq_true]at hfull
   rw [hfull]
   simp only [Bool.and_false,Qq,if_false]
   have hf5:(t.place.toList.length+1) * 5<t.mask * 3:=by
    unfold SetTable.tooFull at hfull
    rw [hfill]at hfull
    have:=of_decide_eq_false hfull
    have e:(t.put (P t.mask (TH prog w k) n).j).1.mask=t.mask:=rfl
    rw [e]at this
    lia
   have T2:=zPj T n2 n3 hf5 t.plain
   refine Qa (Qb (Qb (q2 hmem _ _ hsb ⟨_,_,_,_,hg,hex,rfl,?_,hp,X2,hnd2,hV2⟩ hkp)))
   rw [zBV,Yh,Qm,List.map_take,List.map_drop]
   exact T2
end
end ST
namespace ST
open PySem PySem.SetTable PyProof.Rows
section
variable {prog:Program}{w:World}{A:Around}{R:Result->Shared->Prop}{I:Addr}{fp wr:List Addr}{G:Array GenState->Array GenState->Prop}{n:Nat}{Pv:Nat->Value->Prop}{St:Nat->Shared->Prop}{V:Value->Prop}
theorem TK.at{h h':Heap}{k:List Int}{b:Addr}(x:TK prog w h k b)(e:∀ o,h.get? b=some o->h'.get? b=some o):TK prog w h' k b:=by
 obtain⟨o,items,n,ho,r⟩:=x
 exact⟨o,items,n,e o ho,r⟩
theorem SetT.moved{h h':Heap}{a:Addr}{ks:List (List Int)}(S:SetT prog w V h a ks)(e:∀ b o,h.get? b=some o->(b=a ∨ ∃ k,TK prog w h k b)->h'.get? b=some o):SetT prog w V h' a ks:=by
 obtain⟨o,es,ep,t,ho,hex,hd,T,hp,X,hnd,hV⟩:=S
 exact⟨o,es,ep,t,e a o ho (.inl rfl),hex,hd,T,hp,X.mono fun k b x=>x.at fun o' ho'=>e b o' ho' (.inr ⟨k,x⟩),hnd,hV⟩
def Keys(ks:List (List Int))(val:Nat->List Int)(i:Nat):Prop:=∀ k,k∈ks ↔ ∃ j,j<i/\val j=k
theorem zNk{ks:List (List Int)}{val:Nat->List Int}{i:Nat}(h:Keys ks val i)(hn:ks.Nodup):ks.length<=i:=by
 have:ks ⊆ (List.range i).map val:=fun k hk=>by
  obtain⟨j,hj,e⟩:=(h k).mp hk
  exact QJ.mpr ⟨j,QE.mpr hj,e⟩
 have:=Yv hn this
 simpa using this
theorem SetT.nodup{h:Heap}{a:Addr}{ks:List (List Int)}(S:SetT prog w V h a ks):ks.Nodup:=by
 obtain⟨o,es,ep,t,ho,hex,hd,T,hp,X,hnd,hV⟩:=S
 exact hnd
theorem zK1(W:WalksS prog w A.in1 I fp wr G n Pv St)(S:Addr)(hSf:S∉fp)(hu:A.in1.units<cLine)(val:Nat->List Int)(s0:Heap)
  (hold:∀ b o,s0.get? b=some o->b≠S/\b∉wr) (hval:∀ i v,i<n->Pv i v->V v/\∃ b,v=.ref b/\TK prog w s0 (val i) b) (hb:n<=75):
  ∀(k i:Nat) (s:Shared) (ks:List (List Int)),n-i=k->i<=n->St i s->(∀ b o,s0.get? b=some o->s.heap.get? b=some o)->
   SetT prog w (fun v=>V v/\∃ k b,v=.ref b/\TK prog w s0 k b) s.heap S ks->Keys ks val i->
   (∀ s' ks',Moved (S::wr) G s s'->(∀ b o,s0.get? b=some o->s'.heap.get? b=some o)->SetT prog w (fun v=>V v/\∃ k b,v=.ref b/\TK prog w s0 k b) s'.heap S ks'->Keys ks' val n->R (.ok (.ret .none)) s')->
   codeAny (model prog w) A (.builtin "set.update.loop" ⟨[.ref S,.ref I],[]⟩) R s:=by
 have hSw:S∉wr:=fun h=>hSf (W.sub _ h)
 have hsub:∀ b∈wr,b∈S::wr:=fun b hb=>Qd _ hb
 have hmv:∀(s s':Shared) ks,Moved wr G s s'->(∀ b o,s0.get? b=some o->s.heap.get? b=some o)->SetT prog w (fun v=>V v/\∃ k b,v=.ref b/\TK prog w s0 k b) s.heap S ks->SetT prog w (fun v=>V v/\∃ k b,v=.ref b/\TK prog w s0 k b) s'.heap S ks:=fun s s' ks hm h0 hS=>by
  obtain⟨o,es,ep,t,ho,hex,hd,T,hp,X,hnd,hV⟩:=hS
  refine⟨o,es,ep,t,hm.heap S _ hSw ho,hex,hd,T,hp,?_,hnd,hV⟩
  clear hd hex ho T hp
  have:∀ e∈es.toList,∃ k b,e.2=.ref b/\TK prog w s0 k b:=fun e he=>(hV e he).2
  revert this
  clear hV hnd
  generalize es.toList=l at X
  intro this
  induction X with
  | nil=>exact .nil
  | @cons k b es ks h1 hr ih=>
   refine .cons ?_ (ih fun e he=>this e (Qd _ he))
   obtain⟨k',b',e1,e2⟩:=this _ Qe
   have e1':b=b':=by injection e1
   subst e1'
   obtain⟨o',items,n',ho',r⟩:=e2
   refine h1.at fun o2 ho2=>?_
   have:=h0 b o' ho'
   rw [ho2]at this
   cases this
   exact hm.heap b _ (hold b _ ho').2 (h0 b _ ho')
 intro k
 induction k with
 | zero=>
  intro i s ks hk hi hst h0 hS hK hR
  have hin:i=n:=by lia
  subst hin
  refine Y9 F.entry_set_update_loop ?_
  rw [Je Jj _]
  show wpAny _ A.in1 (pyNext (.ref I) >>= _) _ _ s
  refine Qa (W.done s _ _ hst fun s' hm=>?_)
  show wpAny _ A.in1 (ret Value.none) _ _ s'
  exact Qb (hR s' ks (hm.mono hsub) (fun b o e=>hm.heap b o (hold b o e).2 (h0 b o e)) (hmv s s' ks hm h0 hS) hK)
 | succ k ih=>
  intro i s ks hk hi hst h0 hS hK hR
  have hlt:i<n:=by lia
  refine Y9 F.entry_set_update_loop ?_
  rw [Je Jj _]
  show wpAny _ A.in1 (pyNext (.ref I) >>= _) _ _ s
  refine Qa (W.item i s _ _ hlt hst fun v s' hP hst' hm=>?_)
  obtain⟨hVv,b,rfl,hb0⟩:=hval i v hlt hP
  have h0':∀ b o,s0.get? b=some o->s'.heap.get? b=some o:=fun b o e=>hm.heap b o (hold b o e).2 (h0 b o e)
  have hb1:TK prog w s'.heap (val i) b:=hb0.at fun o e=>h0' b o e
  have hS':=hmv s s' ks hm h0 hS
  show wpAny _ A.in1 (holding [Value.ref b] (setAdd S (.ref b)) >>= _) _ _ s'
  refine Qa (Yf ?_)
  unfold setAdd
  refine Yf ?_
  refine Qa (wpAny_pyHash_tuple hu hb1 ?_)
  have hlen:=zNk hK hS.nodup
  have hmoved:∀(h':Heap) (tk:Nat),s'.toks<=tk->Heap.SameBut S s'.heap h'->Moved (S::wr) G s { s' with heap:=h',toks:=tk }:=fun h' tk htk hsb=>
   (hm.mono hsub).then_heap htk fun b o hb e=>by rw [hsb.2 b (fun h:b=S=>hb (by rw [h];exact Qe))];exact e
  refine zHp (V:=fun v=>V v/\∃ k b,v=.ref b/\TK prog w s0 k b) (s:={ s' with toks:=s'.toks+((val i).length+1) }) hu hS' hb1 ⟨hVv,val i,b,rfl,hb0⟩ (by lia) ?_ ?_
  ·intro hmem
   refine Qb ⟨plainId_quiet Jj _,ih (i+1) _ ks (by lia) hlt (W.frame _ s' s'.heap _ hst' (Yn _ _) fun b hb o e=>e) h0' hS' ?_ fun s'' ks'' hm'' h0'' hS'' hK''=>?_⟩
   ·intro k'
    rw [hK k']
    constructor
    ·rintro⟨j,hj,e⟩;exact⟨j,by lia,e⟩
    ·rintro⟨j,hj,e⟩
     by_cases c:j=i
     ·subst c;subst e;exact(hK _).mp hmem
     ·exact⟨j,by lia,e⟩
   ·exact hR s'' ks'' (Moved.trans W.gtrans (hmoved s'.heap _ (Yn _ _) (Heap.SameBut.refl S _)) hm'') h0'' hS'' hK''
  ·intro hmem h' ks' hsb hS2 hp
   have h02:∀ b o,s0.get? b=some o->h'.get? b=some o:=fun b o e=>by
    rw [hsb.2 b (hold b o e).1];exact h0' b o e
   refine Qb ⟨plainId_quiet Jj _,ih (i+1) _ ks' (by lia) hlt (W.frame _ s' _ _ hst' (Yn _ _) fun b hb o e=>?_) h02 hS2 ?_ fun s'' ks'' hm'' h0'' hS'' hK''=>?_⟩
   ·rw [hsb.2 b (fun h:b=S=>hSf (by rw [<- h];exact hb))];exact e
   ·intro k'
    rw [hp.mem_iff,Qi,hK k']
    constructor
    ·rintro(rfl | ⟨j,hj,e⟩)
     ·exact⟨i,by lia,rfl⟩
     ·exact⟨j,by lia,e⟩
    ·rintro⟨j,hj,e⟩
     by_cases c:j=i
     ·subst c;exact .inl e.symm
     ·exact .inr ⟨j,by lia,e⟩
   ·exact hR s'' ks'' (Moved.trans W.gtrans (hmoved h' _ (Yn _ _) hsb) hm'') h0'' hS'' hK''
end
section
variable {prog:Program}{w:World}{A:Around}{E:Value->Shared->Prop}{s:Shared}
theorem zJx(a:Value){Q₁:Value->Shared->Prop}
  (h:Q₁ (.ref s.heap.objs.size) { s with heap:=s.heap.push { cls:=.type "set",dict:=none,data:=.set #[] 0 (.fresh 0 0 (ledW w)) } }):
  codeAny (model prog w) A (.call (.builtin "set.__new__") ⟨[.type "set",a],[]⟩) (wants Q₁ E) s:=by
 refine codeAny_of_tree ?_
 show wpAny _ A.in1 (checkBuiltinCall "set.__new__" ⟨[.type "set",a],[]⟩ >>= fun _=>again (.builtin "set.__new__" ⟨[.type "set",a],[]⟩)) _ _ s
 refine Qa (wpAny_of_eq (F.newCall_set_1 a) (Qb ⟨plainId_quiet F.plain_set_new _,Y9 F.entry_set_new ?_⟩))
 rw [Je F.plain_set_new _]
 unfold Builtin.«set.__new__» Builtin.Frozenset.newClass
 have hsub:=sub_set_self
 obtain⟨hp,g,d,tk,os⟩:=s
 dsimp only
 wp_walk
 refine wpAny_askSetting (Qb ?_)
 dsimp only
 simp only [newObj]
 refine Qa (wpAny_alloc (Qb ?_))
 exact Qb h
theorem zP7:isSubtype (.type "tuple") (.type "set")=pure false:=by rw [isSubtype_type];kernel_rfl
theorem zP6:isSubtype (.type "tuple") (.type "frozenset")=pure false:=by rw [isSubtype_type];kernel_rfl
end
section
variable {prog:Program}{w:World}{A:Around}{E:Value->Shared->Prop}{s:Shared}{V:Value->Prop}
theorem zLz{l:Addr}{items:Array Value}{kl:List (List Int)}{Q:Value->Shared->Prop}
  (hh:A.handled=none) (hu:A.units+8<cLine) (hl:s.heap.IsList l items) (hi:∀ i v,items[i]?=some v->V v/\∃ b,v=.ref b/\TK prog w s.heap (kl.getD i []) b) (hb:items.size<=75)
  (h:∀(h':Heap) (tk:Nat) ks,SetT prog w V h' s.heap.objs.size ks->Keys ks (fun i=>kl.getD i []) items.size->
   (∀ b o,s.heap.get? b=some o->h'.get? b=some o)->Q (.ref s.heap.objs.size) { s with heap:=h',toks:=tk }):
  wpAny (model prog w) A (call (.type "set") [.ref l]) Q E s:=by
 obtain⟨c,tl,hmro⟩:=F.called_set.mro
 have hmade:=F.called_set.made
 have hsub:=F.called_set.sub
 refine wpAny_call (codeAny_of_tree ?_)
 show wpAny _ _ (callAny (.type "set") _) _ _ _
 refine Qb ⟨Code.quiet_builtin _ (by decide +kernel),Y9 F.entry_type_call ?_⟩
 rw [Around.under_plain (weight_type_call_type "set" [.ref l] []) rfl]
 have h1:=F.called_set.notType
 have h2:=F.called_set.canCreate
 have hct:=F.typeCall_set_1 (.ref l)
 repeat (any_goals (first | assumption | wp_step))
 refine Jy (zJx (.ref l) (E:=E) (Q₁:=fun obj s₁=>obj=.ref s.heap.objs.size/\s₁={ s with heap:=s.heap.push { cls:=.type "set",dict:=none,data:=.set #[] 0 (.fresh 0 0 (ledW w)) } }) ⟨rfl,rfl⟩) fun r s₁ hr=>?_
 cases r with
 | error e=>exact hr
 | ok fl=>
  cases fl with
  | ret obj=>
   obtain⟨rfl,rfl⟩:=hr
   have hS:(s.heap.push { cls:=.type "set",dict:=none,data:=.set #[] 0 (.fresh 0 0 (ledW w)) }).get? s.heap.objs.size=some { cls:=.type "set",dict:=none,data:=.set #[] 0 (.fresh 0 0 (ledW w)) }:=Qs _ rfl
   have hT:Shared.TypeIs { s with heap:=s.heap.push { cls:=.type "set",dict:=none,data:=.set #[] 0 (.fresh 0 0 (ledW w)) } } (.ref s.heap.objs.size) "set":=⟨_,hS,rfl⟩
   have hli:=F.called_set.init.lookup
   have hbi:=F.called_set.init.bind (.ref s.heap.objs.size)
   repeat (any_goals (first | assumption | wp_step))
   refine Jy (codeAny_call_builtin (R:=wants (fun r s₂=>r=.none/\∃ h' tk ks,s₂={ s with heap:=h',toks:=tk } /\
     SetT prog w V h' s.heap.objs.size ks/\Keys ks (fun i=>kl.getD i []) items.size /\
     (∀ b o,s.heap.get? b=some o->h'.get? b=some o)) E) F.called_set.init.plain F.entry_set_init (check_set_init_1 hT ?_)) fun r₂ s₂ hr₂=>?_
   ·obtain⟨ol,hol,hcl,nl,hdl⟩:=hl
    obtain⟨ocls,odict,odata,oslots⟩:=ol
    simp only at hcl hdl
    subst hcl;subst hdl
    have hol':(s.heap.push { cls:=.type "set",dict:=none,data:=.set #[] 0 (.fresh 0 0 (ledW w)) }).get? l=some { cls:=.type "list",dict:=odict,data:=.seq items nl,slots:=oslots }:=Qc _ hol
    have hsls:=F.sub_list_set
    have hslf:=F.sub_list_frozenset
    have hne:(Value.type "list" == Value.type "dict")=false:=by decide
    have hl1:(s.heap.push { cls:=.type "set",dict:=none,data:=.set #[] 0 (.fresh 0 0 (ledW w)) }).IsList l items:=⟨_,hol',rfl,nl,rfl⟩
    unfold Builtin.«set.__init__» noKeywords Builtin.Frozenset.updateFrom
    generalize hPI:pyIter=PI
    wp_walk
    subst hPI
    refine Jt hl1 ?_
    refine Qa (wpAny_runValue ?_)
    have hlS:l<s.heap.objs.size:=Qk hol
    have hh3:A.in1.in1.in1.handled=none:=by simp [hh]
    have hneI:l≠(s.heap.push { cls:=.type "set",dict:=none,data:=.set #[] 0 (.fresh 0 0 (ledW w)) }).objs.size:=by
     rw [Yr];exact Qt (YH hlS)
    have hSf:s.heap.objs.size∉[(s.heap.push { cls:=.type "set",dict:=none,data:=.set #[] 0 (.fresh 0 0 (ledW w)) }).objs.size,l]:=by
     rw [Yr];simp only [Qi,Qv,JB,or_false,not_or]
     exact⟨Qt (Nat.lt_succ_self _),YO hlS⟩
    have hunits:A.in1.in1.in1.units<cLine:=by
     show A.units+1+1+1<cLine
     lia
    refine zK1 (V:=V) ((Walks.list hh3 _ l hneI items).toS) s.heap.objs.size
     hSf hunits (fun i=>kl.getD i []) s.heap (fun b o e=>?_) (fun i v _ hv=>hi i v hv) hb (items.size-0) 0 _ [] (by lia) (QZ _)
     ⟨⟨_,Qs _ rfl,rfl,rfl⟩,(hl1.push _)⟩ (fun b o e=>?_) ?hS0 ?hK0 ?hR
    ·have hlt:b<s.heap.objs.size:=Qk e
     refine⟨Qt hlt,fun hm=>?_⟩
     rw [Yr]at hm
     have:b=s.heap.objs.size+1:=Qv.mp hm
     rw [this]at hlt
     exact absurd hlt (Nat.not_lt.mpr (Nat.le_succ _))
    ·exact Qc _ (Qc _ e)
    case hS0=>
     have hget:((s.heap.push { cls:=.type "set",dict:=none,data:=.set #[] 0 (.fresh 0 0 (ledW w)) }).push { cls:=.type "list_iterator",data:=.fields #[.ref l,.int 0 0] }).get? s.heap.objs.size
       = some { cls:=.type "set",dict:=none,data:=.set #[] 0 (.fresh 0 0 (ledW w)) }:=Qc _ hS
     exact⟨_,#[],0,_,hget,⟨rfl,rfl,rfl⟩,rfl,⟨.inl rfl,rfl,rfl,List.Pairwise.nil,fun x hx=>by simp [SetTable.fresh]at hx,(by show 0 * 5<7 * 3;decide),fun q hq=>by simp at hq⟩,⟨rfl,rfl⟩,.nil,Jw,fun e he=>by simp at he⟩
    case hK0=>
     intro k
     simp
    case hR=>
     intro s' ks hm h0 hS' hK
     obtain⟨h',g',d',tk',os'⟩:=s'
     have eg:g'=s.gens:=hm.gens
     have ed:d'=s.drawn:=hm.drawn
     have eo:os'=s.os:=hm.os
     subst eg;subst ed;subst eo
     show wpAny _ _ _ _ _ _
     refine Qb ?_
     show wpAny _ _ (ret Value.none) _ _ _
     obtain⟨o',es',ep',t',z1,z2,z3,z4,z5,z6,z7,z8⟩:=hS'
     exact Qb ⟨rfl,h',tk',ks,rfl,⟨o',es',ep',t',z1,z2,z3,z4,z5,z6,z7,fun e he=>(z8 e he).1⟩,hK,fun b o e=>h0 b o e⟩
   ·cases r₂ with
    | error e=>exact hr₂
    | ok fl₂=>
     cases fl₂ with
     | ret r=>
      obtain⟨rfl,h',tk,ks,rfl,hS',hK',hk'⟩:=hr₂
      repeat (any_goals (first | assumption | wp_step))
      exact h _ _ _ hS' hK' hk'
     | _=>exact hr₂.elim
  | _=>exact hr.elim
theorem zLy{l:Addr}{items:Array Value}{kl:List (List Int)}{Q:Value->Shared->Prop}
  (hh:A.handled=none) (hu:A.units+8<cLine) (hl:s.heap.IsTuple l items) (hi:∀ i v,items[i]?=some v->V v/\∃ b,v=.ref b/\TK prog w s.heap (kl.getD i []) b) (hb:items.size<=75)
  (h:∀(h':Heap) (tk:Nat) ks,SetT prog w V h' s.heap.objs.size ks->Keys ks (fun i=>kl.getD i []) items.size->
   (∀ b o,s.heap.get? b=some o->h'.get? b=some o)->Q (.ref s.heap.objs.size) { s with heap:=h',toks:=tk }):
  wpAny (model prog w) A (call (.type "set") [.ref l]) Q E s:=by
 obtain⟨c,tl,hmro⟩:=F.called_set.mro
 have hmade:=F.called_set.made
 have hsub:=F.called_set.sub
 refine wpAny_call (codeAny_of_tree ?_)
 show wpAny _ _ (callAny (.type "set") _) _ _ _
 refine Qb ⟨Code.quiet_builtin _ (by decide +kernel),Y9 F.entry_type_call ?_⟩
 rw [Around.under_plain (weight_type_call_type "set" [.ref l] []) rfl]
 have h1:=F.called_set.notType
 have h2:=F.called_set.canCreate
 have hct:=F.typeCall_set_1 (.ref l)
 repeat (any_goals (first | assumption | wp_step))
 refine Jy (zJx (.ref l) (E:=E) (Q₁:=fun obj s₁=>obj=.ref s.heap.objs.size/\s₁={ s with heap:=s.heap.push { cls:=.type "set",dict:=none,data:=.set #[] 0 (.fresh 0 0 (ledW w)) } }) ⟨rfl,rfl⟩) fun r s₁ hr=>?_
 cases r with
 | error e=>exact hr
 | ok fl=>
  cases fl with
  | ret obj=>
   obtain⟨rfl,rfl⟩:=hr
   have hS:(s.heap.push { cls:=.type "set",dict:=none,data:=.set #[] 0 (.fresh 0 0 (ledW w)) }).get? s.heap.objs.size=some { cls:=.type "set",dict:=none,data:=.set #[] 0 (.fresh 0 0 (ledW w)) }:=Qs _ rfl
   have hT:Shared.TypeIs { s with heap:=s.heap.push { cls:=.type "set",dict:=none,data:=.set #[] 0 (.fresh 0 0 (ledW w)) } } (.ref s.heap.objs.size) "set":=⟨_,hS,rfl⟩
   have hli:=F.called_set.init.lookup
   have hbi:=F.called_set.init.bind (.ref s.heap.objs.size)
   repeat (any_goals (first | assumption | wp_step))
   refine Jy (codeAny_call_builtin (R:=wants (fun r s₂=>r=.none/\∃ h' tk ks,s₂={ s with heap:=h',toks:=tk } /\
     SetT prog w V h' s.heap.objs.size ks/\Keys ks (fun i=>kl.getD i []) items.size /\
     (∀ b o,s.heap.get? b=some o->h'.get? b=some o)) E) F.called_set.init.plain F.entry_set_init (check_set_init_1 hT ?_)) fun r₂ s₂ hr₂=>?_
   ·obtain⟨ol,hol,hcl,nl,hdl⟩:=hl
    obtain⟨ocls,odict,odata,oslots⟩:=ol
    simp only at hcl hdl
    subst hcl;subst hdl
    have hol':(s.heap.push { cls:=.type "set",dict:=none,data:=.set #[] 0 (.fresh 0 0 (ledW w)) }).get? l=some { cls:=.type "tuple",dict:=odict,data:=.seq items nl,slots:=oslots }:=Qc _ hol
    have hsls:=zP7
    have hslf:=zP6
    have hne:(Value.type "tuple" == Value.type "dict")=false:=by decide
    have hl1:(s.heap.push { cls:=.type "set",dict:=none,data:=.set #[] 0 (.fresh 0 0 (ledW w)) }).IsTuple l items:=⟨_,hol',rfl,nl,rfl⟩
    unfold Builtin.«set.__init__» noKeywords Builtin.Frozenset.updateFrom
    generalize hPI:pyIter=PI
    wp_walk
    subst hPI
    refine wpAny_pyIter_tuple hl1 ?_
    refine Qa (wpAny_runValue ?_)
    have hlS:l<s.heap.objs.size:=Qk hol
    have hh3:A.in1.in1.in1.handled=none:=by simp [hh]
    have hneI:l≠(s.heap.push { cls:=.type "set",dict:=none,data:=.set #[] 0 (.fresh 0 0 (ledW w)) }).objs.size:=by
     rw [Yr];exact Qt (YH hlS)
    have hSf:s.heap.objs.size∉[(s.heap.push { cls:=.type "set",dict:=none,data:=.set #[] 0 (.fresh 0 0 (ledW w)) }).objs.size,l]:=by
     rw [Yr];simp only [Qi,Qv,JB,or_false,not_or]
     exact⟨Qt (Nat.lt_succ_self _),YO hlS⟩
    have hunits:A.in1.in1.in1.units<cLine:=by
     show A.units+1+1+1<cLine
     lia
    refine zK1 (V:=V) ((Walks.tuple hh3 _ l hneI items).toS) s.heap.objs.size
     hSf hunits (fun i=>kl.getD i []) s.heap (fun b o e=>?_) (fun i v _ hv=>hi i v hv) hb (items.size-0) 0 _ [] (by lia) (QZ _)
     ⟨⟨_,Qs _ rfl,rfl,rfl⟩,(hl1.push _)⟩ (fun b o e=>?_) ?hS0 ?hK0 ?hR
    ·have hlt:b<s.heap.objs.size:=Qk e
     refine⟨Qt hlt,fun hm=>?_⟩
     rw [Yr]at hm
     have:b=s.heap.objs.size+1:=Qv.mp hm
     rw [this]at hlt
     exact absurd hlt (Nat.not_lt.mpr (Nat.le_succ _))
    ·exact Qc _ (Qc _ e)
    case hS0=>
     have hget:((s.heap.push { cls:=.type "set",dict:=none,data:=.set #[] 0 (.fresh 0 0 (ledW w)) }).push { cls:=.type "tuple_iterator",data:=.fields #[.ref l,.int 0 0] }).get? s.heap.objs.size
       = some { cls:=.type "set",dict:=none,data:=.set #[] 0 (.fresh 0 0 (ledW w)) }:=Qc _ hS
     exact⟨_,#[],0,_,hget,⟨rfl,rfl,rfl⟩,rfl,⟨.inl rfl,rfl,rfl,List.Pairwise.nil,fun x hx=>by simp [SetTable.fresh]at hx,(by show 0 * 5<7 * 3;decide),fun q hq=>by simp at hq⟩,⟨rfl,rfl⟩,.nil,Jw,fun e he=>by simp at he⟩
    case hK0=>
     intro k
     simp
    case hR=>
     intro s' ks hm h0 hS' hK
     obtain⟨h',g',d',tk',os'⟩:=s'
     have eg:g'=s.gens:=hm.gens
     have ed:d'=s.drawn:=hm.drawn
     have eo:os'=s.os:=hm.os
     subst eg;subst ed;subst eo
     show wpAny _ _ _ _ _ _
     refine Qb ?_
     show wpAny _ _ (ret Value.none) _ _ _
     obtain⟨o',es',ep',t',z1,z2,z3,z4,z5,z6,z7,z8⟩:=hS'
     exact Qb ⟨rfl,h',tk',ks,rfl,⟨o',es',ep',t',z1,z2,z3,z4,z5,z6,z7,fun e he=>(z8 e he).1⟩,hK,fun b o e=>h0 b o e⟩
   ·cases r₂ with
    | error e=>exact hr₂
    | ok fl₂=>
     cases fl₂ with
     | ret r=>
      obtain⟨rfl,h',tk,ks,rfl,hS',hK',hk'⟩:=hr₂
      repeat (any_goals (first | assumption | wp_step))
      exact h _ _ _ hS' hK' hk'
     | _=>exact hr₂.elim
  | _=>exact hr.elim
end
end ST
namespace SL
open PySem PySem.Spec PyProof.Rows L2 CL DL SD ST
section
variable {X:Cx}{pins:List (Addr × Obj)}{σ:L2.St}{H:Hp}{s:Shared}
theorem zB0(I:Inv X pins σ H s){b:Addr}{k:List Int}(h:SqT X.K H b (k.map V.int)):TK X.prog X.w s.heap k b:=by
 obtain⟨its,rv,it,hz⟩:=I.tuple h
 obtain⟨o,h1,h2,n,h3⟩:=it
 refine⟨o,its.toArray,n,h1,h2,h3,?_⟩
 show ItemsAre (intKind X.prog X.w) k its
 clear h h3 h1 h2 hz
 generalize hxs:k.map V.int=xs at rv
 induction rv generalizing k with
 | nil=>
  cases k with
  | nil=>exact .nil
  | cons _ _=>simp at hxs
 | @cons x u xs us r t ih=>
  cases k with
  | nil=>simp at hxs
  | cons i k=>
   rw [Qm,List.cons.injEq]at hxs
   obtain⟨e1,e2⟩:=hxs
   subst e1
   obtain⟨tk,rfl⟩:=r
   exact .cons (intKind_is _ _ _ _) (ih e2)
abbrev KsK:=List (List Int)->Hp->Prop
abbrev TSt:=L2.St->Hp->KsK->Prop
def StP(X:Cx)(pins:List (Addr × Obj))(σ:L2.St)(Q:KsK)(u:Value)(s':Shared):Prop:=
 ∃ a o ks H',u=.ref a/\Inv X ((a,o)::pins) σ H' s'/\SetT X.prog X.w (fun v=>∃ b,∃ xs:List Int,v=.ref b/\SqT X.K H' b (xs.map V.int)) s'.heap a ks/\(∀ p∈pins,p.1≠a)/\Q ks H'
def PSt(X:Cx)(e:Expr)(t:TSt):Prop:=
 ∀(pins:List (Addr × Obj)) (s:Shared) (σ:L2.St) (H:Hp) (Q:KsK),Inv X pins σ H s->t σ H Q->wpAny (model X.prog X.w) X.A (eval e X.env) (StP X pins σ Q) X.xe s
def tSet(K:PySem.W.Frag)(t:TA):TSt:=fun σ H Q=>t σ H fun vs H1=>∃(a:Addr) (xs:List V) (kl:List (List Int)),vs=[.ref a]/\(SqL K H1 a xs ∨ SqT K H1 a xs)/\xs.length<=75/\xs.length=kl.length/\(∀(i:Nat) (x:V),xs[i]?=some x->∃ b,x=.ref b/\SqT K H1 b ((kl.getD i []).map V.int))/\∀ ks:List (List Int),ks.Nodup->(∀ k,k∈ks ↔ k∈kl)->Q ks H1
theorem zEO{x:Str}{e:Expr}{p pos:Pos}{t:TA}(hc:X.calm=true)(hu:X.A.units+64<cLine)(hg:Gl X x)(hm:X.mg x=none)(hv:bootBuiltins x=some (.type "set"))(ha:PA X [e] t)(hn:x≠"__name__":=by decide)(hdb:(x == ("__debug__":Str))=false:=by decide)
  (he:starEach [e] X.env=(false,eval e X.env)::starEach [] X.env:=by rfl) (hpl:(backTo pos (starEach [] X.env)).any (·.1)=false:=by rfl):
  PSt X (.Call (.Name x p) [e] [] pos) (tSet X.K t):=by
 intro pins s σ H Q I h
 refine Jm (zB8 I hg hm hv ?_ hn hdb)
 refine YE (thn (ha pos pins s σ H _ I h) fun us s1 ⟨vs,H1,I1,r1,q1⟩=>?_) he hpl
 obtain⟨a,xs,kl,rfl,hq,h75,hlen,hks,q⟩:=q1
 obtain⟨u,rfl,ru⟩:=zBw r1
 cases ru
 have go:∀ its:List Value,Vals xs its->(∀(kl':List (List Int)) (Q':Value->Shared->Prop),(∀ i v,its.toArray[i]?=some v->(∃ b,∃ xs:List Int,v=.ref b/\SqT X.K H1 b (xs.map V.int))/\∃ b,v=.ref b/\TK X.prog X.w s1.heap (kl'.getD i []) b)->
   its.toArray.size<=75->(∀(h':Heap) (tk:Nat) ks,SetT X.prog X.w (fun v=>∃ b,∃ xs:List Int,v=.ref b/\SqT X.K H1 b (xs.map V.int)) h' s1.heap.objs.size ks->Keys ks (fun i=>kl'.getD i []) its.toArray.size->
   (∀ b o,s1.heap.get? b=some o->h'.get? b=some o)->Q' (.ref s1.heap.objs.size) { s1 with heap:=h',toks:=tk })->wpAny (model X.prog X.w) X.A (call (.type "set") [.ref a]) Q' X.xe s1)->
   wpAny (model X.prog X.w) X.A (call (.type "set") [.ref a]) (StP X pins σ Q) X.xe s1:=by
  intro its rv cs
  have hsz:its.toArray.size=kl.length:=by rw [Qw,<- rv.length,hlen]
  refine cs kl _ (fun i v hv=>?_) (by rw [hsz];lia) fun h' tk ks S' K' keep=>?_
  ·have hv':its[i]?=some v:=by simpa using hv
   have hi:i<xs.length:=by
    have:=(Qf.mp hv').1
    rw [rv.length];exact this
   obtain⟨u,e1,e2⟩:=Vals.get rv (Qg hi)
   rw [hv']at e1
   cases e1
   obtain⟨b,e3,e4⟩:=hks i _ (Qg hi)
   rw [e3]at e2
   cases e2
   exact⟨⟨b,_,rfl,e4⟩,b,rfl,zB0 I1 e4⟩
  ·obtain⟨o,es,ep,t,z1,z2,z3,z4,z5,z6,z7,z8⟩:=S'
   have I2:Inv X pins σ H1 { s1 with heap:=h',toks:=tk }:=I1.kept keep
   have I3:Inv X ((s1.heap.objs.size,o)::pins) σ H1 { s1 with heap:=h',toks:=tk }:=by
    refine I2.pins_of fun p hp=>?_
    rcases Qi.mp hp with rfl | hp
    ·refine⟨z1,I1.hok.fresh (Qh _),YO I1.lt,I1.nofs (Qh _),fun v hv=>?_⟩
     rw [z3]at hv
     exact nomatch hv
    ·exact I2.pin p (Qx _ hp)
   refine⟨_,o,ks,H1,rfl,I3,⟨o,es,ep,t,z1,z2,z3,z4,z5,z6,z7,z8⟩,fun p hp=>Qt (Qk (I1.pin p (Qx _ hp)).1),q ks z7 fun k=>(K' k).trans ?_⟩
   rw [hsz]
   constructor
   ·rintro⟨j,hj,rfl⟩
    show kl.getD j []∈kl
    rw [Q0,Qg hj]
    exact YD hj
   ·intro hk
    obtain⟨j,hj⟩:=QQ hk
    refine⟨j,(Qf.mp hj).1,?_⟩
    show kl.getD j []=k
    rw [Q0,hj]
    rfl
 rcases hq with hq | hq
 ·obtain⟨its,rv,pl,_⟩:=I1.list hq
  exact go its rv fun kl' Q' h1 h2 h3=>zLz (kl:=kl') (I1.ok.hd hc) (by lia) pl.isList h1 h2 h3
 ·obtain⟨its,rv,it,hz⟩:=I1.tuple hq
  exact go its rv fun kl' Q' h1 h2 h3=>zLy (kl:=kl') (I1.ok.hd hc) (by lia) it h1 h2 h3
end
def zC8:List D->Option (List (List Int))
 | []=>some []
 | .tuple ds::r=>(zBB ds).bind fun is=>(zC8 r).bind fun rs=>some (is::rs)
 | _=>none
theorem zKc{K:PySem.W.Frag}{F:Addr->Prop}{H:Hp}:∀{ds:List D}{vs:List V}{kl:List (List Int)},Reps K F H ds vs->zC8 ds=some kl->ds.length=kl.length/\∀(i:Nat) (x:V),vs[i]?=some x->∃ b,x=.ref b/\SqT K H b ((kl.getD i []).map V.int):=by
 intro ds
 induction ds with
 | nil=>intro vs kl r h;cases r;cases h;exact⟨rfl,fun i x e=>by simp at e⟩
 | cons d ds ih=>
  intro vs kl r h
  cases r with
  | cons r0 r=>
   cases d with
   | tuple xs=>
    cases r0 with
    | tup h1 r1=>
     obtain⟨is,e1,h⟩:=bnd h
     obtain⟨rs,e2,h⟩:=bnd h
     cases h
     obtain⟨q1,q2⟩:=ih r e2
     refine⟨by simp [q1],fun i x e=>?_⟩
     cases i with
     | zero=>
      cases e
      refine⟨_,rfl,?_⟩
      rw [zDJ r1 e1]at h1
      exact h1
     | succ i=>exact q2 i x (by simpa using e)
   | _=>cases h
def tDSt(K:PySem.W.Frag)(g:Rho->Option (List (List Int))):TSt:=fun σ H Q=>TDx K σ H g fun F kl=>∀ F' H' (ks:List (List Int)),Ext F F' H H'->ks.Nodup->(∀ k,k∈ks ↔ k∈kl)->Q ks H'
def DSt(X:Cx)(e:Expr)(g:Rho->Option (List (List Int))):Prop:=PSt X e (tDSt X.K g)
def setD:List D->Option (List (List Int))
 | [.list xs]=>if xs.length<=75 then zC8 xs else none
 | [.tuple xs]=>if xs.length<=75 then zC8 xs else none
 | _=>none
def eSet(gr:Rho->Option (List D)):Rho->Option (List (List Int)):=fun ρ=>(gr ρ).bind setD
def dd:List (List Int)->List (List Int)
 | []=>[]
 | k::r=>if k∈r then dd r else k::dd r
theorem zEE:∀{l:List (List Int)}{k:List Int},k∈dd l ↔ k∈l
 | [],k=>by simp [dd]
 | x::r,k=>by
  unfold dd
  split
  ·rename_i h
   rw [zEE,Qi]
   constructor
   ·exact .inr
   ·rintro(rfl | h')
    ·exact h
    ·exact h'
  ·rw [Qi,Qi,zEE]
theorem zGp:∀ l:List (List Int),(dd l).Nodup
 | []=>Jw
 | x::r=>by
  unfold dd
  split
  ·exact zGp r
  ·rename_i h
   exact Yl.mpr ⟨fun q=>h (zEE.mp q),zGp r⟩
section
variable {X:Cx}{e:Expr}{p pos:Pos}{gr:Rho->Option (List D)}{g:Rho->Option (List (List Int))}
theorem ps_mono{e:Expr}{t t':TSt}(h:PSt X e t)(m:∀ σ H Q,t' σ H Q->t σ H Q):PSt X e t':=fun pins s σ H Q I q=>h pins s σ H Q I (m σ H Q q)
theorem zHW{x:Str}(hc:X.calm=true)(hu:X.A.units+64<cLine)(hg:Gl X x)(hm:X.mg x=none)(hv:bootBuiltins x=some (.type "set"))(ha:DA X [e] gr)(hn:x≠"__name__":=by decide)(hdb:(x == ("__debug__":Str))=false:=by decide)
  (he:starEach [e] X.env=(false,eval e X.env)::starEach [] X.env:=by rfl) (hpl:(backTo pos (starEach [] X.env)).any (·.1)=false:=by rfl):
  DSt X (.Call (.Name x p) [e] [] pos) (eSet gr):=
 ps_mono (zEO hc hu hg hm hv ha hn hdb he hpl) fun σ H Q zz=>by
  obtain⟨F,H₀,ρ,kl,S,q,k⟩:=zz
  obtain⟨ds,e1,q⟩:=bnd q
  refine⟨F,H₀,ρ,ds,S,e1,fun F1 H1 vs E1 R1=>?_⟩
  unfold setD at q
  split at q
  ·rename_i xs
   by_cases c:xs.length<=75
   ·rw [if_pos c]at q
    cases R1 with
    | cons R2 R3=>
     cases R3
     cases R2 with
     | @lst a us _ h1 r1=>
      obtain⟨z1,z2⟩:=zKc r1 q
      exact⟨a,us,kl,rfl,.inl h1.sq,by rw [<- r1.length];exact c,by rw [<- r1.length,z1],z2,fun ks hn hk=>k F1 H1 ks E1 hn hk⟩
   ·rw [if_neg c]at q;cases q
  ·rename_i xs
   by_cases c:xs.length<=75
   ·rw [if_pos c]at q
    cases R1 with
    | cons R2 R3=>
     cases R3
     cases R2 with
     | @tup a us _ h1 r1=>
      obtain⟨z1,z2⟩:=zKc r1 q
      exact⟨a,us,kl,rfl,.inr h1,by rw [<- r1.length];exact c,by rw [<- r1.length,z1],z2,fun ks hn hk=>k F1 H1 ks E1 hn hk⟩
   ·rw [if_neg c]at q;cases q
  ·cases q
end
end SL
namespace PySem.F
theorem set_iter_entry:entryFor table "set.__iter__"=some Builtin.«frozenset.__iter__»:=
 entryFor_alias (id':="frozenset.__iter__") (by kernel_rfl) rfl (by decide +kernel) (by kernel_rfl)
theorem set_sub_entry:entryFor table "set.__sub__"=some Builtin.«frozenset.__sub__»:=
 entryFor_alias (id':="frozenset.__sub__") (by kernel_rfl) rfl (by decide +kernel) (by kernel_rfl)
theorem zKv:Manifest.owners.lookup (String.ofList ['r','o','t','a','r','e','t','i','_','t','e','s'].reverse)=some Manifest.sig_set_iterator:=by kernel_rfl
theorem si_next:Slot "set_iterator" "__next__" "set_iterator.__next__":=
 .of (owner:="set_iterator") (n:="__next__") (by rw [typeLookup_type,builtinLookup_eq_fast];kernel_rfl) (by decide +kernel) (by decide +kernel) (by decide +kernel)
  (.inl (by decide +kernel)) (by rw [isSubtype_type];kernel_rfl)
theorem si_iter:Slot "set_iterator" "__iter__" "set_iterator.__iter__":=
 .of (owner:="set_iterator") (n:="__iter__") (by rw [typeLookup_type,builtinLookup_eq_fast];kernel_rfl) (by decide +kernel) (by decide +kernel) (by decide +kernel)
  (.inl (by decide +kernel)) (by rw [isSubtype_type];kernel_rfl)
theorem si_iter_entry:entryFor table "set_iterator.__iter__"=some Builtin.«dict_keyiterator.__iter__»:=
 entryFor_alias (id':="dict_keyiterator.__iter__") (by kernel_rfl) rfl (by decide +kernel) (by kernel_rfl)
theorem si_iter_args(a:Value):argsOk "set_iterator.__iter__" ⟨[a],[]⟩:=by
 unfold argsOk;rw [signature?_of (id:="set_iterator.__iter__") (n:=['_','_','r','e','t','i','_','_']) (o:=['r','o','t','a','r','e','t','i','_','t','e','s']) (by kernel_rfl) zKv];kernel_rfl
theorem si_next_entry:entryFor table "set_iterator.__next__"=some Builtin.«set_iterator.__next__»:=entryFor_of_tree (by kernel_rfl)
theorem si_next_args(a:Value):argsOk "set_iterator.__next__" ⟨[a],[]⟩:=by
 unfold argsOk;rw [signature?_of (id:="set_iterator.__next__") (n:=['_','_','t','x','e','n','_','_']) (o:=['r','o','t','a','r','e','t','i','_','t','e','s']) (by kernel_rfl) zKv];kernel_rfl
end PySem.F
namespace ST
open PySem PySem.SetTable PyProof.Rows
theorem zJX{α:Type}(next:Nat->Nat):∀(fuel k:Nat) (left:List α) (out:Array α),left.length=fuel->List.Perm (pickOrder.go next fuel k left out).toList (out.toList++left)
 | 0,k,left,out,h=>by
  have:left=[]:=List.length_eq_zero_iff.mp h
  subst this
  rw [Yk]
  exact .refl _
 | fuel+1,k,left,out,h=>by
  have hl:next k % left.length<left.length:=Nat.mod_lt _ (by lia)
  unfold pickOrder.go
  rw [Qg hl]
  dsimp only
  refine(zJX next fuel (k+1) _ _ (by rw [List.length_eraseIdx_of_lt hl];lia)).trans ?_
  rw [Array.toList_push,Q9]
  refine List.Perm.append_left _ ?_
  rw [List.eraseIdx_eq_take_drop_succ]
  have e:left=left.take (next k % left.length)++left[next k % left.length]::left.drop (next k % left.length+1):=by
   rw [<- Yw hl,Q3]
  refine List.Perm.trans ?_ (.of_eq e.symm)
  show List.Perm (left[next k % left.length]::(left.take (next k % left.length)++left.drop (next k % left.length+1))) _
  exact List.perm_middle.symm
def ordW(w:World)(a ep:Nat)(es:Array (Int × Value)):Array (Int × Value):=if w.params.followText "set-order"=true then pickOrder (w.params.setOrder a ep) es else es
theorem zC7(w:World)(a ep:Nat)(es:Array (Int × Value)):List.Perm (ordW w a ep es).toList es.toList:=by
 unfold ordW
 split
 ·exact(zJX _ es.size 0 es.toList #[] (by simp)).trans (by simp)
 ·exact .refl _
theorem zEK(w:World)(a ep:Nat)(es:Array (Int × Value)):(ordW w a ep es).size=es.size:=by
 have:=(zC7 w a ep es).length_eq
 simpa using this
theorem zLk(xs:Array Nat)(s:Up xs.toList):below xs 0=0:=by
 obtain⟨h1,h2,h3⟩:=zCR xs s 0
 by_cases c:below xs 0=0
 ·exact c
 ·have hl:0<xs.toList.length:=by rw [Qo];lia
  have:=h2 0 _ (Qg hl) (by lia)
  lia
theorem zLj(xs:Array Nat)(s:Up xs.toList){i j:Nat}(h:xs.toList[i]?=some j):below xs (j+1)=i+1:=by
 obtain⟨h1,h2,h3⟩:=zCR xs s (j+1)
 have hi:=(Qf.mp h).1
 rw [Qo]at hi
 by_cases a:below xs (j+1)<=i
 ·have:=h3 i j h a
  lia
 ·by_cases b:below xs (j+1)=i+1
  ·exact b
  ·have hl:i+1<xs.toList.length:=by rw [Qo];lia
   have e:=Qg hl
   have:=h2 _ _ e (by lia)
   have:=s.at h e (by lia)
   lia
structure zBc(w:World)(h:Heap)(a:Addr)(o:Obj)(es:Array (Int × Value))(ep:Nat)(t:SetTable):Prop where
 get:h.get? a=some o
 ex:o.ExactSet
 data:o.data=.set es ep t
 fits:t.fits es.size=true
 up:Up t.place.toList
 plain:t.plain=true
 led:t.led=ledW w
theorem zBc.at{w:World}{h h':Heap}{a:Addr}{o:Obj}{es:Array (Int × Value)}{ep:Nat}{t:SetTable}(S:zBc w h a o es ep t)(e:h'.get? a=some o):zBc w h' a o es ep t:=⟨e,S.ex,S.data,S.fits,S.up,S.plain,S.led⟩
def zCQ(h:Heap)(I a:Addr)(slot i n ep:Nat):Prop:=∃ o,h.get? I=some o/\o.cls=.type "set_iterator"/\o.data=.fields #[.int slot 0,.int i 0,.ref a,.int n 0,.int ep 0]
section
variable {prog:Program}{w:World}{A:Around}{E:Value->Shared->Prop}{s:Shared}{I a:Addr}{o:Obj}{es:Array (Int × Value)}{ep slot i:Nat}{t:SetTable}
theorem zCQ.typeIs{n:Nat}(h:zCQ s.heap I a slot i n ep):s.TypeIs (.ref I) "set_iterator":=by
 obtain⟨o,h1,h2,_⟩:=h
 exact⟨o,h1,h2⟩
theorem zD8{Q:Bool->Shared->Prop}(h:Q (w.params.followText "set-order") s):wpAny (model prog w) A setsByText Q E s:=by
 unfold setsByText
 exact Qa (wpAny_askSetting (Qb h))
theorem zK4{Q:Array (Int × Value)->Shared->Prop}(S:zBc w s.heap a o es ep t)(h:Q (ordW w a ep es) s):wpAny (model prog w) A (setWalk a) Q E s:=by
 unfold setWalk
 refine Qa (QK S.get S.data S.fits ?_)
 dsimp only
 refine Qa (zD8 ?_)
 unfold ordW at h
 cases c:w.params.followText "set-order" with
 | true=>
  rw [c,if_pos rfl]at h
  rw [if_pos rfl]
  exact Qa (wpAny_askSetting (Qb h))
 | false=>
  rw [c,if_neg Qu]at h
  rw [if_neg Qu]
  have hd:(!t.plain && decide (es.size > 1))=false:=by rw [S.plain];rfl
  have hl:(!t.led && decide (es.size > 1))=false:=by rw [S.led,ledW,c];rfl
  show wpAny _ _ (if(!t.plain && decide (es.size > 1))=true then _ else _) _ _ s
  rw [hd,if_neg Qu]
  refine Qa ?_
  show wpAny _ _ (if(!t.led && decide (es.size > 1))=true then _ else _) _ _ s
  rw [hl,if_neg Qu]
  exact Qb (Qb h)
theorem zJA{Q:Option (Value × Nat)->Shared->Prop}(S:zBc w s.heap a o es ep t)(hb:w.params.followText "set-order"=false->below t.place slot=i)
  (h1:∀ x next,(ordW w a ep es)[i]?=some x->(w.params.followText "set-order"=false->below t.place next=i+1)->Q (some (x.2,next)) s) (h2:es.size<=i->Q none s):
  wpAny (model prog w) A (setNext a slot i ep) Q E s:=by
 unfold setNext
 refine Qa (QK S.get S.data S.fits ?_)
 dsimp only
 refine Qa (zD8 ?_)
 cases c:w.params.followText "set-order" with
 | true=>
  rw [if_pos rfl,if_neg (by simp)]
  refine Qa (zK4 S (Qb ?_))
  by_cases l:i<es.size
  ·have l':i<(ordW w a ep es).size:=by rw [zEK];exact l
   rw [QA l']
   exact h1 _ _ (QA l') fun e=>by rw [c]at e;cases e
  ·rw [Yi (by rw [zEK];lia)]
   exact h2 (by lia)
 | false=>
  rw [if_neg Qu]
  have hd:(!t.plain && decide (es.size > 1))=false:=by rw [S.plain];rfl
  have hl:(!t.led && !es.isEmpty)=false:=by rw [S.led,ledW,c];rfl
  show wpAny _ _ (if(!t.plain && decide (es.size > 1))=true then _ else _) _ _ s
  rw [hd,if_neg Qu]
  refine Qa ?_
  show wpAny _ _ (if(!t.led && !es.isEmpty)=true then _ else _) _ _ s
  rw [hl,if_neg Qu]
  refine Qb (Qb ?_)
  have hps:t.place.size=es.size:=by
   have:=S.fits
   unfold SetTable.fits at this
   rw [QH,beq_iff_eq]at this
   exact this.1
  rw [hb c]
  have ho:ordW w a ep es=es:=by unfold ordW;rw [c,if_neg Qu]
  rw [ho]at h1
  by_cases l:i<es.size
  ·have l':i<t.place.size:=by lia
   rw [QA l,QA l']
   refine h1 _ _ (QA l) fun _=>zLj _ S.up ?_
   rw [QD,QA l']
  ·rw [Yi (by lia)]
   exact h2 (by lia)
theorem zM8{Q:Value->Shared->Prop}(S:zBc w s.heap a o es ep t)
  (h:Q (.ref s.heap.objs.size) { s with heap:=s.heap.push { cls:=.type "set_iterator",data:=.fields #[.int 0 0,.int 0 0,.ref a,.int (es.size:Nat) 0,.int (ep:Nat) 0] } }):wpAny (model prog w) A (pyIter (.ref a)) Q E s:=by
 have hT:s.TypeIs (.ref a) "set":=⟨o,S.get,S.ex.1⟩
 refine wpAny_pyIter_slot hT F.slot_set_iter (Yg F.slot_set_iter hT F.set_iter_entry ?_ (F.args_set_iter_1 _))
 unfold Builtin.«frozenset.__iter__» Builtin.Frozenset.slot0 slotArgs
 simp only [List.isEmpty_nil,YQ,Qq,↓reduceIte,bind_assoc,JK,bne_self_eq_false]
 unfold Builtin.Frozenset.addrOf Builtin.Frozenset.sizeOf
 refine Qa (Qb ?_)
 refine Qa (Qb ?_)
 refine Qa (Qa (JG S.get S.data S.fits (Qb ?_)))
 unfold setDrawn
 refine Qa (Qa (QK S.get S.data S.fits ?_))
 dsimp only
 refine Qa (zD8 ?_)
 refine Qb ?_
 have hd:(!(w.params.followText "set-order") && (!t.plain && decide (es.size > 1)))=false:=by rw [S.plain];simp
 show wpAny _ _ (if(!(w.params.followText "set-order") && (!t.plain && decide (es.size > 1)))=true then _ else _) _ _ s
 rw [hd,if_neg Qu]
 refine Qa (Qb ?_)
 unfold setEpoch
 refine Qa (Qa (QK S.get S.data S.fits (Qb ?_)))
 exact Qa (Q8 (Qb ⟨_,rfl,"set_iterator",_,⟨_,Qs _ rfl,rfl⟩,F.si_next.lookup,h⟩))
theorem zOb{Q:Option Value->Shared->Prop}(hit:zCQ s.heap I a slot i es.size ep)(S:zBc w s.heap a o es ep t)(hb:w.params.followText "set-order"=false->below t.place slot=i)(hi:i<es.size)
  (hQ:∀ x h' next,(ordW w a ep es)[i]?=some x->(w.params.followText "set-order"=false->below t.place next=i+1)->zCQ h' I a next (i+1) es.size ep->Heap.SameBut I s.heap h'->Q (some x.2) { s with heap:=h' }):
  wpAny (model prog w) A (pyNext (.ref I)) Q E s:=by
 obtain⟨oi,hoi,hc,hd⟩:=id hit
 unfold pyNext
 refine Qa (wpAny_attempt (Ym (name:=Str.ofString "__next__") hit.typeIs F.si_next
  (Yg F.si_next hit.typeIs F.si_next_entry ?_ (F.si_next_args _))))
 show wpAny _ _ (fieldsOf (.ref I) >>= _) _ _ s
 refine Qa (wpAny_fieldsOf hoi hd ?_)
 dsimp only
 refine Qa (JG S.get S.data S.fits ?_)
 rw [if_neg (by simp)]
 refine Qa (zJA (i:=i) (slot:=slot) S hb (fun x next h1 h2=>?_) fun h=>absurd hi (by lia))
 dsimp only
 refine Qa (Jk hoi hd (by simp) ?_)
 have h1g:=Ye (Obj.mapFields (·.setIfInBounds 0 (rawInt next))) hoi (Js (YC hd _))
 have h1d:=YC hd (fun x=>x.setIfInBounds 0 (rawInt next))
 refine Qa (Jk h1g h1d (by simp) (Qb ⟨_,rfl,Qb (hQ x _ next h1 h2 ?_ ((QY ..).trans (QY ..)))⟩))
 refine⟨_,Ye _ h1g (Js (YC h1d _)),((Obj.cls_mapFields ..).trans (Obj.cls_mapFields ..)).trans hc,?_⟩
 rw [YC h1d]
 simp [rawInt]
theorem zOa{Q:Option Value->Shared->Prop}(hh:A.handled=none)(hit:zCQ s.heap I a slot es.size es.size ep)(S:zBc w s.heap a o es ep t)(hb:w.params.followText "set-order"=false->below t.place slot=es.size)
  (hQ:∀ h',Heap.ExtBut I s.heap h'->Q none { s with heap:=h' }):
  wpAny (model prog w) A (pyNext (.ref I)) Q E s:=by
 obtain⟨oi,hoi,hc,hd⟩:=id hit
 unfold pyNext
 refine Qa (wpAny_attempt (Ym (name:=Str.ofString "__next__") hit.typeIs F.si_next
  (Yg F.si_next hit.typeIs F.si_next_entry ?_ (F.si_next_args _))))
 show wpAny _ _ (fieldsOf (.ref I) >>= _) _ _ s
 refine Qa (wpAny_fieldsOf hoi hd ?_)
 dsimp only
 refine Qa (JG S.get S.data S.fits ?_)
 rw [if_neg (by simp)]
 refine Qa (zJA (i:=es.size) (slot:=slot) S hb (fun x next h1 h2=>?_) fun _=>?_)
 ·rw [Yi (by rw [zEK];exact Qh _)]at h1
  cases h1
 dsimp only
 refine Qa (Jk hoi hd (by simp) ?_)
 show wpAny _ _ (newExc (.type "StopIteration") [] >>= _) _ _ _
 refine Qa ?_
 simp only [newExc,newTuple]
 refine Qa (Q8 ?_ (by size_fits))
 refine Qa (m:=firstArgMember _ _) (wpAny_of_eq (a:=Value.none) (by first | rfl | (simp only [firstArgMember];rfl)) ?_)
 refine Q8 ?_ (by size_fits)
 simp only [raiseNew]
 refine Qa (wpAny_handled ?_)
 first | rw [show A.in1.handled=none from hh] | rw [hh]
 refine Qa (Qb (wpAny_throw ?_))
 refine Qa (JC (T:="StopIteration") (b:=true) ⟨_,Qs _ rfl,rfl⟩ isSubtype_stop ?_)
 exact Qb (hQ _ (((QY ..).extBut.push _).push _))
theorem Walks.set{prog:Program}{w:World}{A:Around}(hh:A.handled=none)(I a:Addr)(hne:a≠I)(o:Obj)(es:Array (Int × Value))(ep:Nat)(t:SetTable):
  Walks prog w A I [I,a] [I] es.size (fun i v=>∃ x,(ordW w a ep es)[i]?=some x/\v=x.2) (fun i h=>∃ slot,(w.params.followText "set-order"=false->below t.place slot=i)/\zCQ h I a slot i es.size ep/\zBc w h a o es ep t) where
 sub:=fun b hb=>by simp at hb;simp [hb]
 frame:=fun _ _ _ ⟨slot,h1,⟨oi,h2,h3,h4⟩,S⟩ hk=>⟨slot,h1,⟨oi,hk I (by simp) _ h2,h3,h4⟩,S.at (hk a (by simp) _ S.get)⟩
 item:=fun i s Q E hi ⟨slot,h1,hit,S⟩ hQ=>
  zOb hit S h1 hi fun x h' next e1 e2 e3 e4=>hQ _ h' s.toks ⟨x,e1,rfl⟩ ⟨next,e2,e3,S.at ((e4.2 a hne).trans S.get)⟩ fun b o hb e=>e4.extBut b o (fun h=>hb (by simp [h])) e
 done:=fun s Q E ⟨slot,h1,hit,S⟩ hQ=>zOa hh hit S h1 fun h' he'=>hQ h' s.toks fun b o hb e=>he' b o (fun h=>hb (by simp [h])) e
 self:=fun i s Q E zz hQ=>by
  obtain⟨slot,h1,hit,S⟩:=zz
  refine wpAny_pyIter_slot hit.typeIs F.si_iter (Yg F.si_iter hit.typeIs F.si_iter_entry ?_ (F.si_iter_args _))
  show wpAny _ _ (ret (.ref I)) _ _ s
  exact Qb ⟨_,rfl,"set_iterator",_,hit.typeIs,F.si_next.lookup,hQ⟩
end
end ST
namespace ST
open PySem PySem.SetTable PyProof.Rows
section
variable {prog:Program}{w:World}{A:Around}{E:Value->Shared->Prop}{s:Shared}
theorem zMT{r:Addr}{Q:Bool->Shared->Prop}(hT:s.TypeIs (.ref r) "set")(h:Q false s):wpAny (model prog w) A (Builtin.List.listLengthHint (.ref r)) Q E s:=by
 unfold Builtin.List.listLengthHint
 refine Qa (wpAny_specialOf hT PySem.F.slot_set_len.lookup ?_)
 generalize hid:("set.__len__":String)=id0
 wp_delta
 rw [show splitId id0=some ("set","__len__")from by subst hid;decide +kernel]
 subst hid
 refine Qa (JC (T:="set") (b:=true) hT (by rw [isSubtype_type];kernel_rfl) ?_)
 refine wpAny_ite_split (fun z=>absurd z (by decide)) fun _=>wpAny_ite_split (fun _=>?_) fun z=>absurd (by decide +kernel) z
 exact Qa (Jb hT (Qb h))
theorem zP1(a:Addr)(o:Obj)(es:Array (Int × Value))(ep:Nat)(t:SetTable):PySem.W.KdlSrc prog w "set" a a es.size (fun i v=>∃ x,(ordW w a ep es)[i]?=some x/\v=x.2) (fun h=>zBc w h a o es ep t) where
 type:=fun s S=>⟨o,S.get,S.ex.1⟩
 there:=fun h S=>⟨Qk S.get,Qk S.get⟩
 keep:=fun h h' S hk=>S.at (hk a (.inl rfl) o S.get)
 notList:=by decide
 notTuple:=by decide
 hint:=fun A E s Q S h=>zMT ⟨o,S.get,S.ex.1⟩ h
 iter:=fun A s hh S=>⟨_,_,fun E Q hQ=>zM8 S hQ,Walks.set hh _ a (Qt (Qk S.get)) o es ep t,⟨0,fun _=>zLk _ S.up,⟨_,Qs _ rfl,rfl,rfl⟩,S.at (Qc _ S.get)⟩⟩
theorem zM7{w:World}{a:Addr}{ep:Nat}{es:Array (Int × Value)}{acc:Array Value}(h:ItemsOf (fun i v=>∃ x,(ordW w a ep es)[i]?=some x/\v=x.2) acc es.size):acc.toList=(ordW w a ep es).toList.map (·.2):=by
 refine List.ext_getElem? fun i=>?_
 rw [QM,QD,QD]
 by_cases l:i<es.size
 ·have l':i<acc.size:=by rw [h.1];exact l
  obtain⟨x,e1,e2⟩:=h.2 i _ (QA l')
  rw [e1,QA l',e2]
  rfl
 ·rw [Yi (by rw [h.1];lia),Yi (by rw [zEK];lia)]
  rfl
theorem Ents.perm{h:Heap}{es es':List (Int × Value)}(p:List.Perm es es'):∀{ks:List (List Int)},Ents prog w h es ks->∃ ks',Ents prog w h es' ks'/\List.Perm ks' ks:=by
 induction p with
 | nil=>intro ks X;exact⟨ks,X,.refl _⟩
 | cons x _ ih=>
  intro ks X
  cases X with
  | cons h1 r=>
   obtain⟨ks',X',q⟩:=ih r
   exact⟨_,.cons h1 X',q.cons _⟩
 | swap x y l=>
  intro ks X
  cases X with
  | cons h1 r=>cases r with
   | cons h2 r=>exact⟨_,.cons h2 (.cons h1 r),.swap _ _ _⟩
 | trans _ _ ih1 ih2=>
  intro ks X
  obtain⟨k1,X1,q1⟩:=ih1 X
  obtain⟨k2,X2,q2⟩:=ih2 X1
  exact⟨k2,X2,q2.trans q1⟩
theorem ItemsAre.unique:∀{k k':List Int}{vs:List Value},ItemsAre (intKind prog w) k vs->ItemsAre (intKind prog w) k' vs->k=k'
 | _,_,_,.nil,h=>by cases h;rfl
 | _,_,_,.cons h1 r1,h=>by
  cases h with
  | cons h2 r2=>
   obtain⟨t1,e1⟩:=Value.isInt_shape h1
   obtain⟨t2,e2⟩:=Value.isInt_shape h2
   rw [e1]at e2
   cases e2
   rw [ItemsAre.unique r1 r2]
theorem TK.unique{h:Heap}{k k':List Int}{a:Addr}(x:TK prog w h k a)(y:TK prog w h k' a):k=k':=by
 obtain⟨o,items,n,ho,_,hd,hi⟩:=x
 obtain⟨o',items',n',ho',_,hd',hi'⟩:=y
 rw [ho]at ho'
 cases ho'
 rw [hd]at hd'
 cases hd'
 exact ItemsAre.unique hi hi'
def SetV(prog:Program)(w:World)(V:Value->Prop)(h:Heap)(a:Addr)(o:Obj)(ks:List (List Int)):Prop:=
 ∃ es ep t,zBc w h a o es ep t/\Ents prog w h es.toList ks/\ks.Nodup/\∀ e∈es.toList,V e.2
end
end ST
namespace SL
open PySem PySem.Spec PyProof.Rows L2 CL DL SD ST
def tupI(k:List Int):D:=.tuple (k.map PyData.int)
section
variable {X:Cx}{pins:List (Addr × Obj)}{σ:L2.St}{H:Hp}{s:Shared}
abbrev VT(K:PySem.W.Frag)(H:Hp)(v:Value):Prop:=∃ b,∃ xs:List Int,v=.ref b/\SqT K H b (xs.map V.int)
def StV(X:Cx)(pins:List (Addr × Obj))(σ:L2.St)(Q:KsK)(u:Value)(s':Shared):Prop:=
 ∃ a o ks H',u=.ref a/\Inv X ((a,o)::pins) σ H' s'/\SetV X.prog X.w (VT X.K H') s'.heap a o ks/\Q ks H'
def PSv(X:Cx)(e:Expr)(t:TSt):Prop:=
 ∀(pins:List (Addr × Obj)) (s:Shared) (σ:L2.St) (H:Hp) (Q:KsK),Inv X pins σ H s->t σ H Q->wpAny (model X.prog X.w) X.A (eval e X.env) (StV X pins σ Q) X.xe s
def DSv(X:Cx)(e:Expr)(g:Rho->Option (List (List Int))):Prop:=PSv X e (tDSt X.K g)
theorem zH1{F:Addr->Prop}(I:Inv X pins σ H s):∀{es:List (Int × Value)}{ks:List (List Int)},Ents X.prog X.w s.heap es ks->(∀ e∈es,VT X.K H e.2)->∃ vs:List V,Reps X.K F H (ks.map tupI) vs/\Vals vs (es.map (·.2))
 | _,_,.nil,_=>⟨[],.nil,.nil⟩
 | _,_,.cons (k:=k) (b:=b) h1 r,hv=>by
  obtain⟨vs,r1,r2⟩:=zH1 (F:=F) I r fun e he=>hv e (Qd _ he)
  obtain⟨b',xs,e1,e2⟩:=hv _ Qe
  cases e1
  have:k=xs:=h1.unique (zB0 I e2)
  subst this
  exact⟨.ref b::vs,.cons (.tup e2 (zC2 k)) r1,.cons rfl r2⟩
end
theorem zPD{d0:List D}{ds ds':List D}(p:List.Perm ds ds'):∀{l:List KD},zA1 d0 ds=some l->∃ l',zA1 d0 ds'=some l'/\List.Perm l' l:=by
 induction p with
 | nil=>intro l h;exact⟨l,h,.refl _⟩
 | cons x _ ih=>
  intro l h
  obtain⟨k,e1,h⟩:=bnd h
  obtain⟨r,e2,h⟩:=bnd h
  cases h
  obtain⟨l',q1,q2⟩:=ih e2
  exact⟨(k,x)::l',by unfold zA1;rw [e1,q1];rfl,q2.cons _⟩
 | swap x y l0=>
  intro l h
  obtain⟨k,e1,h⟩:=bnd h
  obtain⟨r,e2,h⟩:=bnd h
  cases h
  obtain⟨k2,e3,h⟩:=bnd e2
  obtain⟨r2,e4,h⟩:=bnd h
  cases h
  exact⟨(k2,x)::(k,y)::r2,by unfold zA1;rw [e3];unfold zA1;rw [e1,e4];rfl,.swap _ _ _⟩
 | trans _ _ ih1 ih2=>
  intro l h
  obtain⟨l1,q1,q2⟩:=ih1 h
  obtain⟨l2,q3,q4⟩:=ih2 q1
  exact⟨l2,q3,q4.trans q2⟩
theorem zPX{d0:List D}{ds ds':List D}{l l':List KD}(h:zA1 d0 ds=some l)(h':zA1 d0 ds'=some l')(p:List.Perm l' l):zAZ l'=zAZ l:=by
 refine zGS (((zDa l').trans p).trans (zDa l).symm) (zD1 l') (zD1 l) fun a ha b hb e=>?_
 have r:=(zGL h').2
 have h1:=r a ((zDa l').mem_iff.mp ha)
 have h2:=r b ((zDa l').mem_iff.mp hb)
 rw [e]at h1
 exact YW e (zCC h1 h2)
def zFA(g:Rho->Option (List (List Int))):Rho->Option D:=fun ρ=>(g ρ).bind fun kl=>zBQ [.list ((dd kl).map tupI)]
section
variable {X:Cx}{e:Expr}{p pos:Pos}{g:Rho->Option (List (List Int))}
theorem zL5{x:Str}(hc:X.calm=true)(hu:X.A.units+66<cLine)(hg:Gl X x)(hm:X.mg x=none)(hv:bootBuiltins x=some (.builtin "sorted"))(ha:DSv X e g)(hn:x≠"__name__":=by decide)(hdb:(x == ("__debug__":Str))=false:=by decide)
  (he:starEach [e] X.env=(false,eval e X.env)::starEach [] X.env:=by rfl) (hpl:(backTo pos (starEach [] X.env)).any (·.1)=false:=by rfl):
  DE X (.Call (.Name x p) [e] [] pos) (zFA g):=by
 intro pins s σ H Q I ⟨F,H₀,ρ,d,S,q,k⟩
 obtain⟨kl,e1,q⟩:=bnd q
 refine Jm (zB8 I hg hm hv ?_ hn hdb)
 refine PyProof.Rows.callWith_builtin1 (Q:=?_) ?_ he hpl
 rw [he]
 show wpAny _ _ (spliced ((false,eval e X.env)::backTo pos (starEach [] X.env))) _ _ s
 refine Calls.spliced_cons (thn (ha pins s σ H (fun ks H1=>ks.Nodup/\(∀ k,k∈ks ↔ k∈kl)/\∃ F1,Ext F F1 H H1) I ⟨F,H₀,ρ,kl,S,e1,fun F1 H1 ks E1 n1 m1=>⟨n1,m1,F1,E1⟩⟩) fun u s1 zz=>?_)
 obtain⟨a,o,ks,H1,eu,I1,⟨es,ep,t,S1,X1,n1,v1⟩,_,m1,F1,E1⟩:=zz
 refine Calls.spliced_nil ?_
 subst eu
 refine Calls.call_function_entry kind_sorted plain_sorted entry_sorted (args_sorted1 _) ?_
 unfold Builtin.«sorted»
 have pk:List.Perm ks (dd kl):=(List.perm_ext_iff_of_nodup n1 (zGp kl)).mpr fun k=>(m1 k).trans zEE.symm
 have hlen:es.size=(dd kl).length:=by rw [<- Qo,X1.length,pk.length_eq]
 have l64:(dd kl).length<64:=by
  cases c:dd kl with
  | nil=>decide
  | cons k0 kr=>
   rw [c]at q
   have q':(if(kr.map tupI).length<63 then _ else none)=some d:=q
   by_cases z:(kr.map tupI).length<63
   ·rw [Qj]at z;simp;lia
   ·rw [if_neg z]at q';cases q'
 refine Qa (m:=checkCount "sorted" 1 1 _) (Qb (Qa (PySem.W.kdu_collect (zP1 a o es ep t) (by simp [I1.ok.hd hc]) S1 (zAY (by lia)) fun h' tk acc hk hacc=>?_)))
 have I2:Inv X pins σ H1 { s1 with heap:=h',toks:=tk }:=(I1.pins_of fun p hp=>I1.pin p (Qx _ (Qd _ hp))).kept hk
 obtain⟨ks',X2,p2⟩:=(X1.mono fun k b x=>x.at fun o e=>hk b o e).perm (zC7 X.w a ep es).symm
 obtain⟨vs,r1,r2⟩:=zH1 (F:=F1) I2 X2 fun e he=>v1 e ((zC7 X.w a ep es).mem_iff.mp he)
 rw [<- zM7 hacc]at r2
 have form:∃ d0 l,zA1 d0 ((dd kl).map tupI)=some l/\d=.list ((zAZ l).map (·.2)):=by
  cases c:dd kl with
  | nil=>rw [c]at q;cases q;exact⟨[],[],rfl,rfl⟩
  | cons k0 kr=>
   rw [c]at q
   have q':(if(kr.map tupI).length<63 then(zA1 (k0.map PyData.int) ((k0::kr).map tupI)).bind fun l=>some (PyData.list ((zAZ l).map (·.2)))else none)=some d:=q
   by_cases z:(kr.map tupI).length<63
   ·rw [if_pos z]at q'
    obtain⟨l,e2,q'⟩:=bnd q'
    cases q'
    exact⟨_,l,e2,rfl⟩
   ·rw [if_neg z]at q';cases q'
 obtain⟨d0,l,f1,rfl⟩:=form
 obtain⟨l',f2,f3⟩:=zPD ((p2.trans pk).map tupI).symm f1
 refine zKF hu I2 r2 r1 f2 (by rw [Qj,(p2.trans pk).length_eq];exact l64) fun p vs' hp r' _=>?_
 rw [zPX f1 f2 f3]at r'
 exact k _ _ _ (E1.trans (Ext.frozen hp)) (Rep.newLst hp r')
end
end SL
namespace SL
open PySem PySem.Spec PyProof.Rows L2 CL DL SD
section
variable {X:Cx}{e st:Expr}{p2 pos:Pos}
end
end SL
namespace TL
open PySem PySem.Spec PyProof.Rows L2 HT
theorem zOh:fillsNumberSlot (.type "tuple") "mul"=pure false:=
 PySem.fillsNumberSlot_seq (id:="tuple.__mul__") (r:=some (.builtin "tuple.__rmul__")) PySem.F.slot_tuple_mul.lookup (by decide +kernel) PySem.F.slot_tuple_rmul.lookup (by decide +kernel)
theorem zPA:seqRepeat? (.type "tuple")=pure (some (.builtin "tuple.__mul__")):=by
 unfold seqRepeat?
 rw [PySem.seqSlot_of (T:="tuple") (name:="__mul__") (id:="tuple.__mul__") PySem.F.slot_tuple_mul.lookup (by decide +kernel),PySem.seqSlot_of (T:="tuple") (name:="__rmul__") (id:="tuple.__rmul__") PySem.F.slot_tuple_rmul.lookup (by decide +kernel)]
 rfl
theorem zPB(a:Int)(t:Tok)(l:Addr)(items:Array Value)(n:Nat)(dd:Option Addr)(sl:Array (Option Value)):
  Meets (Builtin.«int.__rmul__» ⟨[.int a t,.ref l],[]⟩) (fun _ R s=>s.heap.get? l=some { cls:=.type "tuple",dict:=dd,data:=.seq items n,slots:=sl }/\R (.ok (.ret Value.notImplemented)) s):=
 .of_wp fun prog w A R s h=>by
  obtain⟨hp,g,d,tk,os⟩:=s
  obtain⟨hl,h⟩:=h
  wp_walk
  exact⟨_,rfl,h⟩
theorem zNL(t:Tok)(l:Addr)(items:Array Value)(n:Nat)(dd:Option Addr)(sl:Array (Option Value))(hne:items.isEmpty=false)(hsz:items.size+items.size<=16777216):
  Meets (Builtin.«tuple.__mul__» ⟨[.ref l,.int 2 t],[]⟩) (fun _ R s=>s.heap.get? l=some { cls:=.type "tuple",dict:=dd,data:=.seq items n,slots:=sl }/\R (.ok (.ret (Value.ref s.heap.objs.size))) { s with heap:=s.heap.push { cls:=Value.type "tuple",data:=Data.seq (items++items) },toks:=s.toks }):=
 .of_wp fun prog w A R s h=>by
  obtain⟨hp,g,d,tk,os⟩:=s
  obtain⟨hl,h⟩:=h
  have f1:=AutoSeq1.idx_int
  have c1:(items.isEmpty || (2:Int) == 1)=false:=by rw [hne];rfl
  have c2:(decide ((2:Int)<=0) || items.isEmpty)=false:=by rw [hne];rfl
  have c3:¬ ((items.size:Int) * 2 > (2 ^ 63-1) / 8):=by
   have:((2:Int) ^ 63-1) / 8=1152921504606846975:=by decide
   lia
  have c4:Builtin.Tuple.tupleTooMany ((items.size:Int) * 2)=false:=by
   unfold Builtin.Tuple.tupleTooMany
   rw [Yq]
   exact decide_eq_false (by lia)
  have c5:(List.replicate ((2:Int).toNat) items).foldl (fun x y=>x++y) #[]=items++items:=by
   show(#[]++items)++items=items++items
   simp
  have c6:sizeOk (.seq (items++items)):=by
   show(items++items).size<=sizeLine
   rw [Array.size_append,Yq];exact hsz
  unfold Builtin.«tuple.__mul__»
  wp_walk using wpAny_loadPart' hl
  rw [if_neg c3]
  dsimp only
  rw [c4,if_neg Qu,c5]
  exact Qa (m:=Builtin.Tuple.tupleExact _) (Q8 (Qb ⟨_,rfl,h⟩) c6)
section
variable {prog:Program}{w:World}{A:Around}{E:Value->Shared->Prop}{s:Shared}
theorem zNM{t:Addr}{vs:List Value}{u:Tok}{Q:Value->Shared->Prop}(ht:IsTup s.heap t vs.toArray)(hv:vs≠[])(hz:vs.length+vs.length<=16777216)
  (h:Q (.ref s.heap.objs.size) { s with heap:=s.heap.push { cls:=.type "tuple",data:=.seq (vs++vs).toArray } }):wpAny (model prog w) A (binaryOp .Mult (.ref t) (.int 2 u)) Q E s:=by
 obtain⟨⟨cls,dd,data,sl⟩,ho,hc,n,hd⟩:=id ht
 simp only at hc hd
 subst hc hd
 have hne:vs.toArray.isEmpty=false:=by cases vs with
  | nil=>exact absurd rfl hv
  | cons _ _=>rfl
 have e:vs.toArray++vs.toArray=(vs++vs).toArray:=by simp
 refine wpAny_binaryOp_repeat_ref (T:="tuple") (U:="int") (by decide) ⟨_,ho,rfl⟩ (fun s'=>typeIs_int s' 2 u) zOh PySem.F.fills_int_mul PySem.F.slot_int_rmul zPA PySem.F.slot_int_index.lookup
  (call_meets PySem.F.slot_int_rmul (typeIs_int s 2 u) PySem.F.entry_int_rmul (PySem.F.args_int_rmul_2 _ _) (zPB 2 u t vs.toArray n dd sl)
   ⟨ho,rfl,⟨_,ho,rfl⟩,call_meets PySem.F.slot_tuple_mul ⟨_,ho,rfl⟩ PySem.F.entry_tuple_mul (PySem.F.args_tuple_mul_2 _ _) (zNL u t vs.toArray n dd sl hne (by simpa using hz)) ⟨ho,?_⟩⟩)
 rw [e]
 exact h
theorem zLD{t b:Addr}{ws:List Value}{Q:Value->Shared->Prop}(ht:IsTup s.heap t #[])(hb:IsTup s.heap b ws.toArray)(h:Q (.ref b) s):wpAny (model prog w) A (binaryOp .Add (.ref t) (.ref b)) Q E s:=by
 obtain⟨⟨cls,dd,data,sl⟩,ho,hc,n,hd⟩:=id ht
 obtain⟨⟨cls2,dd2,data2,sl2⟩,ho2,hc2,n2,hd2⟩:=id hb
 simp only at hc hd hc2 hd2
 subst hc hd hc2 hd2
 exact concat_meets ⟨_,ho,rfl⟩ ⟨_,ho2,rfl⟩ noFill_tuple_add seq_tuple_add PySem.F.slot_tuple_add PySem.F.entry_tuple_add (PySem.F.args_tuple_add_2 _ _) (tuple_addW0 t b #[] ws.toArray n n2 dd dd2 sl sl2 rfl) ⟨ho,ho2,h⟩
theorem zLE{t b:Addr}{vs ws:List Value}{Q:Value->Shared->Prop}(ht:s.heap.IsList t vs.toArray)(hb:s.heap.IsList b ws.toArray)(hz:vs.length+ws.length<=sizeLine)
  (h:Q (.ref s.heap.objs.size) { s with heap:=s.heap.push { cls:=.type "list",data:=.seq (vs++ws).toArray } }):wpAny (model prog w) A (binaryOp .Add (.ref t) (.ref b)) Q E s:=by
 obtain⟨⟨cls,dd,data,sl⟩,ho,hc,n,hd⟩:=id ht
 obtain⟨⟨cls2,dd2,data2,sl2⟩,ho2,hc2,n2,hd2⟩:=id hb
 simp only at hc hd hc2 hd2
 subst hc hd hc2 hd2
 have e:vs.toArray++ws.toArray=(vs++ws).toArray:=by simp
 refine concat_meets ⟨_,ho,rfl⟩ ⟨_,ho2,rfl⟩ noFill_list_add seq_list_add PySem.F.slot_list_add PySem.F.entry_list_add (PySem.F.args_list_add_2 _ _) (list_addW t b vs.toArray ws.toArray n n2 dd dd2 sl sl2 (by simpa using hz)) ⟨ho,ho2,?_⟩
 rw [e]
 exact h
theorem zQu{t sl:Addr}{items:Array Value}{vl vu:Value}{lo hi:Option Int}{Q:Value->Shared->Prop}(ht:IsTup s.heap t items)(hs:s.heap.IsSliceOf sl vl vu .none)(pl:IsPart vl lo)(pu:IsPart vu hi)
  (hw:sIx items.size 0 lo=0/\sIx items.size items.size hi=items.size) (h:Q (.ref t) s):wpAny (model prog w) A (getItem (.ref t) (.ref sl)) Q E s:=by
 obtain⟨os,hos,hcs,hds⟩:=id hs
 have hTs:s.TypeIs (.ref sl) "slice":=⟨os,hos,hcs⟩
 unfold getItem
 try with_reducible refine Yf ?_
 first | refine Qa (Qb ?_) | skip
 refine Qa (wpAny_sequenceKey ht.typeIs (by decide) ?_)
 refine Qa (Ym (name:=Str.ofString "__getitem__") ht.typeIs YK
  (Yg YK ht.typeIs entry_tuple_getitem ?_ (args_tuple_getitem _ _)))
 show wpAny _ _ (Builtin.Tuple.tupleItemsOf (.ref t) >>= _) _ _ s
 refine Qa (tupleItemsOf_ ht (Qa (Jb hTs ?_)))
 rw [if_pos (by decide)]
 refine Qa (zKw hs pl pu ?_)
 rw [hw.1,hw.2]
 show wpAny _ _ (if(((0:Nat):Int) == 0 && (1:Int) == 1 && (items.size-0) == items.size)=true then _ else _) _ _ s
 rw [if_pos (by simp)]
 unfold Builtin.Tuple.tupleIsExact
 refine Qa (Qa (Jb ht.typeIs (Qb ?_)))
 rw [if_pos (by decide)]
 exact Qa (wpAny_rule (Qb ⟨_,rfl,Qb h⟩))
end
end TL
namespace SL
open PySem PySem.Spec PyProof.Rows L2 CL DL SD TL
section
variable {X:Cx}{e st:Expr}{p2 pos:Pos}
theorem zOz:OpR X (binaryOp .Mult) (fun x y H Q=>∃ a xs,x=.ref a/\y=.int 2/\SqT X.K H a xs/\xs≠[]/\xs.length<=1000/\∀ p,H p=none->Q (.ref p) (upd H p (.tup (xs++xs)))):=by
 intro pins s σ H x y v u Q I rx ry h
 obtain⟨a,xs,rfl,rfl,ha,hx,hz,q⟩:=h
 cases rx
 obtain⟨t,rfl⟩:=ry
 obtain⟨its,r1,p1,_⟩:=I.tuple ha
 refine zNM p1 (fun z=>hx (r1.nil_iff.mp z)) (by rw [<- r1.length];lia) ?_
 refine⟨.ref s.heap.objs.size,_,I.laid (t':=s.toks) (o:=.tup (xs++xs)) (fun b ob q=>Qc _ q) (Qh _) ?_,rfl,q _ (I.hok.fresh (Qh _))⟩
 exact⟨by rw [Qp,Yq];lia,_,r1.append r1,IsTup.new _ _⟩
theorem zOx:OpR X (binaryOp .Add) (fun x y H Q=>∃ a b ys,x=.ref a/\y=.ref b/\SqT X.K H a []/\SqT X.K H b ys/\Q (.ref b) H):=by
 intro pins s σ H x y v u Q I rx ry h
 obtain⟨a,b,ys,rfl,rfl,ha,hb,q⟩:=h
 cases rx
 cases ry
 obtain⟨its,r1,p1,_⟩:=I.tuple ha
 obtain⟨its2,r2,p2,_⟩:=I.tuple hb
 cases r1
 exact zLD p1 p2 ⟨.ref b,H,I,rfl,q⟩
theorem zOy:OpR X (binaryOp .Add) (fun x y H Q=>∃ a b xs ys,x=.ref a/\y=.ref b/\SqL X.K H a xs/\SqL X.K H b ys/\xs.length+ys.length<=1000/\∀ p,H p=none->Q (.ref p) (upd H p (.lst (xs++ys)))):=by
 intro pins s σ H x y v u Q I rx ry h
 obtain⟨a,b,xs,ys,rfl,rfl,ha,hb,hz,q⟩:=h
 cases rx
 cases ry
 obtain⟨its,r1,p1,_⟩:=I.list ha
 obtain⟨its2,r2,p2,_⟩:=I.list hb
 refine zLE p1.isList p2.isList (by rw [<- r1.length,<- r2.length];exact zAY hz) ?_
 refine⟨.ref s.heap.objs.size,_,I.laid (t':=s.toks) (o:=.lst (xs++ys)) (fun b ob q=>Qc _ q) (Qh _) ?_,rfl,q _ (I.hok.fresh (Qh _))⟩
 exact⟨by rw [Qp];exact zAY hz,_,0,r1.append r2,Qs _ rfl⟩
theorem zPS:SlR X (fun x lo hi H Q=>∃ a xs,x=.ref a/\SqT X.K H a xs/\(HT.sIx xs.length 0 lo=0/\HT.sIx xs.length xs.length hi=xs.length)/\Q (.ref a) H):=by
 intro pins s σ H x v vl vu lo hi sl Q I rx hs pl pu h
 obtain⟨a,xs,rfl,hx,hw,q⟩:=h
 cases rx
 obtain⟨its,r,ht,hz⟩:=I.tuple hx
 have hlen:its.toArray.size=xs.length:=by rw [Qw];exact r.length.symm
 exact⟨"tuple",_,YK.lookup,ht.typeIs,zQu ht hs pl pu (by rw [hlen];exact hw) ⟨.ref a,H,I,rfl,q⟩⟩
def dSl2:D->Option Int->Option Int->Option D
 | .list xs,lo,hi=>some (.list (DL.cutD xs lo hi))
 | .tuple xs,lo,hi=>some (.tuple (DL.cutD xs lo hi))
 | _,_,_=>none
def eSl2(ga:Rho->Option D)(gl gh:Rho->Option (Option Int)):Rho->Option D:=fun ρ=>(ga ρ).bind fun d=>(gl ρ).bind fun l=>(gh ρ).bind fun h=>dSl2 d l h
theorem zLT{xs:List D}{lo hi:Option Int}(h:HT.sIx xs.length 0 lo=0/\HT.sIx xs.length xs.length hi=xs.length):DL.cutD xs lo hi=xs:=by
 unfold DL.cutD
 rw [h.1,h.2,List.drop_zero,Nat.sub_zero,List.take_length]
theorem zDy{a:Expr}{lo hi:Option Expr}{ga:Rho->Option D}{gl gh:Rho->Option (Option Int)}(ha:DE X a ga)(hl:DO X lo gl)(hh:DO X hi gh):DE X (.Subscript a (.Slice lo hi none p2) pos) (eSl2 ga gl gh):=
 zAQ (zON (zPO.or (zPP.or zPS)) ha hl hh) fun σ H Q zz=>by
  obtain⟨F,H₀,ρ,d,S,q,k⟩:=zz
  obtain⟨x,e1,q⟩:=bnd q
  obtain⟨l,e2,q⟩:=bnd q
  obtain⟨h,e3,q⟩:=bnd q
  refine⟨F,H₀,ρ,x,S,e1,fun F1 H1 v E1 R1=>⟨F1,H₀,ρ,l,S.ext E1,e2,fun F2 H2 E2=>⟨F2,H₀,ρ,h,(S.ext E1).ext E2,e3,fun F3 H3 E3=>?_⟩⟩⟩
  have R3:=(R1.stay E2.stay).stay E3.stay
  have E123:=E1.trans (E2.trans E3)
  cases R3 with
  | @lst a' vs ds h1 r1=>
   cases q
   exact .inl ⟨a',vs,rfl,h1.sq,fun p hp=>k _ _ _ (E123.trans (Ext.frozen hp)) (Rep.newLst hp (r1.cut l h))⟩
  | @tup a' vs ds h1 r1=>
   cases q
   by_cases c:HT.sIx ds.length 0 l=0/\HT.sIx ds.length ds.length h=ds.length
   ·rw [zLT c]at k
    exact .inr (.inr ⟨a',vs,rfl,h1,by rw [<- r1.length];exact c,k _ _ _ E123 (.tup h1 r1)⟩)
   ·exact .inr (.inl ⟨a',vs,rfl,h1,by rw [<- r1.length];exact c,fun p hp=>k _ _ _ (E123.trans (Ext.fresh hp)) (Rep.newTup hp (r1.cut l h))⟩)
  | non=>cases q
  | dct _ _ _ _ _=>cases q
  | exn _ _ _=>cases q
  | bl _=>cases q
  | int _=>cases q
  | str _=>cases q
def zAx:D->D->Option D
 | .int i,.int j=>some (.int (i+j))
 | .tuple xs,.tuple ys=>if xs.length+ys.length<=1000 then some (.tuple (xs++ys))else none
 | .list xs,.list ys=>if xs.length+ys.length<=1000 then some (.list (xs++ys))else none
 | _,_=>none
theorem zGo{α β:Type}{xs:List α}{ys:List β}(h:xs.length=ys.length)(e:ys=[]):xs=[]:=by subst e;exact Yy h
theorem zAE:OpR X (binaryOp .Add) (rD2 X.K zAx):=zDT (zOl.or (zOm.or (zOx.or zOy))) fun x y H Q zz=>by
 obtain⟨F,d,e,q,z,R1,R2,hq,k⟩:=zz
 unfold zAx at hq
 split at hq
 ·cases hq
  cases R1
  cases R2
  exact .inl ⟨_,_,rfl,rfl,k F H _ (Ext.refl F H) (.int _)⟩
 ·rename_i xs ys
  by_cases c:xs.length+ys.length<=1000
  ·rw [if_pos c]at hq
   cases hq
   cases R1 with
   | @tup a vs _ h1 r1=>
    cases R2 with
    | @tup b us _ h2 r2=>
     by_cases n:vs=[]
     ·subst n
      have:xs=[]:=zGo r1.length rfl
      subst this
      exact .inr (.inr (.inl ⟨a,b,us,rfl,rfl,h1,h2,k F H _ (Ext.refl F H) (.tup h2 r2)⟩))
     ·refine .inr (.inl ⟨a,b,vs,us,rfl,rfl,h1,h2,n,zAY (by rw [<- r1.length,<- r2.length];exact c),fun e=>?_,fun e p hp=>?_⟩)
      ·have:ys=[]:=zGo r2.length e
       subst this
       rw [Yk]at k
       exact k F H _ (Ext.refl F H) (.tup h1 r1)
      ·exact k F _ _ (Ext.fresh hp) (Rep.newTup hp (r1.append r2))
  ·rw [if_neg c]at hq;cases hq
 ·rename_i xs ys
  by_cases c:xs.length+ys.length<=1000
  ·rw [if_pos c]at hq
   cases hq
   cases R1 with
   | @lst a vs _ h1 r1=>
    cases R2 with
    | @lst b us _ h2 r2=>
     exact .inr (.inr (.inr ⟨a,b,vs,us,rfl,rfl,h1.sq,h2.sq,by rw [<- r1.length,<- r2.length];exact c,fun p hp=>k _ _ _ (Ext.frozen hp) (Rep.newLst hp (r1.append r2))⟩))
  ·rw [if_neg c]at hq;cases hq
 ·cases hq
def zAy:D->D->Option D
 | .int i,.int j=>if zBY i j=true then some (.int (i * j))else none
 | .tuple xs,.int j=>if j=2/\xs≠[]/\xs.length<=500 then some (.tuple (xs++xs))else none
 | _,_=>none
theorem zAK:OpR X (binaryOp .Mult) (rD2 X.K zAy):=zDT ((zOv (X:=X)).or zOz) fun x y H Q zz=>by
 obtain⟨F,d,e,q,z,R1,R2,hq,k⟩:=zz
 unfold zAy at hq
 split at hq
 ·exact .inl ⟨F,_,_,q,z,R1,R2,hq,k⟩
 ·rename_i xs j
  by_cases c:j=2/\xs≠[]/\xs.length<=500
  ·rw [if_pos c]at hq
   cases hq
   obtain⟨rfl,c1,c2⟩:=c
   cases R2
   cases R1 with
   | @tup a vs _ h1 r1=>
    exact .inr ⟨a,vs,rfl,rfl,h1,fun e=>c1 (zGo r1.length e),by rw [<- r1.length];lia,fun p hp=>k F _ _ (Ext.fresh hp) (Rep.newTup hp (r1.append r1))⟩
  ·rw [if_neg c]at hq;cases hq
 ·cases hq
def dLt2:D->D->Option D
 | .int i,.int j=>some (.bool (decide (i<j)))
 | .tuple xs,.tuple ys=>(zBB xs).bind fun a=>(zBB ys).bind fun b=>some (.bool (HT.lexLt a b))
 | _,_=>none
theorem zCz(hu:X.A.units+64<cLine):OpR X (compareOp .Lt) (rD2 X.K dLt2):=zDT (op_lt.or (zOo (by lia))) fun x y H Q zz=>by
 obtain⟨F,d,e,q,z,R1,R2,hq,k⟩:=zz
 unfold dLt2 at hq
 split at hq
 ·cases hq
  cases R1
  cases R2
  exact .inl ⟨_,_,rfl,rfl,k F H _ (Ext.refl F H) (.bl _)⟩
 ·obtain⟨a,e1,hq⟩:=bnd hq
  obtain⟨b,e2,hq⟩:=bnd hq
  cases hq
  cases R1 with
  | @tup u vs _ h1 r1=>
   cases R2 with
   | @tup u' us _ h2 r2=>
    rw [zDJ r1 e1]at h1
    rw [zDJ r2 e2]at h2
    exact .inr ⟨u,u',a,b,rfl,rfl,h1,h2,k F H _ (Ext.refl F H) (.bl _)⟩
 ·cases hq
def dPow:D->D->Option D:=dI2 (fun i j=>decide (0<=j) && decide (j<=64) && decide (i.natAbs<18446744073709551616)) fun i j=>.int (i ^ j.toNat)
theorem zJJ:OpR X (binaryOp .Pow) (rD2 X.K dPow):=opd2 zOr (fun i j h=>by
 simp only [QH,decide_eq_true_eq]at h
 unfold CPow
 lia) fun _ _ _ _ _=>.int _
end
end SL
namespace EL
open PySem PySem.Spec PyProof.Rows L2 DL ZL
open AutoSeq1 (wpAny_loadPart')
theorem zN8(l:Addr)(items:Array Value)(n:Nat)(dct:Option Addr)(sl:Array (Option Value)):
  Meets (Builtin.«enumerate.__new__» ⟨[.type "enumerate",.ref l],[]⟩) (fun _ R s=>s.heap.get? l=some { cls:=.type "tuple",dict:=dct,data:=.seq items n,slots:=sl } /\
   R (.ok (.ret (.ref (s.heap.push { cls:=.type "tuple_iterator",data:=.fields #[.ref l,.int 0 0] }).objs.size)))
    { s with heap:=(s.heap.push { cls:=.type "tuple_iterator",data:=.fields #[.ref l,.int 0 0] }).push { cls:=.type "enumerate",data:=.fields #[.none,.bool false,.ref s.heap.objs.size,rawInt 0,.none,.none] } }):=
 .of_wp fun prog w A R s h=>by
  obtain⟨hp,g,d,tk,os⟩:=s
  obtain⟨hl,h⟩:=h
  have hsub:=sub_enumerate
  have hT:Heap.IsTuple (Shared.heap ⟨hp,g,d,tk,os⟩) l items:=⟨_,hl,rfl,n,rfl⟩
  wp_walk using wpAny_loadPart' hl
  refine wpAny_stack_any fun st=>Qb ?_
  split
  ·rename_i c _ _ _ _ _
   cases(c == Value.type "enumerate") <;> (wp_walk using wpAny_loadPart' hl,wpAny_pyIter_tuple hT;exact⟨_,rfl,h⟩)
  ·wp_walk using wpAny_loadPart' hl,wpAny_pyIter_tuple hT
   exact⟨_,rfl,h⟩
section
variable {prog:Program}{w:World}{A:Around}{E:Value->Shared->Prop}{s:Shared}
theorem zLs{l:Addr}{items:Array Value}{Q:Value->Shared->Prop}(hT:s.heap.IsTuple l items)
  (h:∀ h',IsEnum h' (s.heap.objs.size+1) s.heap.objs.size 0 .none->h'.IsTupleIter s.heap.objs.size l 0->h'.objs.size=s.heap.objs.size+2->
   (∀ b o,s.heap.get? b=some o->h'.get? b=some o)->Q (.ref (s.heap.objs.size+1)) { s with heap:=h' }):
  wpAny (model prog w) A (call (.type "enumerate") [.ref l]) Q E s:=by
 obtain⟨⟨c,dct,dt,sl⟩,hl,hc,n,hd⟩:=hT
 replace hc:c=.type "tuple":=hc
 replace hd:dt=.seq items n:=hd
 subst hc hd
 refine callType_new F.called_enumerate (by decide) (F.typeCall_enumerate_1 _) (F.newCall_enumerate_1 _) (fun obj=>F.args_object_init_2 obj _) F.entry_enumerate_new
  (zN8 l items n dct sl) ⟨hl,?_⟩
 have hz:(s.heap.push { cls:=.type "tuple_iterator",data:=.fields #[.ref l,.int 0 0] }).objs.size=s.heap.objs.size+1:=Yr ..
 show _/\_
 rw [hz]
 have he:IsEnum ((s.heap.push { cls:=.type "tuple_iterator",data:=.fields #[.ref l,.int 0 0] }).push
   { cls:=.type "enumerate",data:=.fields #[.none,.bool false,.ref s.heap.objs.size,rawInt 0,.none,.none] }) (s.heap.objs.size+1) s.heap.objs.size 0 .none:=by
  have:=Qs (s.heap.push { cls:=.type "tuple_iterator",data:=.fields #[.ref l,.int 0 0] })
   (o:={ cls:=.type "enumerate",data:=.fields #[.none,.bool false,.ref s.heap.objs.size,rawInt 0,.none,.none] }) rfl
  rw [hz]at this;exact this
 exact⟨⟨_,he,rfl⟩,h _ he ⟨_,Qc _ (Qs _ rfl),rfl,rfl⟩ (by rw [Yr,hz]) fun b o x=>Qc _ (Qc _ x)⟩
theorem zN9{it t:Addr}{i:Nat}{items:Array Value}{x:Value}{Q:Value->Shared->Prop}(hit:s.heap.IsTupleIter it t i)(ht:s.heap.IsTuple t items)(hx:items[i]?=some x)
  (hQ:∀ h',h'.IsTupleIter it t (i+1)->Heap.SameBut it s.heap h'->Q x { s with heap:=h' }):wpAny (model prog w) A (Builtin.SmallTypes.nextOf (.ref it)) Q E s:=by
 obtain⟨o,ho,hc,hd⟩:=id hit
 obtain⟨ol,hol,_,nl,hdl⟩:=ht
 unfold Builtin.SmallTypes.nextOf
 refine Qa (Ym (name:=Str.ofString "__next__") hit.typeIs Y6
  (Yg Y6 hit.typeIs F.entry_tuple_iterator_next ?_ (F.args_tuple_iterator_next_1 _)))
 show wpAny _ _ (field (.ref it) 0 >>= _) _ _ s
 refine Qa (JO ho hd (x:=.ref t) rfl ?_)
 show wpAny _ _ (if(Value.ref t == Value.none)=true then _ else _) _ _ s
 rw [if_neg (show ¬ ((Value.ref t == Value.none)=true)from Qu)]
 show wpAny _ _ (field (.ref it) 1 >>= _) _ _ s
 refine Qa (JO ho hd (x:=.int i 0) rfl ?_)
 show wpAny _ _ (seqItems? (.ref t) >>= _) _ _ s
 refine Qa (wpAny_seqItems hol hdl ?_)
 simp only [YS,hx]
 refine Qa (Jk ho hd (by simp) (Qb ⟨x,rfl,Qb (hQ _ ?_ (QY ..))⟩))
 refine⟨_,Ye _ ho (Js (YC hd _)),(Obj.cls_mapFields ..).trans hc,?_⟩
 rw [YC hd]
 simp [rawInt]
theorem zJz{it t:Addr}{i:Nat}{items:Array Value}{Q:Value->Shared->Prop}(hh:A.handled=none)(hit:s.heap.IsTupleIter it t i)(ht:s.heap.IsTuple t items)(hx:items[i]?=none)
  (hE:∀ h' e,Heap.ExtBut it s.heap h'->(∃ o,h'.get? e=some o/\o.cls=.type "StopIteration")->E (.ref e) { s with heap:=h' }):wpAny (model prog w) A (Builtin.SmallTypes.nextOf (.ref it)) Q E s:=by
 obtain⟨o,ho,hc,hd⟩:=id hit
 obtain⟨ol,hol,_,nl,hdl⟩:=ht
 unfold Builtin.SmallTypes.nextOf
 refine Qa (Ym (name:=Str.ofString "__next__") hit.typeIs Y6
  (Yg Y6 hit.typeIs F.entry_tuple_iterator_next ?_ (F.args_tuple_iterator_next_1 _)))
 show wpAny _ _ (field (.ref it) 0 >>= _) _ _ s
 refine Qa (JO ho hd (x:=.ref t) rfl ?_)
 show wpAny _ _ (if(Value.ref t == Value.none)=true then _ else _) _ _ s
 rw [if_neg (show ¬ ((Value.ref t == Value.none)=true)from Qu)]
 show wpAny _ _ (field (.ref it) 1 >>= _) _ _ s
 refine Qa (JO ho hd (x:=.int i 0) rfl ?_)
 show wpAny _ _ (seqItems? (.ref t) >>= _) _ _ s
 refine Qa (wpAny_seqItems hol hdl ?_)
 simp only [YS,hx]
 refine Qa (wpAny_rule (Qa (Jk ho hd (by simp) ?_)))
 show wpAny _ _ (newExc (.type "StopIteration") [] >>= _) _ _ _
 refine Qa ?_
 simp only [newExc,newTuple]
 refine Qa (Q8 ?_ (by size_fits))
 refine Qa (m:=firstArgMember _ _) (wpAny_of_eq (a:=Value.none) (by first | rfl | (simp only [firstArgMember];rfl)) ?_)
 refine Q8 ?_ (by size_fits)
 simp only [raiseNew]
 refine Qa (wpAny_handled ?_)
 first | rw [show A.in1.handled=none from hh] | rw [hh]
 refine Qa (Qb (wpAny_throw ?_))
 exact hE _ _ (((QY ..).extBut.push _).push _) ⟨_,Qs _ rfl,rfl⟩
end
theorem zMk{prog:Program}{w:World}{A:Around}(hh:A.handled=none)(it t:Addr)(hne:t≠it)(items:Array Value):
  Draws prog w A it [it,t] items.size (fun i v=>items[i]?=some v) (fun i h=>h.IsTupleIter it t i/\h.IsTuple t items) where
 live:=fun _ _ st=>let⟨o,ho,_⟩:=st.1;⟨o,ho⟩
 frame:=fun _ _ _ st hk=>⟨st.1.at fun o e=>hk it (by simp) o e,st.2.at fun o e=>hk t (by simp) o e⟩
 item:=fun i s Q E hi st hQ=>zN9 st.1 st.2 (x:=items[i]) (by simp [hi]) fun h' hit' hs'=>hQ _ h' s.toks (by simp [hi]) ⟨hit',st.2.extBut hs'.extBut hne⟩ hs'
 done:=fun s Q E st hE=>zJz hh st.1 st.2 (by simp) hE
def Ite(SQ:Hp->List V->Prop):It:=
 ⟨fun i H=>∃ xs x,SQ H xs/\xs[i]?=some x,
  fun i H v H'=>∃ p,H p=none/\v=.ref p/\∃ x,H'=upd H p (.tup [.int i,x])/\∀ xs,SQ H xs->xs[i]?=some x,
  fun i H=>∃ xs,SQ H xs/\xs.length<=i⟩
structure ESrc(P:Program)(w:World)(K:PySem.W.Frag)(SQ:Hp->List V->Prop)(a it:Addr)(IT:Nat->Heap->Prop)(IS:Heap->Array Value->Prop):Prop where
 sq:∀(X:Cx) (pins:List (Addr × Obj)) (σ:L2.St) (H:Hp) (s:Shared) (xs:List V),X.K=K->L2.Inv X pins σ H s->SQ H xs->(∃ its,Vals xs its/\IS s.heap its.toArray)/\∀ ys,SQ H ys->ys=xs
 ob:∀ i h,IT i h->∃ o,h.get? it=some o/\∀ v,o.data≠.cell v
 kp:∀ i h h',IT i h->(∀ o,h.get? it=some o->h'.get? it=some o)->IT i h'
 D:∀(A:Around) (items:Array Value),A.handled=none->Draws P w A it [it,a] items.size (fun i v=>items[i]?=some v) (fun i h=>IT i h/\IS h items)
 Z:∀(A:Around) (items:Array Value) (i:Nat),A.handled=none->items.size<=i->Draws P w A it [it,a] i (fun _ _=>False) (fun j h=>j=i/\IT i h/\IS h items)
theorem zKW{P:Program}{w:World}{K:PySem.W.Frag}{elts:List Expr}{x1}{tpos:Pos}{SQ:Hp->List V->Prop}(a e it:Addr)(hei:e≠it)(hea:e≠a){IT:Nat->Heap->Prop}{IS:Heap->Array Value->Prop}(Z:ESrc P w K SQ a it IT IS):
  Turn P w K (.Tuple elts x1 tpos) (Ite SQ) [e,it] e (fun i h=>(∃ old,IsEnum h e it i old)/\IT i h) where
 mem:=by simp
 obj:=fun i h st c hc=>by
  obtain⟨⟨old,h1⟩,h2⟩:=st
  rcases Qi.mp hc with rfl | hc
  ·exact⟨_,h1,fun v z=>by have z':Data.fields _=Data.cell v:=z;cases z'⟩
  ·rw [Qv.mp hc];exact Z.ob i h h2
 keep:=fun i h h' st k=>by
  obtain⟨⟨old,h1⟩,h2⟩:=st
  exact⟨⟨old,k e (by simp) _ h1⟩,Z.kp i h h' h2 fun o q=>k it (by simp) o q⟩
 item:=by
  intro X hP hw hK hc i pins s σ H E I hf st hg
  subst hP hw
  obtain⟨xs,x,ha,hx⟩:=hg
  obtain⟨⟨old,h1⟩,h2⟩:=st
  obtain⟨⟨its,rv,pl⟩,inj⟩:=Z.sq X pins σ H s xs hK I ha
  obtain⟨xu,ex,rx⟩:=rv.get hx
  have hlt:i<its.toArray.size:=by
   have:=(Qf.mp ex).1
   simpa using this
  have hef:e∉[it,a]:=by simp only [Qi,JB,or_false,not_or];exact⟨hei,hea⟩
  refine wpAny_pyNext_enum_itemD (Z.D X.A.in1 its.toArray (by simp [I.ok.hd hc])) h1 ⟨h2,pl⟩ hlt hei hef fun x' h' tk hP ho hst hT hsz hk=>⟨_,rfl,?_⟩
  have ex':its[i]?=some x':=by simpa using hP
  rw [ex]at ex'
  cases ex'
  refine wpAny_letOwnedTupleGo_enum ho fun h'' z1 sb=>?_
  have hn:H s.heap.objs.size=none:=I.hok.fresh (Qh _)
  have old':∀ c o,s.heap.get? c=some o->c≠s.heap.objs.size:=fun c o q=>Qt (Qk q)
  have eT:s.heap.objs.size≠e:=(old' e _ h1).symm
  obtain⟨oi,hoi,_⟩:=Z.ob i _ h2
  have kk:∀ c o,c∉[e,it]->s.heap.get? c=some o->h''.get? c=some o:=fun c o nc q=>
   sb.extBut c o (fun q=>nc (by simp [q])) (hk c o (fun q=>nc (by simp [q])) (fun q=>nc (by simp [q])) q)
  have nfp:∀ c o,H c=some o->c∉[e,it]:=fun c o q hc'=>by
   have:=(hf c hc').1
   rw [this]at q;cases q
  have hok:HOk X.prog X.w (upd H s.heap.objs.size (.tup [.int i,x])) h'':=fun c o q=>by
   by_cases hcT:c=s.heap.objs.size
   ·subst hcT
    rw [zBm]at q;cases q
    exact⟨zAY (by simp),[.int i tk,xu],.cons ⟨tk,rfl⟩ (.cons rx .nil),⟨_,sb.extBut _ _ eT hT,rfl,0,rfl⟩⟩
   ·rw [zAs hcT]at q
    refine(I.hok c o q).stay (fun d v hd q=>kk d v ?_ q) (fun d q=>by rw [zAs (zBj q hn)];exact q) fun d xs q=>by rw [zAs (zBj q hn)];exact q
    rcases hd with rfl | hd
    ·exact nfp _ _ q
    ·exact nfp _ _ hd
  refine⟨.ref s.heap.objs.size,_,zFf (s:=s) (h':=h'') (tk:=tk+1) I hf kk (fun c o q=>zAs (old' c o q)) (fun c o q=>by rw [zAs (zBj q hn)];exact q) hok,rfl,⟨_,hn,rfl,x,rfl,fun ys hy=>by rw [inj ys hy];exact hx⟩,⟨⟨_,by simpa using z1⟩,Z.kp _ _ _ hst.1 fun o q=>sb.extBut it o (Ne.symm hei) q⟩,fun c hc'=>?_⟩
  have q:=(hf c hc').1
  have nT:c≠s.heap.objs.size:=by
   rcases Qi.mp hc' with rfl | hc'
   ·exact old' _ _ h1
   ·rw [Qv.mp hc'];exact old' _ _ hoi
  rw [zAs nT];exact q
 done:=by
  intro X hP hw hK hc i pins s σ H E I hf st hg
  subst hP hw
  obtain⟨xs,ha,hend⟩:=hg
  obtain⟨⟨old,h1⟩,h2⟩:=st
  obtain⟨⟨its,rv,pl⟩,inj⟩:=Z.sq X pins σ H s xs hK I ha
  have l1:=rv.length
  refine wpAny_pyNext_enum_endD (Z.Z X.A.in1 its.toArray i (by simp [I.ok.hd hc]) (by rw [Qw];lia)) h1 ⟨rfl,h2,pl⟩ fun h' hx=>⟨rfl,?_⟩
  have kk:∀ c o,c∉[e,it]->s.heap.get? c=some o->h'.get? c=some o:=fun c o nc q=>hx c o (fun q=>nc (by simp [q])) q
  have nfp:∀ c o,H c=some o->c∉[e,it]:=fun c o q hc'=>by
   have:=(hf c hc').1
   rw [this]at q;cases q
  refine zFf (s:=s) (h':=h') (tk:=s.toks) I hf kk (fun _ _ _=>rfl) (fun _ _ q=>q) fun c o q=>?_
  refine(I.hok c o q).stay (fun d v hd q=>kk d v ?_ q) (fun d q=>q) fun d xs q=>q
  rcases hd with rfl | hd
  ·exact nfp _ _ q
  ·exact nfp _ _ hd
 self:=fun _ _ _ _ _ st h=>by
  obtain⟨⟨old,h1⟩,_⟩:=st
  exact wpAny_pyIter_enum h1 h
theorem esrcT{P:Program}{w:World}{K:PySem.W.Frag}(a it:Addr)(hne:a≠it):ESrc P w K (fun H xs=>SqT K H a xs) a it (fun i h=>h.IsTupleIter it a i) (fun h items=>h.IsTuple a items) where
 sq:=fun X pins σ H s xs hK I ha=>by
  subst hK
  obtain⟨its,rv,pl,_⟩:=I.tuple ha
  exact⟨⟨its,rv,pl⟩,fun ys hy=>I.tuple_inj hy ha⟩
 ob:=fun i h ⟨o,ho,_,hd⟩=>⟨o,ho,fun v z=>by rw [hd]at z;cases z⟩
 kp:=fun i h h' hi k=>hi.at k
 D:=fun A items hh=>zMk hh it a hne items
 Z:=fun A items i hh hle=>
  {live:=fun _ _ ⟨_,⟨o,ho,_⟩,_⟩=>⟨o,ho⟩
   frame:=fun _ _ _ ⟨e,st,st2⟩ hk=>⟨e,st.at fun o q=>hk it (by simp) o q,st2.at fun o q=>hk a (by simp) o q⟩
   item:=fun j s Q E hj ⟨e,_⟩ _=>absurd e (Qt hj)
   done:=fun s Q E ⟨_,st,st2⟩ hE=>zJz hh st st2 (Yi hle) hE }
theorem esrcL{P:Program}{w:World}{K:PySem.W.Frag}(a it:Addr)(hne:a≠it):ESrc P w K (fun H xs=>SqL K H a xs) a it (fun i h=>h.IsListIter it a i) (fun h items=>h.IsList a items) where
 sq:=fun X pins σ H s xs hK I ha=>by
  subst hK
  obtain⟨its,rv,pl,_⟩:=I.list ha
  exact⟨⟨its,rv,pl.isList⟩,fun ys hy=>I.list_inj hy ha⟩
 ob:=fun i h ⟨o,ho,_,hd⟩=>⟨o,ho,fun v z=>by rw [hd]at z;cases z⟩
 kp:=fun i h h' hi k=>hi.at k
 D:=fun A items hh=>Draws.list hh it a hne items
 Z:=fun A items i hh hle=>
  {live:=fun _ _ ⟨_,⟨o,ho,_⟩,_⟩=>⟨o,ho⟩
   frame:=fun _ _ _ ⟨e,st,st2⟩ hk=>⟨e,st.at fun o q=>hk it (by simp) o q,st2.at fun o q=>hk a (by simp) o q⟩
   item:=fun j s Q E hj ⟨e,_⟩ _=>absurd e (Qt hj)
   done:=fun s Q E ⟨_,st,st2⟩ hE=>wpAny_nextOf_list_end hh st st2 (Yi hle) hE }
def zCv(K:PySem.W.Frag)(ta:TA):TI:=fun σ H R=>ta σ H fun vs H1=>∃ a,vs=[.ref a]/\(((∃ xs,SqL K H1 a xs)/\R (Ite fun H xs=>SqL K H a xs) H1) ∨ ((∃ xs,SqT K H1 a xs)/\R (Ite fun H xs=>SqT K H a xs) H1))
theorem zOV{X:Cx}{elts:List Expr}{x1}{tpos:Pos}{a:Expr}{ta:TA}{p pos:Pos}(hg:Gl X "enumerate")(hm:X.mg "enumerate"=none)(ha:PA X [a] ta)(hs:starEach [a] X.env=[(false,eval a X.env)]:=by rfl):
  PI X (.Tuple elts x1 tpos) (.Call (.Name "enumerate" p) [a] [] pos) (zCv X.K ta):=by
 intro pins s σ H R I h
 refine Call_ (zB8 I hg hm boot_enumerate (YE (thn (ha pos pins s σ H _ I h) fun us s1 ⟨vs,H1,I1,r1,q1⟩=>?_) (by rw [hs];rfl) (by rfl)))
 obtain⟨a',e,q⟩:=q1
 subst e
 obtain⟨u,rfl,ru⟩:=zBw r1
 cases ru
 have fin:∀ c∈[s1.heap.objs.size+1,s1.heap.objs.size],FpOk X pins H1 c:=fun c hc=>by
  have lc:s1.heap.objs.size<=c:=by
   rcases Qi.mp hc with rfl | hc
   ·exact Yn _ _
   ·rw [Qv.mp hc];exact Qh _
  exact I1.fpOk lc (I1.hok.fresh lc)
 rcases q with⟨⟨xs,hx⟩,q⟩ | ⟨⟨xs,hx⟩,q⟩
 ·obtain⟨its,rv,pl,_⟩:=I1.list hx
  refine call_enumerate_list pl.isList fun h' a1 a2 a3 hk=>?_
  have la:a'<s1.heap.objs.size:=by obtain⟨_,e,_⟩:=pl.isList;exact Qk e
  have I2:L2.Inv X pins σ H1 { s1 with heap:=h' }:=I1.kept (t':=s1.toks) hk
  refine wpAny_pyIter_enum (s:={ s1 with heap:=h' }) a1 ?_
  exact⟨_,[s1.heap.objs.size+1,s1.heap.objs.size],_,_,H1,rfl,I2,zKW a' (s1.heap.objs.size+1) s1.heap.objs.size (Nat.succ_ne_self _) (YO (YH la)) (esrcL a' s1.heap.objs.size (Qt la)),⟨⟨_,a1⟩,a2⟩,fin,q⟩
 ·obtain⟨its,rv,pl,_⟩:=I1.tuple hx
  refine zLs pl fun h' a1 a2 a3 hk=>?_
  have la:a'<s1.heap.objs.size:=by obtain⟨_,e,_⟩:=pl;exact Qk e
  have I2:L2.Inv X pins σ H1 { s1 with heap:=h' }:=I1.kept (t':=s1.toks) hk
  refine wpAny_pyIter_enum (s:={ s1 with heap:=h' }) a1 ?_
  exact⟨_,[s1.heap.objs.size+1,s1.heap.objs.size],_,_,H1,rfl,I2,zKW a' (s1.heap.objs.size+1) s1.heap.objs.size (Nat.succ_ne_self _) (YO (YH la)) (esrcT a' s1.heap.objs.size (Qt la)),⟨⟨_,a1⟩,a2⟩,fin,q⟩
end EL
namespace SL
open PySem PySem.Spec PyProof.Rows L2 CL DL SD EL
def zA9(n:Nat):List D->List D
 | []=>[]
 | x::xs=>.tuple [.int n,x]::zA9 (n+1) xs
theorem zJE:∀(xs:List D) (n i:Nat),(zA9 n xs)[i]?=(xs[i]?).map fun x=>.tuple [.int ((n+i:Nat):Int),x]
 | [],n,i=>by simp [zA9]
 | x::xs,n,0=>by simp [zA9]
 | x::xs,n,i+1=>by
  show(zA9 (n+1) xs)[i]?=_
  rw [zJE xs (n+1) i,show n+1+i=n+(i+1) by lia]
  rfl
theorem zJF:∀(xs:List D) (n:Nat),(zA9 n xs).length=xs.length
 | [],_=>rfl
 | x::xs,n=>by show(zA9 (n+1) xs).length+1=_;rw [zJF xs];rfl
def zFB:List D->Option (List D)
 | [.list xs]=>some (zA9 0 xs)
 | [.tuple xs]=>some (zA9 0 xs)
 | _=>none
theorem zIX{K:PySem.W.Frag}{F:Addr->Prop}{H:Hp}{SQ:Hp->List V->Prop}{vs:List V}{ds:List D}(h1:∀ F2 H2,Stay K F F2 H H2->SQ H2 vs)(r1:Reps K F H ds vs):ItD K F H (zA9 0 ds) (Ite SQ):=fun F2 H2 T z i=>by
 have g1:=h1 F2 H2 T
 have s1:=r1.stay T
 refine⟨fun d hd=>?_,fun hl=>⟨vs,g1,?_⟩⟩
 ·rw [zJE]at hd
  cases e1:ds[i]? with
  | none=>rw [e1]at hd;cases hd
  | some x=>
   rw [e1]at hd
   cases hd
   obtain⟨v,e3,R1⟩:=s1.get e1
   refine⟨⟨vs,v,g1,e3⟩,fun w H3 yy=>?_⟩
   obtain⟨p,hp,rfl,x',rfl,q1⟩:=yy
   have q3:=q1 vs g1
   rw [e3]at q3;cases q3
   refine⟨F2,Ext.fresh hp,Rep.newTup hp (.cons ?_ (.cons R1 .nil))⟩
   rw [YG]
   exact .int _
 ·rw [zJF]at hl
  rw [<- s1.length]
  exact hl
theorem zL9{X:Cx}{elts:List Expr}{x1}{tpos:Pos}{a:Expr}{gr:Rho->Option (List D)}{p pos:Pos}(hg:Gl X "enumerate")(hm:X.mg "enumerate"=none)(ha:DA X [a] gr)(hs:starEach [a] X.env=[(false,eval a X.env)]:=by rfl):
  DI X (.Tuple elts x1 tpos) (.Call (.Name "enumerate" p) [a] [] pos) (fun ρ=>(gr ρ).bind zFB):=
 zGy (zOV hg hm ha hs) fun σ H R zz=>by
  obtain⟨F,H₀,ρ,ds,S,q,k⟩:=zz
  obtain⟨xs,e1,q⟩:=bnd q
  unfold zFB at q
  split at q
  ·cases q
   refine⟨F,H₀,ρ,_,S,e1,fun F1 H1 vs E1 R1=>?_⟩
   cases R1 with
   | cons r rs=>
    cases rs
    cases r with
    | @lst a' vs' _ h1 r1=>exact⟨a',rfl,.inl ⟨⟨_,h1.sq⟩,k F1 H1 _ E1 (zIX (fun F2 H2 T=>(h1.stay T).sq) r1)⟩⟩
  ·cases q
   refine⟨F,H₀,ρ,_,S,e1,fun F1 H1 vs E1 R1=>?_⟩
   cases R1 with
   | cons r rs=>
    cases rs
    cases r with
    | @tup a' vs' _ h1 r1=>exact⟨a',rfl,.inr ⟨⟨_,h1⟩,k F1 H1 _ E1 (zIX (fun F2 H2 T=>T.tp _ _ h1) r1)⟩⟩
  ·cases q
end SL
namespace SL
open PySem PySem.Spec PyProof.Rows L2 CL DL SD
def zB3:List D->Option (List Bool)
 | []=>some []
 | .bool b::r=>(zB3 r).bind fun bs=>some (b::bs)
 | _=>none
theorem zHx{K:PySem.W.Frag}{F:Addr->Prop}{H:Hp}:∀{ds:List D}{vs:List V}{bs:List Bool},Reps K F H ds vs->zB3 ds=some bs->vs=bs.map V.bl:=by
 intro ds
 induction ds with
 | nil=>intro vs bs r h;cases r;cases h;rfl
 | cons d ds ih=>
  intro vs bs r h
  cases r with
  | cons r1 r2=>
   cases d with
   | bool b=>
    cases r1
    obtain⟨js,e,h⟩:=bnd h
    cases h
    rw [ih r2 e];rfl
   | _=>cases h
theorem zGW:∀{bs:List Bool}{us:List Value},Vals (bs.map V.bl) us->us=bs.map Value.bool
 | [],_,h=>by cases h;rfl
 | b::bs,_,h=>by
  cases h with
  | cons r t=>
   rw [zGW t]
   cases(show _=Value.bool b from r)
   rfl
theorem zPo(bs:List Bool):(List.range bs.length).all (fun i=>bs.getD i false)=bs.all id:=by
 rw [Yu,QG,QG]
 constructor
 ·intro h b hb
  obtain⟨i,hi⟩:=QQ hb
  have:=h i (QE.mpr (Qf.mp hi).1)
  rw [Q0,hi]at this
  exact this
 ·intro h i hi
  have hi:=QE.mp hi
  rw [Q0,Qg hi]
  exact h _ (YD hi)
theorem zPp(bs:List Bool):(List.range bs.length).any (fun i=>bs.getD i false)=bs.any id:=by
 rw [Yu,JD,JD]
 constructor
 ·rintro⟨i,hi,h⟩
  have hi:=QE.mp hi
  rw [Q0,Qg hi]at h
  exact⟨_,YD hi,h⟩
 ·rintro⟨b,hb,h⟩
  obtain⟨i,hi⟩:=QQ hb
  refine⟨i,QE.mpr (Qf.mp hi).1,?_⟩
  rw [Q0,hi]
  exact h
section
variable {X:Cx}
theorem zKU{P:Program}{w:World}{A:Around}{bs:List Bool}:TruthOf P w A (fun i v=>(bs.map Value.bool).toArray[i]?=some v) (fun i=>bs.getD i false):=fun i v s Q E hP hQ=>by
 have hP:(List.map Value.bool bs).toArray[i]?=some v:=hP
 have hQ:Q (bs.getD i false) s:=hQ
 rw [List.getElem?_toArray,QM]at hP
 cases e:bs[i]? with
 | none=>rw [e]at hP;cases hP
 | some b=>
  rw [e]at hP
  cases hP
  rw [Q0,e]at hQ
  exact Qb hQ
theorem zLB(hc:X.calm=true):zAF X (.builtin "all") (fun xs H Q=>∃(a:Addr) (bs:List Bool),xs=[.ref a]/\SqL X.K H a (bs.map V.bl)/\Q (.bl (bs.all id)) H):=by
 intro pins s σ H xs us Q I rv h
 obtain⟨a,bs,rfl,ha,q⟩:=h
 obtain⟨u,rfl,ru⟩:=zBw rv
 cases ru
 obtain⟨its,r,pl,_⟩:=I.list ha
 have e:=zGW r
 subst e
 have la:a<s.heap.objs.size:=by obtain⟨_,e,_⟩:=pl.isList;exact Qk e
 refine call_all_walk (Jt pl.isList ⟨s.heap.objs.size,_,_,_,_,_,_,rfl,Walks.list (by simp [I.ok.hd hc]) s.heap.objs.size a (Qt la) (bs.map Value.bool).toArray,⟨⟨_,Qs _ rfl,rfl,rfl⟩,pl.isList.push _⟩,zKU,fun h' tk hk=>?_⟩)
 rw [Qw,Qj,zPo]
 exact⟨.bl _,H,I.kept fun b o e=>hk b o (fun z=>absurd (Qk e) (by rw [Qv.mp z];exact YN _)) (Qc _ e),rfl,q⟩
theorem zLC(hc:X.calm=true):zAF X (.builtin "any") (fun xs H Q=>∃(a:Addr) (bs:List Bool),xs=[.ref a]/\SqL X.K H a (bs.map V.bl)/\Q (.bl (bs.any id)) H):=by
 intro pins s σ H xs us Q I rv h
 obtain⟨a,bs,rfl,ha,q⟩:=h
 obtain⟨u,rfl,ru⟩:=zBw rv
 cases ru
 obtain⟨its,r,pl,_⟩:=I.list ha
 have e:=zGW r
 subst e
 have la:a<s.heap.objs.size:=by obtain⟨_,e,_⟩:=pl.isList;exact Qk e
 refine call_any_walk (Jt pl.isList ⟨s.heap.objs.size,_,_,_,_,_,_,rfl,Walks.list (by simp [I.ok.hd hc]) s.heap.objs.size a (Qt la) (bs.map Value.bool).toArray,⟨⟨_,Qs _ rfl,rfl,rfl⟩,pl.isList.push _⟩,zKU,fun h' tk hk=>?_⟩)
 rw [Qw,Qj,zPp]
 exact⟨.bl _,H,I.kept fun b o e=>hk b o (fun z=>absurd (Qk e) (by rw [Qv.mp z];exact YN _)) (Qc _ e),rfl,q⟩
def dAll:List D->Option D
 | [.list xs]=>(zB3 xs).bind fun bs=>some (.bool (bs.all id))
 | _=>none
def dAny:List D->Option D
 | [.list xs]=>(zB3 xs).bind fun bs=>some (.bool (bs.any id))
 | _=>none
theorem zLF(hc:X.calm=true):zAF X (.builtin "all") (rDA X.K dAll):=zB4 (zLB hc) fun xs H Q zz=>by
 obtain⟨F,ds,q,z,R,hq,k⟩:=zz
 unfold dAll at hq
 split at hq
 ·obtain⟨bs,e1,hq⟩:=bnd hq
  cases hq
  cases R with
  | cons R1 R2=>
   cases R2
   cases R1 with
   | @lst a vs _ h1 r1=>
    rw [zHx r1 e1]at h1
    exact⟨a,bs,rfl,h1.sq,k F H _ (Ext.refl F H) (.bl _)⟩
 ·cases hq
theorem zHy(hc:X.calm=true):zAF X (.builtin "any") (rDA X.K dAny):=zB4 (zLC hc) fun xs H Q zz=>by
 obtain⟨F,ds,q,z,R,hq,k⟩:=zz
 unfold dAny at hq
 split at hq
 ·obtain⟨bs,e1,hq⟩:=bnd hq
  cases hq
  cases R with
  | cons R1 R2=>
   cases R2
   cases R1 with
   | @lst a vs _ h1 r1=>
    rw [zHx r1 e1]at h1
    exact⟨a,bs,rfl,h1.sq,k F H _ (Ext.refl F H) (.bl _)⟩
 ·cases hq
theorem boot_all:bootBuiltins "all"=some (.builtin "all"):=by decide +kernel
theorem boot_any:bootBuiltins "any"=some (.builtin "any"):=by decide +kernel
end
open AutoSeq1 (wpAny_loadPart')
theorem zMu(l:Addr)(items:Array Value)(n:Nat)(b:Addr)(items2:Array Value)(n2:Nat)(dd:Option Addr)(sl:Array (Option Value))(hc0:(!items.isEmpty && Builtin.List.listTooLong (items.size+items2.size))=false)(hc1:items.size<=sizeLine)(hs2:items.size+items2.size<=sizeLine+1):
  Meets (Builtin.«list.extend» ⟨[.ref l,.ref b],[]⟩) (fun _ R s=>s.heap.get? l=some { cls:=.type "list",dict:=none,data:=.seq items n,slots:=#[] }/\s.heap.get? b=some { cls:=.type "list",dict:=dd,data:=.seq items2 n2,slots:=sl }/\R (.ok (.ret Value.none)) { s with heap:=s.heap.update l (Obj.mapSeq fun x=>x++items2),toks:=s.toks }):=
 .of_wp fun prog w A R s h=>by
  obtain⟨hp,g,d,tk,os⟩:=s
  obtain⟨hl,hb,h⟩:=h
  have f1:=AutoSeq1.idx_int
  have f2:=AutoSeq1.sub_tuple_tuple
  have f3:=AutoSeq1.sub_list_list
  have f4:=AutoSeq1.sub_tuple_list
  have f5:=AutoSeq1.sub_list_tuple
  have hz':(items++items2).size<=sizeLine+1:=by rw [Array.size_append];exact hs2
  wp_walk using(wpAny_updateSeq hl rfl (hz:=hc1) (_hz':=hz')),wpAny_loadPart' hl,wpAny_loadPart' hb
  exact⟨_,rfl,h⟩
section
variable {X:Cx}
theorem zNK:MtM X "list.extend" (fun x vs H Q=>∃ l b xs zs,x=.ref l/\vs=[.ref b]/\H l=some (.lst xs)/\SqL X.K H b zs/\xs.length+zs.length<=1000/\Q .non (upd H l (.lst (xs++zs)))):=by
 intro pins s σ H x vs v us Q I rx rv h
 obtain⟨l,b,xs,zs,rfl,rfl,hH,hB,hz,q⟩:=h
 cases rx
 obtain⟨u,rfl,ru⟩:=rv.one
 cases ru
 obtain⟨z,its,n,r,hl,e⟩:=I.lstM hH
 obtain⟨its2,r2,⟨⟨c2,dd,dt,sl⟩,n2,e2,hc2,hd2,hs2⟩,_⟩:=I.list hB
 simp only at hc2 hd2 hs2
 subst hc2 hd2 hs2
 have l1:=r.length
 have l2:=r2.length
 have hsz:its.toArray.size+its2.toArray.size<=sizeLine:=by rw [Qw,Qw];exact zAY (by lia)
 refine call_meets F.slot_list_extend ⟨_,e,rfl⟩ F.entry_list_extend (F.args_list_extend_2 _ _)
  (zMu l its.toArray n b its2.toArray n2 _ _ (by rw [zOi hsz,Bool.and_false]) (by lia) (by lia)) ⟨e,e2,?_⟩
 refine⟨.non,_,I.lset (its':=its++its2) hH e (by simp) (r.append r2) ?_,rfl,q⟩
 rw [Qp]
 exact zAY (by lia)
def sExt(i:Nat)(g:Rho->Option D):Rho->Option Out:=fun ρ=>match ρ[i]? with
 | some (.own ds)=>(g ρ).bind fun d=>match d with
  | .list es=>if ds.length+es.length<=1000 then some (.nx (ρ.set i (.own (ds++es))))else none
  | _=>none
 | _=>none
variable {e:Expr}{p pos:Pos}{ga:Rho->Option D}
theorem zFx{i:Nat}{x:Str}{apos pos':Pos}(ha:DE X e ga)(hN:X.N[i]?=some x:=by rfl)(hv:Vis X.env.scope x:=by first | exact Or.inl rfl | exact Or.inr (Or.inl rfl) | exact Or.inr (Or.inr rfl))(hd:(x == ("__debug__":Str))=false:=by decide)
  (hcd:(x == ("__classdict__":Str))=false:=by decide) (hse:starEach [e] X.env=(false,eval e X.env)::starEach [] X.env:=by rfl)
  (hbase:attributeBase (.Name x p) "extend" X.env (eval (.Name x p) X.env)=eval (.Name x p) X.env:=by rfl)
  (hfew:((backTo pos' (starEach [e] X.env)).all (fun x => !x.1) && (backToKw pos' (keywordEach [] X.env)).all (fun x=>x.1.isSome)
   && decide ([e].length+([]:List Keyword).length+(if([]:List Keyword).isEmpty then 0 else 1)<30))=true:=by rfl)
  (hline:(apos.endLine == pos'.line)=true:=by rfl) (hplain:(backTo pos' (starEach [] X.env)).any (·.1)=false:=by rfl) (hsw:swapsWith (.Call (.Attribute (.Name x p) "extend" apos) [e] [] pos') none pos.line X.env=pure false:=by rfl):
  DS X (.Expr (.Call (.Attribute (.Name x p) "extend" apos) [e] [] pos') pos) (sExt i ga):=
 DL.ps_mono (zGB (zJQ PySem.F.plainAttrs_list PySem.F.slot_list_extend PySem.F.type_list_extend zNK (zGx hN hv hd hcd) (zDU ha zEL hse) hbase hfew hline hse hplain) hsw) fun W σ H zz=>by
 obtain⟨F₀,H₀,F,ρ,o,E,S,q,k⟩:=zz
 unfold sExt at q
 split at q
 ·rename_i ds e0
  obtain⟨d,e1,q⟩:=bnd q
  split at q
  ·rename_i es
   by_cases hl:ds.length+es.length<=1000
   ·rw [if_pos hl]at q
    cases q
    obtain⟨l,vs,q1,q2,q3,q4,q5⟩:=S.own e0
    refine⟨_,q1,.inl ⟨rfl,_,SqL.of q2⟩,F,H₀,ρ,_,S,e1,fun F' H' v E' R'=>?_⟩
    have S':=S.ext E'
    obtain⟨l',vs',g1,g2,g3,g4,g5⟩:=S'.own e0
    rw [q1]at g1;cases g1
    cases R' with
    | @lst b us _ h1 r1=>
     refine⟨l,b,vs',us,rfl,rfl,g2,h1.sq,by rw [<- g5.length,<- r1.length];exact hl,?_⟩
     obtain⟨S2,T⟩:=S'.turn e0 q1 g2 g3 (g5.append r1)
     exact k F' _ σ ((E.trans E').turn q4) (E'.stay.trans T) S2
   ·rw [if_neg hl]at q;cases q
  ·cases q
 ·cases q
theorem zL4{x:Str}{i:Int}(hg:Gl X x)(hm:∃ t,X.mg x=some (.int i t))(hd:(x == ("__debug__":Str))=false:=by decide):DE X (.Name x pos) (eC (.int i)):=by
 obtain⟨t,h⟩:=hm
 exact zL3 hg h hd
end
def zGz:Expr->Bool
 | .Starred ..=>false
 | _=>true
theorem zP2(e:Expr)(es:List Expr)(env:Env)(h:zGz e=true):starEach (e::es) env=(false,eval e env)::starEach es env:=by
 cases e <;> first | rfl | cases h
theorem zLZ{X:Cx}{e:Expr}{es:List Expr}{ga:Rho->Option D}{gr:Rho->Option (List D)}(ha:DE X e ga)(hr:DA X es gr)(h:zGz e=true:=by rfl):DA X (e::es) (zAc ga gr):=zLY ha hr (zP2 e es X.env h)
end SL
namespace ST
open PySem PySem.SetTable PyProof.Rows
structure TOkD(t:SetTable)(hs:List Int):Prop where
 good:Good t.mask
 len:t.place.toList.length=hs.length
 up:Up t.place.toList
 dup:Up t.dummies.toList
 apart:∀ x∈t.dummies.toList,x∉t.place.toList
 room:(t.place.toList.length+t.dummies.toList.length) * 5<t.mask * 3
 reach:∀ q∈t.place.toList.zip hs,∃ n,(P t.mask q.2 n).j=q.1/\∀ m,m<n->(P t.mask q.2 m).j∈t.place.toList++t.dummies.toList
theorem TOk.toD{t:SetTable}{hs:List Int}(T:TOk t hs):TOkD t hs:=by
 refine⟨T.good,T.len,T.up,?_,?_,?_,fun q hq=>?_⟩
 ·rw [T.dum];exact List.Pairwise.nil
 ·rw [T.dum];intro x hx;simp at hx
 ·rw [T.dum];exact T.room
 ·obtain⟨n,e,a⟩:=T.reach q hq
  exact⟨n,e,fun m hm=>QO _ (a m hm)⟩
theorem zF9{xs:Array Nat}(s:Up xs.toList)(j:Nat):has xs j=true ↔ j∈xs.toList:=by
 obtain⟨h1,h2,h3⟩:=zCR xs s j
 unfold has
 constructor
 ·intro h
  have:=QW h
  rw [<- QD]at this
  exact QP this
 ·intro hj
  obtain⟨i,hi⟩:=QQ hj
  have hl:=(Qf.mp hi).1
  have e:i=below xs j:=by
   by_cases a:i<below xs j
   ·have:=h2 i j hi a;lia
   ·by_cases b:i=below xs j
    ·exact b
    ·have hb:below xs j<xs.toList.length:=by lia
     have hv:=Qg hb
     have:=s.at hv hi (by lia)
     have:=h3 _ _ hv (Qh _)
     lia
  rw [<- e,<- QD,hi]
  simp
theorem zE0{t:SetTable}{hs:List Int}(T:TOkD t hs)(j:Nat):(∃ i,t.slot j=.live i/\t.place.toList[i]?=some j) ∨ (t.slot j=.dummy/\j∉t.place.toList/\j∈t.dummies.toList) ∨ (t.slot j=.empty/\j∉t.place.toList++t.dummies.toList):=by
 unfold slot
 dsimp only
 by_cases c:(t.place[below t.place j]? == some j)=true
 ·rw [if_pos c]
  exact .inl ⟨_,rfl,by rw [QD];exact QW c⟩
 ·rw [if_neg c]
  have hn:j∉t.place.toList:=fun hj=>c ((zF9 T.up j).mpr hj)
  by_cases d:has t.dummies j=true
  ·rw [if_pos d]
   exact .inr (.inl ⟨rfl,hn,(zF9 T.dup j).mp d⟩)
  ·rw [if_neg d]
   exact .inr (.inr ⟨rfl,fun h=>(QC.mp h).elim hn fun h=>d ((zF9 T.dup j).mpr h)⟩)
theorem zKz{t:SetTable}{hs:List Int}(T:TOkD t hs){j i:Nat}(h:t.slot j=.live i):t.place.toList[i]?=some j:=by
 rcases zE0 T j with⟨i',h1,h2⟩ | ⟨h1,_⟩ | ⟨h1,_⟩
 ·rw [h]at h1;cases h1;exact h2
 ·rw [h]at h1;cases h1
 ·rw [h]at h1;cases h1
theorem TOkD.fits{t:SetTable}{hs:List Int}(T:TOkD t hs){n:Nat}(e:hs.length=n):t.fits n=true:=by
 have h1:=T.len
 have h2:=T.room
 rw [Qo]at h1 h2
 rw [Qo]at h2
 unfold SetTable.fits SetTable.fill
 rw [h1,e]
 rw [h1]at h2
 simp only [QH,beq_iff_eq,decide_eq_true_eq]
 refine⟨?_,?_⟩
 ·trivial
 ·show n+t.dummies.size<=t.mask
  lia
theorem TOkD.odd{t:SetTable}{hs:List Int}(T:TOkD t hs):t.gaveWay=false:=by
 unfold SetTable.gaveWay
 rcases T.good with h | h | h | h | h | h <;> rw [h] <;> rfl
def Pd(M:Nat)(h:Int)(n:Nat)(d:Option Nat):Probe:={ P M h n with dummy:=d }
theorem adv_d(M:Nat)(p:Probe)(d:Option Nat):adv M { p with dummy:=d }={ adv M p with dummy:=d }:=by
 unfold adv
 dsimp only
 split <;> rfl
theorem zHn(M:Nat)(h:Int)(n:Nat)(d:Option Nat):adv M (Pd M h n d)=Pd M h (n+1) d:=adv_d M (P M h n) d
section
variable {t:SetTable}{hs:List Int}{hashAt:Nat->Int}{h:Int}{n:Nat}
theorem zML(fuel c:Nat)(d:Option Nat):probe.go t hashAt h (fuel+1) (Pd t.mask h c d)=match t.slot (P t.mask h c).j with
  | .empty=>some (.empty (P t.mask h c).j d)
  | .dummy=>probe.go t hashAt h fuel (Pd t.mask h (c+1) (some (P t.mask h c).j))
  | .live i=>if(hashAt i == h)=true then some (.candidate (P t.mask h c).j i (Pd t.mask h (c+1) d))else probe.go t hashAt h fuel (Pd t.mask h (c+1) d):=by
 conv=>lhs;unfold probe.go
 rw [<- zHn t.mask h c d,<- zHn t.mask h c (some (P t.mask h c).j)]
 rfl
theorem zF6(T:TOkD t hs)(h1:(P t.mask h n).j∉t.place.toList++t.dummies.toList)(h2:∀ m,m<n->(P t.mask h m).j∈t.place.toList++t.dummies.toList):∀ fuel c d,c<=n->n-c<fuel->
  (∃ d',probe.go t hashAt h fuel (Pd t.mask h c d)=some (.empty (P t.mask h n).j d')/\∀ m,c<=m->m<n->∀ i,t.slot (P t.mask h m).j=.live i->hashAt i≠h)
  ∨ ∃ m i d',c<=m/\m<n/\t.slot (P t.mask h m).j=.live i/\hashAt i=h/\(∀ m',c<=m'->m'<m->∀ i,t.slot (P t.mask h m').j=.live i->hashAt i≠h)/\probe.go t hashAt h fuel (Pd t.mask h c d)=some (.candidate (P t.mask h m).j i (Pd t.mask h (m+1) d'))
 | 0,c,d,_,hf=>absurd hf (Yt _)
 | fuel+1,c,d,hc,hf=>by
  rw [zML]
  by_cases e:c=n
  ·subst e
   rcases zE0 T (P t.mask h c).j with⟨i,q1,q2⟩ | ⟨q1,q2,q3⟩ | ⟨q1,_⟩
   ·exact absurd (QO _ (QP q2)) h1
   ·exact absurd (Qx _ q3) h1
   ·rw [q1]
    exact .inl ⟨d,rfl,fun m a b=>by lia⟩
  ·rcases zE0 T (P t.mask h c).j with⟨i,q1,q2⟩ | ⟨q1,q2,q3⟩ | ⟨_,q2⟩
   ·rw [q1]
    dsimp only
    by_cases k:(hashAt i == h)=true
    ·rw [if_pos k]
     exact .inr ⟨c,i,d,Qh _,by lia,q1,QW k,fun m' a b=>by lia,rfl⟩
    ·rw [if_neg k]
     have hk:hashAt i≠h:=fun e=>k (by rw [e];simp)
     rcases zF6 T h1 h2 fuel (c+1) d (by lia) (by lia)with⟨d',a,b⟩ | ⟨m,i',d',a1,a2,a3,a4,a5,a6⟩
     ·refine .inl ⟨d',a,fun m hm1 hm2 i2 hi2=>?_⟩
      by_cases e2:m=c
      ·subst e2;rw [q1]at hi2;cases hi2;exact hk
      ·exact b m (by lia) hm2 i2 hi2
     ·refine .inr ⟨m,i',d',by lia,a2,a3,a4,fun m' hm1 hm2 i2 hi2=>?_,a6⟩
      by_cases e2:m'=c
      ·subst e2;rw [q1]at hi2;cases hi2;exact hk
      ·exact a5 m' (by lia) hm2 i2 hi2
   ·rw [q1]
    dsimp only
    rcases zF6 T h1 h2 fuel (c+1) (some (P t.mask h c).j) (by lia) (by lia)with⟨d',a,b⟩ | ⟨m,i',d',a1,a2,a3,a4,a5,a6⟩
    ·refine .inl ⟨d',a,fun m hm1 hm2 i2 hi2=>?_⟩
     by_cases e2:m=c
     ·subst e2;rw [q1]at hi2;cases hi2
     ·exact b m (by lia) hm2 i2 hi2
    ·refine .inr ⟨m,i',d',by lia,a2,a3,a4,fun m' hm1 hm2 i2 hi2=>?_,a6⟩
     by_cases e2:m'=c
     ·subst e2;rw [q1]at hi2;cases hi2
     ·exact a5 m' (by lia) hm2 i2 hi2
   ·exact absurd (h2 c (by lia)) q2
theorem metD(T:TOkD t hs)(h1:(P t.mask h n).j∉t.place.toList++t.dummies.toList){i j:Nat}(hj:t.place.toList[i]?=some j)(hh:hs[i]?=some h):∃ m,m<n/\(P t.mask h m).j=j:=by
 have hq:(j,h)∈t.place.toList.zip hs:=QP (i:=i) (by rw [Yx];exact⟨hj,hh⟩)
 obtain⟨m,e,a⟩:=T.reach _ hq
 refine⟨m,Yo fun c=>h1 ?_,e⟩
 by_cases d:n=m
 ·subst d;rw [e];exact QO _ (QP hj)
 ·exact a n (by lia)
end
section
variable {prog:Program}{w:World}{A:Around}{E:Value->Shared->Prop}{s:Shared}
theorem zH9{a x:Addr}{o:Obj}{es:Array (Int × Value)}{ep:Nat}{t:SetTable}{ks:List (List Int)}{k:List Int}{n:Nat}{Q:SetFound->Shared->Prop}
  (hu:A.units<cLine) (ho:s.heap.get? a=some o) (hd:o.data=.set es ep t) (T:TOkD t (es.toList.map (·.1))) (X:Ents prog w s.heap es.toList ks) (hk:TK prog w s.heap k x)
  (h1:(P t.mask (TH prog w k) n).j∉t.place.toList++t.dummies.toList) (h2:∀ m,m<n->(P t.mask (TH prog w k) m).j∈t.place.toList++t.dummies.toList)
  (q1:∀ i,ks[i]?=some k->Q (.there (some i)) s) (q2:k∉ks->∀ j b,Q (.free j b) s):
  ∀ fuel c d,c<=n->n<10 * turns t.mask->n-c<fuel->(∀ m,m<c->∀ i,t.slot (P t.mask (TH prog w k) m).j=.live i->ks[i]?≠some k)->∀ stand:Option Probe,stand.getD (t.probeStart (TH prog w k))=Pd t.mask (TH prog w k) c d->
  wpAny (model prog w) A (setSearchFrom a (.ref x) (TH prog w k) false fuel stand) Q E s
 | 0,c,d,_,_,hf,_,_,_=>absurd hf (Yt _)
 | fuel+1,c,d,hc,hN,hf,inv,stand,hst=>by
  have hfit:t.fits es.size=true:=T.fits (by simp)
  unfold setSearchFrom
  refine Qa (QK ho hd hfit ?_)
  dsimp only
  rw [hst,if_neg (by rw [T.odd];exact Qu)]
  refine Qa (Qb ?_)
  generalize hg:t.probe _ (TH prog w k) (Pd t.mask (TH prog w k) c d)=met
  obtain⟨f,hfe,hg⟩:∃ f:Nat->Int,(∀ i,f i=(es[i]?.map (·.1)).getD 0)/\t.probe f (TH prog w k) (Pd t.mask (TH prog w k) c d)=met:=⟨_,fun _=>rfl,hg⟩
  have key:∀ m i,t.slot (P t.mask (TH prog w k) m).j=.live i->f i≠TH prog w k->ks[i]?≠some k:=fun m i hi hne hki=>by
   have hp:=zKz T hi
   have hl:i<es.toList.length:=by
    have:=(Qf.mp hp).1
    rw [T.len]at this
    simpa using this
   obtain⟨k',b,e1,e2,e3⟩:=X.at (Qg hl)
   rw [hki]at e1
   cases e1
   apply hne
   rw [hfe,<- QD,Qg hl,e2]
   rfl
  have hgo:=zF6 (hashAt:=f) T h1 h2 (10 * turns t.mask) c d hc (by lia)
  rcases hgo with⟨d',g1,g2⟩ | ⟨m,i,d',g1,g2,g3,g4,g5,g6⟩
  ·have:met=some (.empty (P t.mask (TH prog w k) n).j d'):=hg.symm.trans g1
   subst this
   have nin:k∉ks:=fun hmem=>by
    obtain⟨i,hi⟩:=QQ hmem
    have hl:i<es.toList.length:=by rw [X.length];exact(Qf.mp hi).1
    obtain⟨k',b,e1,e2,e3⟩:=X.at (Qg hl)
    rw [hi]at e1
    cases e1
    have hpl:i<t.place.toList.length:=by rw [T.len];simpa using hl
    obtain⟨m,hm,hj⟩:=metD T h1 (Qg hpl) (h:=TH prog w k) (by rw [QM,Qg hl,e2];rfl)
    rcases zE0 T (P t.mask (TH prog w k) m).j with⟨i',hs1,hs2⟩ | ⟨_,hs2,_⟩ | ⟨_,hs2⟩
    ·have hii:i'=i:=by
      rw [hj]at hs2
      have a1:=Qg hpl
      by_cases l1:i'<i
      ·have:=T.up.at hs2 a1 l1;lia
      ·by_cases l2:i<i'
       ·have:=T.up.at a1 hs2 l2;lia
       ·lia
     subst hii
     by_cases cm:m<c
     ·exact inv m cm i' hs1 hi
     ·exact key m i' hs1 (g2 m (by lia) hm i' hs1) hi
    ·rw [hj]at hs2
     exact hs2 (YD _)
    ·rw [hj]at hs2
     exact hs2 (QO _ (YD _))
   dsimp only
   cases d' with
   | none=>exact Qb (q2 nin _ _)
   | some dd=>
    dsimp only
    rw [if_neg (by simp)]
    exact Qb (q2 nin _ _)
  ·have:met=some (.candidate (P t.mask (TH prog w k) m).j i (Pd t.mask (TH prog w k) (m+1) d')):=hg.symm.trans g6
   subst this
   have hp:=zKz T g3
   have hl:i<es.toList.length:=by
    have:=(Qf.mp hp).1
    rw [T.len]at this
    simpa using this
   obtain⟨k',b,e1,e2,e3⟩:=X.at (Qg hl)
   have hei:es[i]?=some (TH prog w k',.ref b):=by rw [<- QD,Qg hl,e2]
   dsimp only
   have hseen:∀ y∈(es.filter (fun x=>x.1 == TH prog w k)).toList.map (fun x=>x.2),∃ k' b,y=.ref b/\TK prog w s.heap k' b:=fun y hy=>by
    obtain⟨e,he,rfl⟩:=QJ.mp hy
    have he':e∈es.toList:=by
     rw [Array.toList_filter]at he
     exact(QB.mp he).1
    obtain⟨i2,hi2⟩:=QQ he'
    obtain⟨k2,b2,_,z2,z3⟩:=X.at hi2
    exact⟨k2,b2,by rw [z2],z3⟩
   split
   all_goals try (refine Qa (zJD hk hseen ?_);rw [if_neg Qu])
   all_goals
    rw [hei]
    dsimp only
    refine Qa (Yf (wpAny_eqBool_tuple hu e3 hk ?_))
    refine Qa (QK ho hd hfit ?_)
    dsimp only
    rw [if_neg (by simp),show t.sameMemory t.moves t.mask=some true by unfold sameMemory;simp]
    dsimp only
    rw [if_pos rfl,g3]
    dsimp only
    rw [hei]
    dsimp only
    refine Qa (wpAny_isSame_ref_self ?_)
    simp only [if_true]
    refine Qa (Qb ?_)
    dsimp only
    by_cases hkk:k'=k
    ·rw [if_pos (by simp [hkk])]
     exact Qb (q1 i (hkk ▸ e1))
    ·rw [if_neg (by simp [hkk])]
     refine zH9 hu ho hd T X hk h1 h2 q1 q2 fuel (m+1) d' (by lia) hN (by lia) (fun m' hm' i' hi'=>?_) _ rfl
     by_cases l1:m'<c
     ·exact inv m' l1 i' hi'
     ·by_cases l2:m'=m
      ·subst l2
       rw [g3]at hi'
       cases hi'
       rw [e1]
       exact fun e=>hkk (QF e)
      ·exact key m' i' hi' (g5 m' (by lia) (by lia) i' hi')
theorem zIa{a x:Addr}{o:Obj}{es:Array (Int × Value)}{ep:Nat}{t:SetTable}{ks:List (List Int)}{k:List Int}{Q:Option Nat->Shared->Prop}
  (hu:A.units<cLine) (ho:s.heap.get? a=some o) (hd:o.data=.set es ep t) (T:TOkD t (es.toList.map (·.1))) (X:Ents prog w s.heap es.toList ks) (hk:TK prog w s.heap k x)
  (q1:∀ i,ks[i]?=some k->Q (some i) s) (q2:k∉ks->Q none s):wpAny (model prog w) A (setFind a (.ref x) (TH prog w k)) Q E s:=by
 have hfit:t.fits es.size=true:=T.fits (by simp)
 have hroom:=T.room
 obtain⟨n,n1,n2,n3⟩:=zIh (l:=t.place.toList++t.dummies.toList) T.good (by rw [Qp];lia) (TH prog w k)
 have hM:t.mask<=255:=by rcases T.good with g | g | g | g | g | g <;> lia
 unfold setFind setFindIn
 refine Qa (QK ho hd hfit ?_)
 dsimp only
 rw [if_neg (by simp [byScan,Value.scannable])]
 refine Qa ?_
 unfold setSearch
 refine zH9 hu ho hd T X hk n2 n3 ?_ ?_ 100000 0 none (QZ _) n1 (by unfold turns at n1;lia) (fun m hm=>absurd hm (Yt _)) none ?_
 ·intro i hi
  exact Qb (q1 i hi)
 ·intro hn j b
  exact Qb (q2 hn)
 ·show P t.mask (TH prog w k) 0=_
  rfl
end
end ST
namespace ST
open PySem PySem.SetTable PyProof.Rows
theorem zDF{α:Type}(xs:Array α)(p:Nat):(eraseAt xs p).toList=xs.toList.take p++xs.toList.drop (p+1):=by
 unfold eraseAt
 rw [Array.toList_append,Array.toList_extract,Array.toList_extract]
 simp only [List.extract_eq_take_drop,Nat.sub_zero,List.drop_zero]
 congr 1
 exact Jp (by rw [Yp,Qo];lia)
theorem zJn{l:List Nat}(s:Up l){i j:Nat}(hi:l[i]?=some j)(x:Nat):x∈l.take i++l.drop (i+1) ↔ x∈l/\x≠j:=by
 have hl:=(Qf.mp hi).1
 have e:l=l.take i++j::l.drop (i+1):=by
  have:l[i]=j:=by rw [Qg hl]at hi;exact QF hi
  rw [<- this,<- Yw hl,Q3]
 have nd:(l.take i++j::l.drop (i+1)).Nodup:=by rw [<- e];exact s.nodup
 constructor
 ·intro hx
  refine⟨?_,fun q=>?_⟩
  ·rw [e]
   rcases QC.mp hx with h | h
   ·exact QO _ h
   ·exact Qx _ (Qd _ h)
  ·subst q
   have:=(List.perm_middle.nodup_iff.mp nd)
   exact(Yl.mp this).1 hx
 ·rintro⟨hx,hne⟩
  rw [e]at hx
  rcases QC.mp hx with h | h
  ·exact QO _ h
  ·rcases Qi.mp h with h | h
   ·exact absurd h hne
   ·exact Qx _ h
theorem zQs{xs:Array Nat}(s:Up xs.toList){j:Nat}(hj:j∉xs.toList):Up (insertAt xs (below xs j) j).toList:=by
 obtain⟨b1,b2,b3⟩:=zCR xs s j
 rw [zBV]
 unfold Up
 rw [Jc]
 have hlt:∀ x∈xs.toList.take (below xs j),x<j:=fun x hx=>by
  obtain⟨i,hi⟩:=QQ hx
  rw [List.getElem?_take]at hi
  split at hi
  ·rename_i q;exact b2 i x hi q
  ·cases hi
 have hgt:∀ x∈xs.toList.drop (below xs j),j<x:=fun x hx=>by
  obtain⟨i,hi⟩:=QQ hx
  rw [List.getElem?_drop]at hi
  have:=b3 _ x hi (by lia)
  have hne:x≠j:=fun e=>hj (e ▸ QP hi)
  lia
 refine⟨s.sublist (List.take_sublist _ _),Yc.mpr ⟨hgt,s.sublist (List.drop_sublist _ _)⟩,fun a ha b hb=>?_⟩
 rcases Qi.mp hb with rfl | hb
 ·exact hlt a ha
 ·exact YZ (hlt a ha) (hgt b hb)
theorem zJo{xs:Array Nat}{p j x:Nat}:x∈(insertAt xs p j).toList ↔ x=j ∨ x∈xs.toList:=by
 rw [zBV,QC,Qi]
 conv=>rhs;rw [<- Q3 p xs.toList,QC]
 constructor
 ·rintro(a | a | a)
  ·exact .inr (.inl a)
  ·exact .inl a
  ·exact .inr (.inr a)
 ·rintro(a | a | a)
  ·exact .inr (.inl a)
  ·exact .inl a
  ·exact .inr (.inr a)
theorem zQx{α β:Type}{l:List α}{m:List β}{i:Nat}(hlm:l.length=m.length){q:α × β}(h:q∈(l.take i++l.drop (i+1)).zip (m.take i++m.drop (i+1))):q∈l.zip m:=by
 rw [List.zip_append (by rw [QV,QV,hlm]),QC]at h
 rcases h with h | h
 ·obtain⟨n,hn⟩:=QQ h
  rw [Yx,List.getElem?_take,List.getElem?_take]at hn
  split at hn
  ·exact QP (i:=n) (by rw [Yx];exact hn)
  ·cases hn.1
 ·obtain⟨n,hn⟩:=QQ h
  rw [Yx,List.getElem?_drop,List.getElem?_drop]at hn
  exact QP (i:=i+1+n) (by rw [Yx];exact hn)
theorem zMl{t:SetTable}{hs:List Int}{i:Nat}(T:TOkD t hs)(hi:i<hs.length):TOkD (t.drop i) (hs.take i++hs.drop (i+1))/\(t.drop i).plain=t.plain/\(t.drop i).led=t.led:=by
 have hl:i<t.place.toList.length:=by rw [T.len];exact hi
 obtain⟨j,hj⟩:∃ j,t.place.toList[i]?=some j:=⟨_,Qg hl⟩
 have hj':t.place[i]?=some j:=by rw [<- QD];exact hj
 have jp:j∈t.place.toList:=QP hj
 have jd:j∉t.dummies.toList:=fun h=>T.apart j h jp
 have e:t.drop i={ t with place:=eraseAt t.place i,dummies:=insertAt t.dummies (below t.dummies j) j }:=by
  unfold SetTable.drop
  rw [hj']
 rw [e]
 have hp:(eraseAt t.place i).toList=t.place.toList.take i++t.place.toList.drop (i+1):=zDF _ _
 have lp:(eraseAt t.place i).toList.length+1=t.place.toList.length:=by
  rw [hp,Qp,QV,Yp]
  lia
 have ld:(insertAt t.dummies (below t.dummies j) j).toList.length=t.dummies.toList.length+1:=by
  rw [(Y0 _ _ _).length_eq]
  simp
 have occ:∀ x,x∈(eraseAt t.place i).toList++(insertAt t.dummies (below t.dummies j) j).toList ↔ x∈t.place.toList++t.dummies.toList:=fun x=>by
  rw [QC,QC,hp,zJn T.up hj,zJo]
  constructor
  ·rintro(⟨a,_⟩ | a | a)
   ·exact .inl a
   ·exact .inl (a ▸ jp)
   ·exact .inr a
  ·rintro(a | a)
   ·by_cases c:x=j
    ·exact .inr (.inl c)
    ·exact .inl ⟨a,c⟩
   ·exact .inr (.inr a)
 refine⟨⟨T.good,?_,?_,zQs T.dup jd,fun x hx=>?_,?_,fun q hq=>?_⟩,rfl,rfl⟩
 ·show(eraseAt t.place i).toList.length=_
  rw [hp,Qp,Qp,QV,Yp,QV,Yp,T.len]
 ·show Up (eraseAt t.place i).toList
  rw [hp]
  refine T.up.sublist ?_
  have:(t.place.toList.take i++t.place.toList.drop (i+1)).Sublist (t.place.toList.take i++t.place.toList.drop i):=List.Sublist.append (List.Sublist.refl _) (by
   rw [Yw hl];exact List.sublist_cons_self _ _)
  rwa [Q3]at this
 ·show x∉(eraseAt t.place i).toList
  rw [hp,zJn T.up hj]
  rintro⟨a,b⟩
  rcases zJo.mp hx with c | c
  ·exact b c
  ·exact T.apart x c a
 ·show((eraseAt t.place i).toList.length+(insertAt t.dummies (below t.dummies j) j).toList.length) * 5<t.mask * 3
  have:=T.room
  rw [ld]
  lia
 ·have hq':q∈(eraseAt t.place i).toList.zip (hs.take i++hs.drop (i+1)):=hq
  rw [hp]at hq'
  obtain⟨n,e1,a⟩:=T.reach q (zQx T.len hq')
  exact⟨n,e1,fun m hm=>(occ _).mpr (a m hm)⟩
def SetD(prog:Program)(w:World)(V:Value->Prop)(h:Heap)(a:Addr)(ks:List (List Int)):Prop:=
 ∃ o es ep t,h.get? a=some o/\o.ExactSet/\o.data=.set es ep t/\TOkD t (es.toList.map (·.1))/\(t.plain=true/\t.led=ledW w)/\Ents prog w h es.toList ks/\ks.Nodup/\∀ e∈es.toList,V e.2
theorem SetT.toD{prog:Program}{w:World}{V:Value->Prop}{h:Heap}{a:Addr}{ks:List (List Int)}(S:SetT prog w V h a ks):SetD prog w V h a ks:=by
 obtain⟨o,es,ep,t,z1,z2,z3,z4,z5,z6,z7,z8⟩:=S
 exact⟨o,es,ep,t,z1,z2,z3,z4.toD,z5,z6,z7,z8⟩
section
variable {prog:Program}{w:World}{A:Around}{E:Value->Shared->Prop}{s:Shared}{V:Value->Prop}
theorem zHJ{α:Type}{l:List α}{i:Nat}{x:α}(h:l[i]?=some x):List.Perm l (x::(l.take i++l.drop (i+1))):=by
 have hl:=(Qf.mp h).1
 have:l[i]=x:=by rw [Qg hl]at h;exact QF h
 have e:l=l.take i++x::l.drop (i+1):=by rw [<- this,<- Yw hl,Q3]
 exact(List.Perm.of_eq e).trans List.perm_middle
theorem zMi{a x:Addr}{ks:List (List Int)}{k:List Int}{Q:Bool->Shared->Prop}(hu:A.units<cLine)(S:SetD prog w V s.heap a ks)(hk:TK prog w s.heap k x)
  (q1:k∉ks->Q false s) (q2:∀ h' ks',Heap.SameBut a s.heap h'->SetD prog w V h' a ks'->List.Perm ks (k::ks')->Q true { s with heap:=h' }) (hsz:ks.length<=1000):
  wpAny (model prog w) A (setDiscardHashed a (.ref x) (TH prog w k)) Q E s:=by
 obtain⟨o,es,ep,t,ho,hex,hd,T,hp,X,hnd,hV⟩:=S
 have hfit:t.fits es.size=true:=T.fits (by simp)
 unfold setDiscardHashed
 refine Qa (zIa hu ho hd T X hk (fun i hi=>?_) fun hn=>Qb (q1 hn))
 dsimp only
 have hik:i<ks.length:=(Qf.mp hi).1
 have hie:i<es.toList.length:=by rw [X.length];exact hik
 refine Qa (QK ho hd hfit ?_)
 dsimp only
 have hes:es.size=ks.length:=by rw [<- X.length,Qo]
 have hle:(eraseAt es i).size<=es.size:=by
  rw [<- Qo,zDF,Qp,QV,Yp,Qo]
  lia
 refine Qa (Jd ho hd ?_ (by rw [Yq];lia))
 have hg:(s.heap.update a (Obj.putSet (eraseAt es i) (t.drop i))).get? a=some { o with data:=.set (eraseAt es i) (ep+1) (t.drop i) }:=by
  have:=Ye (Obj.putSet (eraseAt es i) (t.drop i)) ho (by rw [Ji _ _ hd];rfl)
  rw [Ji _ _ hd]at this;exact this
 have hsb:=QY s.heap a (Obj.putSet (eraseAt es i) (t.drop i))
 obtain⟨T2,p1,p2⟩:=zMl (i:=i) T (by rw [Qj];exact hie)
 refine Qa (wpAny_point (Qb (q2 _ (ks.take i++ks.drop (i+1)) hsb ⟨_,_,_,_,hg,hex,rfl,?_,⟨by rw [p1];exact hp.1,by rw [p2];exact hp.2⟩,?_,?_,fun e he=>?_⟩ (zHJ hi))))
 ·rw [zDF,Yh,List.map_take,List.map_drop]
  exact T2
 ·rw [zDF]
  exact((X.take i).append (X.drop (i+1))).mono fun k b=>TK.keep ho hd hsb
 ·exact(Yl.mp ((zHJ hi).nodup_iff.mp hnd)).2
 ·rw [zDF]at he
  rcases QC.mp he with he | he
  ·exact hV e (Jx he)
  ·exact hV e (List.mem_of_mem_drop he)
end
end ST
namespace ST
open PySem PySem.SetTable PyProof.Rows
section
variable {prog:Program}{w:World}{A:Around}{E:Value->Shared->Prop}{s:Shared}{V:Value->Prop}
abbrev zDG(w:World):Obj:={ cls:=.type "set",dict:=none,data:=.set #[] 0 (.fresh 0 0 (ledW w)) }
theorem zJy{Q:Value->Shared->Prop}(h:Q (.ref s.heap.objs.size) { s with heap:=s.heap.push (zDG w) }):wpAny (model prog w) A (newSet (.type "set")) Q E s:=by
 unfold newSet setsByText
 refine Qa (Qa (wpAny_askSetting (Qb ?_)))
 dsimp only
 simp only [newObj]
 exact Qa (wpAny_alloc (Qb h))
structure Bare(w:World)(t:SetTable)(M:Nat):Prop where
 good:Good M
 mask:t.mask=M
 place:t.place=#[]
 dum:t.dummies=#[]
 plain:t.plain=true
 led:t.led=ledW w
theorem zPw(t:SetTable)(wanted:Nat):t.relaid #[] wanted=some ({ mask:=sizeAbove wanted-1,place:=#[],dummies:=#[],finger:=t.finger,led:=t.led,moves:=t.movedTo (sizeAbove wanted-1),plain:=t.plain },#[]):=by
 unfold relaid laid layClean
 have e:∀ M:Nat,((List.range (M+1)).filterMap fun j=>((Array.replicate (M+1) (none:Option Nat)).getD j none).map (j,·))=[]:=fun M=>by
  rw [List.filterMap_eq_nil_iff]
  intro j _
  have:(Array.replicate (M+1) (none:Option Nat)).getD j none=none:=by
   unfold Array.getD
   split
   ·simp
   ·rfl
  rw [this]
  rfl
 show some _=_
 simp only [e]
 rfl
theorem zMM{n:Nat}(h5:n * 5 >= 21)(hn:n<=75):∃ M,sizeAbove (n * 2)-1=M/\Good M/\n * 5<M * 3/\¬ sizeAbove (n * 2) > sizeLine:=by
 have h:∀ n:Fin 76,n.val * 5 >= 21->(sizeAbove (n.val * 2)-1=15 ∨ sizeAbove (n.val * 2)-1=31 ∨ sizeAbove (n.val * 2)-1=63 ∨ sizeAbove (n.val * 2)-1=127 ∨ sizeAbove (n.val * 2)-1=255)/\n.val * 5<(sizeAbove (n.val * 2)-1) * 3/\sizeAbove (n.val * 2)<=256:=by decide +kernel
 obtain⟨h1,h2,h3⟩:=h ⟨n,by lia⟩ h5
 refine⟨_,rfl,?_,h2,by rw [Yq];exact Nat.not_lt.mpr (Ql h3 (by decide))⟩
 unfold Good
 rcases h1 with e | e | e | e | e <;> simp only at e <;> lia
theorem zQd{n:Nat}(hn:n<=63):∃ M,sizeAbove (grown n)-1=M/\Good M/\n * 5<M * 3/\¬ sizeAbove (grown n) > sizeLine:=by
 have h:∀ n:Fin 64,(sizeAbove (grown n.val)-1=7 ∨ sizeAbove (grown n.val)-1=15 ∨ sizeAbove (grown n.val)-1=31 ∨ sizeAbove (grown n.val)-1=63 ∨ sizeAbove (grown n.val)-1=127 ∨ sizeAbove (grown n.val)-1=255)/\n.val * 5<(sizeAbove (grown n.val)-1) * 3/\sizeAbove (grown n.val)<=256:=by decide +kernel
 obtain⟨h1,h2,h3⟩:=h ⟨n,by lia⟩
 refine⟨_,rfl,?_,h2,by rw [Yq];exact Nat.not_lt.mpr (Ql h3 (by decide))⟩
 unfold Good
 rcases h1 with e | e | e | e | e | e <;> simp only at e <;> lia
theorem zPC{r n:Nat}{o:Obj}{t:SetTable}{ep:Nat}{Q:Unit->Shared->Prop}(ho:s.heap.get? r=some o)(hex:o.ExactSet)(hd:o.data=.set #[] ep t)(B:Bare w t 7)(hn:n<=75)
  (h:∀ h' o' ep' t' M,Heap.SameBut r s.heap h'->h'.get? r=some o'->o'.ExactSet->o'.data=.set #[] ep' t'->Bare w t' M->n * 5<M * 3->Q () { s with heap:=h' }):wpAny (model prog w) A (setRoomFor r n) Q E s:=by
 have hfit:t.fits (#[]:Array (Int × Value)).size=true:=by unfold SetTable.fits SetTable.fill;rw [B.place,B.dum];simp
 unfold setRoomFor
 refine Qa (QK ho hd hfit ?_)
 unfold SetTable.roomFor SetTable.fill
 rw [B.place,B.dum,B.mask]
 by_cases c:(0+n) * 5 >= 7 * 3
 ·rw [if_pos (by simpa using c)]
  obtain⟨M,m1,m2,m3,m4⟩:=zMM (n:=n) (by lia) hn
  unfold setRelay
  refine Qa (QK ho hd hfit ?_)
  dsimp only
  have ew:((#[]:Array Nat).size+n) * 2=n * 2:=by simp
  rw [ew,if_neg m4]
  have er:=zPw t (n * 2)
  rw [m1]at er
  have em:((#[]:Array (Int × Value)).map (·.1))=#[]:=by simp
  rw [em,er]
  refine Qa (wpAny_of_eq (a:=((#[]:Array (Int × Value)),({ mask:=M,place:=#[],dummies:=#[],finger:=t.finger,led:=t.led,moves:=t.movedTo M,plain:=t.plain }:SetTable))) (by rfl) ?_)
  dsimp only
  refine Jd ho hd ?_ (by simp)
  have hg:=Ye (Obj.putSet #[] { mask:=M,place:=#[],dummies:=#[],finger:=t.finger,led:=t.led,moves:=t.movedTo M,plain:=t.plain }) ho (by rw [Ji _ _ hd];rfl)
  rw [Ji _ _ hd]at hg
  exact h _ _ _ _ M (QY ..) hg hex rfl ⟨m2,rfl,rfl,rfl,B.plain,B.led⟩ m3
 ·rw [if_neg (by simpa using c)]
  exact Qb (h s.heap o ep t 7 (Heap.SameBut.refl ..) ho hex hd B (by lia))
end
end ST
namespace ST
open PySem PySem.SetTable PyProof.Rows
section
variable {prog:Program}{w:World}{A:Around}{E:Value->Shared->Prop}{s:Shared}{V:Value->Prop}
theorem zNG{r a:Addr}{o:Obj}{t:SetTable}{ep:Nat}{ks:List (List Int)}{Q:Unit->Shared->Prop}(hra:r≠a)(ho:s.heap.get? r=some o)(hex:o.ExactSet)(hd:o.data=.set #[] ep t)(B:Bare w t 7)
  (S:SetT prog w V s.heap a ks) (hn:ks.length<=75) (h:∀ h' ks',Heap.SameBut r s.heap h'->SetT prog w V h' r ks'->List.Perm ks' ks->Q () { s with heap:=h' }):wpAny (model prog w) A (setMerge r a (pure ())) Q E s:=by
 obtain⟨oa,es,epa,ta,ha,hxa,hda,T,hp,X,hnd,hV⟩:=S
 have hes:es.size=ks.length:=by rw [<- X.length,Qo]
 unfold setMerge
 rw [if_neg (by simpa using hra)]
 refine Qa (QK ha hda (T.fits (by simp)) ?_)
 dsimp only
 by_cases em:es.isEmpty=true
 ·rw [if_pos em]
  have e0:es=#[]:=by simpa using em
  have k0:ks=[]:=by
   rw [e0]at hes
   exact Yy hes.symm
  subst k0
  refine Qb (h s.heap [] (Heap.SameBut.refl ..) ⟨o,#[],ep,t,ho,hex,hd,?_,⟨B.plain,B.led⟩,.nil,Jw,fun e he=>by simp at he⟩ (.refl _))
  exact⟨by rw [B.mask];exact B.good,B.dum,by rw [B.place];rfl,by rw [B.place];exact List.Pairwise.nil,fun x hx=>by rw [B.place]at hx;simp at hx,by rw [B.place,B.mask];decide,fun q hq=>by rw [B.place]at hq;simp at hq⟩
 ·rw [if_neg em]
  refine Qa (zPC ho hex hd B (by rw [hes];exact hn) fun h1 o1 ep1 t1 M sb1 ho1 hex1 hd1 B1 hM=>?_)
  have ha1:h1.get? a=some oa:=(sb1.2 a (Ne.symm hra)).trans ha
  have X1:Ents prog w h1 es.toList ks:=X.mono fun k b=>TK.keep ho hd sb1
  refine Qa (QK (s:={ s with heap:=h1 }) ho1 hd1 (by unfold SetTable.fits SetTable.fill;rw [B1.place,B1.dum];simp) ?_)
  dsimp only
  have hf:(t1.fill != 0)=false:=by unfold SetTable.fill;rw [B1.place,B1.dum];rfl
  have szl:es.size<=sizeLine:=by rw [Yq];lia
  unfold SetTable.road
  rw [hf,if_neg Qu]
  by_cases c:(t1.mask == ta.mask && ta.dummies.isEmpty)=true
  ·rw [if_pos c]
   dsimp only
   refine Jd (s:={ s with heap:=h1 }) ho1 hd1 ?_ szl
   have hg:=Ye (Obj.putSet es { ta with finger:=t1.finger,led:=t1.led && ta.led,moves:=t1.moves,plain:=t1.plain && ta.plain }) ho1 (by rw [Ji _ _ hd1];rfl)
   rw [Ji _ _ hd1]at hg
   have sb2:=QY h1 r (Obj.putSet es { ta with finger:=t1.finger,led:=t1.led && ta.led,moves:=t1.moves,plain:=t1.plain && ta.plain })
   refine h _ ks (sb1.trans sb2) ⟨_,_,_,_,hg,hex1,rfl,⟨T.good,T.dum,T.len,T.up,T.le,T.room,T.reach⟩,⟨?_,?_⟩,X1.mono fun k b=>TK.keep ho1 hd1 sb2,hnd,hV⟩ (.refl _)
   ·show(t1.plain && ta.plain)=true
    rw [B1.plain,hp.1];rfl
   ·show(t1.led && ta.led)=ledW w
    rw [B1.led,hp.2,Bool.and_self]
  ·rw [if_neg c]
   dsimp only
   obtain⟨t',order,r1,r2,r3,r4,r5⟩:=zI1 (hs:=es.map (·.1)) (M:=M) t1.finger t1.moves (t1.led && ta.led) (t1.plain && ta.plain) B1.good (by rw [Y5];exact hM)
   have hlt:∀ i∈order.toList,i<es.toList.length:=fun i hi=>by
    have:=QE.mp (r2.mem_iff.mp hi)
    simpa using this
   have hesl:(order.filterMap (es[·]?)).toList=order.toList.filterMap (es.toList[·]?):=by
    rw [Jo]
    congr 1
    funext i
    rw [QD]
   have hperm:List.Perm (order.filterMap (es[·]?)).toList es.toList:=by
    rw [Jo]
    refine(r2.filterMap _).trans ?_
    rw [Y5,filterMap_getElem?_range]
   have hsize:(order.filterMap (es[·]?)).size=es.size:=by rw [<- Qo,hperm.length_eq,Qo]
   rw [B1.mask,r1]
   refine Qa ?_
   show wpAny _ _ (if((order.filterMap (es[·]?)).size != es.size)=true then _ else pure (order.filterMap (es[·]?),t')) _ _ _
   rw [if_neg (by simp [hsize])]
   refine Qb ?_
   dsimp only
   refine Jd (s:={ s with heap:=h1 }) ho1 hd1 ?_ (by rw [hsize];exact szl)
   have hg:=Ye (Obj.putSet (order.filterMap (es[·]?)) t') ho1 (by rw [Ji _ _ hd1];rfl)
   rw [Ji _ _ hd1]at hg
   have sb2:=QY h1 r (Obj.putSet (order.filterMap (es[·]?)) t')
   have kp:List.Perm (order.toList.filterMap (ks[·]?)) ks:=by
    refine(r2.filterMap _).trans ?_
    rw [Y5,<- Qo,X.length,YX]
   refine h _ (order.toList.filterMap (ks[·]?)) (sb1.trans sb2) ⟨_,_,_,_,hg,hex1,rfl,?_,⟨by rw [r5,B1.plain,hp.1];rfl,by rw [r4,B1.led,hp.2,Bool.and_self]⟩,?_,kp.nodup_iff.mpr hnd,fun e he=>hV e (hperm.mem_iff.mp he)⟩ kp
   ·rw [hesl,zGb _ _ hlt]
    simpa using r3
   ·rw [hesl]
    exact(X1.pick _ hlt).mono fun k b=>TK.keep ho1 hd1 sb2
theorem zEq{a:Addr}{Q:Bool->Shared->Prop}(hT:s.TypeIs (.ref a) "set")(h:Q true s):wpAny (model prog w) A (Builtin.Frozenset.isAnySet (.ref a)) Q E s:=by
 unfold Builtin.Frozenset.isAnySet orM
 refine Qa (JC hT sub_set_self ?_)
 exact Qb h
theorem base_of{a:Addr}{Q:Value->Shared->Prop}(hT:s.TypeIs (.ref a) "set")(h:Q (.type "set") s):wpAny (model prog w) A (Builtin.Frozenset.baseOf a) Q E s:=by
 unfold Builtin.Frozenset.baseOf
 refine Qa (JC hT sub_set_self ?_)
 rw [if_pos rfl]
 exact Qb h
theorem zEY{a:Addr}{o:Obj}{es:Array (Int × Value)}{ep:Nat}{t:SetTable}{Q:Nat->Shared->Prop}(ho:s.heap.get? a=some o)(hd:o.data=.set es ep t)(hf:t.fits es.size=true)(h:Q es.size s):wpAny (model prog w) A (Builtin.Frozenset.sizeOf a) Q E s:=by
 unfold Builtin.Frozenset.sizeOf
 exact Qa (JG ho hd hf (Qb h))
theorem zLP{a:Addr}{ks:List (List Int)}{Q:Value->Shared->Prop}(S:SetT prog w V s.heap a ks)(hn:ks.length<=75)
  (h:∀ h' ks',(∀ b o,s.heap.get? b=some o->h'.get? b=some o)->SetT prog w V h' s.heap.objs.size ks'->List.Perm ks' ks->Q (.ref s.heap.objs.size) { s with heap:=h' }):wpAny (model prog w) A (Builtin.Frozenset.copyOf a) Q E s:=by
 obtain⟨oa,es,epa,ta,ha,hxa,hda,T,hp,X,hnd,hV⟩:=id S
 have hT:s.TypeIs (.ref a) "set":=⟨oa,ha,hxa.1⟩
 have la:=Qk ha
 unfold Builtin.Frozenset.copyOf
 refine Qa (base_of hT (Qa (zJy ?_)))
 refine Qa (Qb ?_)
 have S':SetT prog w V (s.heap.push (zDG w)) a ks:=S.moved fun b o e _=>Qc _ e
 refine Qa (zNG (s:={ s with heap:=s.heap.push (zDG w) }) (r:=s.heap.objs.size) (YO la) (Qs _ rfl) ⟨rfl,rfl,rfl⟩ rfl ⟨.inl rfl,rfl,rfl,rfl,rfl,rfl⟩ S' hn fun h' ks' sb S'' pk=>?_)
 exact Qb (h h' ks' (fun b o e=>(sb.2 b (Qt (Qk e))).trans (Qc _ e)) S'' pk)
end
end ST
namespace ST
open PySem PySem.SetTable PyProof.Rows
section
variable {prog:Program}{w:World}{A:Around}{E:Value->Shared->Prop}{s:Shared}{V:Value->Prop}
theorem zK5{a:Addr}{o:Obj}{es:Array (Int × Value)}{ep:Nat}{t:SetTable}{others:List Addr}{filled:Option Addr}{Q:Array (Int × Value)->Shared->Prop}(S:zBc w s.heap a o es ep t)(h:Q (ordW w a ep es) s):
  wpAny (model prog w) A (setWalkUnseen a others filled) Q E s:=by
 unfold setWalkUnseen
 refine Qa (QK S.get S.data S.fits ?_)
 dsimp only
 refine Qa (zD8 ?_)
 have c:(w.params.followText "set-order" || (t.led && t.plain) || decide (es.size<=1))=true:=by
  rw [S.led,S.plain,ledW]
  cases w.params.followText "set-order" <;> rfl
 rw [c,if_pos rfl]
 exact zK4 S h
theorem zFa{id:String}{a:Addr}{o:Obj}{es:Array (Int × Value)}{ep:Nat}{t:SetTable}{Q:Unit->Shared->Prop}(ho:s.heap.get? a=some o)(hd:o.data=.set es ep t)(hf:t.fits es.size=true)(h:Q () s):wpAny (model prog w) A (Builtin.Frozenset.unchanged id a ep) Q E s:=by
 unfold Builtin.Frozenset.unchanged setEpoch
 refine Qa (Qa (QK ho hd hf (Qb ?_)))
 rw [if_neg (by simp)]
 exact Qb h
theorem SetT.setAt{h:Heap}{a:Addr}{ks:List (List Int)}(S:SetT prog w V h a ks):∃ o es ep t,zBc w h a o es ep t/\TOk t (es.toList.map (·.1))/\Ents prog w h es.toList ks/\∀ e∈es.toList,V e.2:=by
 obtain⟨o,es,ep,t,z1,z2,z3,z4,z5,z6,z7,z8⟩:=S
 exact⟨o,es,ep,t,⟨z1,z2,z3,z4.fits (by simp),z4.up,z5.1,z5.2⟩,z4,z6,z8⟩
structure DI1(prog:Program)(w:World)(V:Value->Prop)(s:Shared)(ka kb:List (List Int))(rest:List (Int × Value))(s':Shared)(h':Heap)(kc kd krest:List (List Int)):Prop where
 eq:s'={ s with heap:=h' }
 kp:∀ b o,s.heap.get? b=some o->h'.get? b=some o
 SC:SetD prog w V h' s.heap.objs.size kc
 Xr:Ents prog w s.heap rest krest
 pk:List.Perm (kd++krest) kb
 lc:kc.length<=63
 me:∀ k,k∈kc ↔ k∈ka/\k∉kd
structure DI2(prog:Program)(w:World)(V:Value->Prop)(s:Shared)(ka kb:List (List Int))(rest:List (Int × Value))(s':Shared)(h':Heap)(kr kd krest:List (List Int)):Prop where
 eq:s'={ s with heap:=h' }
 kp:∀ b o,s.heap.get? b=some o->h'.get? b=some o
 SR:SetT prog w V h' s.heap.objs.size kr
 Xr:Ents prog w s.heap rest krest
 pk:List.Perm (kd++krest) ka
 me:∀ k,k∈kr ↔ k∈kd/\k∉kb
 vr:∀ e∈rest,V e.2
theorem zMh{id:String}{a b:Addr}{ka kb:List (List Int)}{Q:Value->Shared->Prop}(hab:a≠b)(hu:A.units<cLine)(SA:SetT prog w V s.heap a ka)(SB:SetT prog w V s.heap b kb)(hna:ka.length<=63)
  (h:∀ h' r ks,s.heap.objs.size<=r->(∀ b o,s.heap.get? b=some o->h'.get? b=some o)->SetD prog w V h' r ks->(∀ k,k∈ks ↔ k∈ka/\k∉kb)->Q (.ref r) { s with heap:=h' }):
  wpAny (model prog w) A (Builtin.Frozenset.difference id a (.ref b)) Q E s:=by
 obtain⟨oa,ea,pa,ta,Sa,Ta,Xa,Va⟩:=SA.setAt
 obtain⟨ob,eb,pb,tb,Sb,Tb,Xb,Vb⟩:=SB.setAt
 have hTa:s.TypeIs (.ref a) "set":=⟨oa,Sa.get,Sa.ex.1⟩
 have hTb:s.TypeIs (.ref b) "set":=⟨ob,Sb.get,Sb.ex.1⟩
 have nda:=SA.nodup
 unfold Builtin.Frozenset.difference
 refine Qa (zEq hTb ?_)
 simp only [YQ,Qq,if_false,Bool.false_and]
 unfold Builtin.Frozenset.addrOf
 refine Qa (Qb ?_)
 simp only [if_true]
 refine Qa (zEY Sb.get Sb.data Sb.fits ?_)
 refine Qa (zEY Sa.get Sa.data Sa.fits ?_)
 by_cases c:ea.size / 4 > eb.size
 ·rw [if_pos c]
  refine Qa (wpAny_rule ?_)
  refine Qa (zLP SA (by lia) fun h1 kr kp1 SR pr=>?_)
  have lb:=Qk Sb.get
  have Sb1:=Sb.at (kp1 _ _ Sb.get)
  have hTb1:({ s with heap:=h1 }:Shared).TypeIs (.ref b) "set":=⟨ob,Sb1.get,Sb.ex.1⟩
  refine Qa (Qb ?_)
  refine Qa (Yf ?_)
  unfold Builtin.Frozenset.differenceUpdate
  rw [if_neg (by simpa using Qt lb)]
  refine Qa (zEq hTb1 ?_)
  rw [if_pos rfl]
  unfold Builtin.Frozenset.addrOf
  refine Qa (Qb ?_)
  refine Qa (zEY (s:={ s with heap:=h1 }) Sb1.get Sb1.data Sb1.fits ?_)
  obtain⟨oR,eR,pR,tR,SatR,TR,XR,VR⟩:=SR.setAt
  refine Qa (zEY (s:={ s with heap:=h1 }) SatR.get SatR.data SatR.fits ?_)
  have sz1:eR.size=ea.size:=by rw [<- Qo,XR.length,pr.length_eq,<- Xa.length,Qo]
  rw [if_neg (by lia)]
  dsimp only
  refine Qa (wpAny_setEpoch_of (s:={ s with heap:=h1 }) Sb1.get Sb1.data Sb1.fits ?_)
  refine Qa (Yf (Qa (zK5 (s:={ s with heap:=h1 }) Sb1 ?_)))
  obtain⟨ko,Xo,po⟩:=Xb.perm (zC7 w b pb eb).symm
  rw [<- Array.forIn_toList]
  refine Qa (Jh _ (fun rest _ s'=>∃ h' kc kd krest,DI1 prog w V s ka kb rest s' h' kc kd krest) _ ?_ ?_ _ _ ?_)
  ·rintro x rest _ s' ⟨h',kc,kd,krest,rfl,kp,SC,Xr,pk,lc,mk⟩
   cases Xr with
   | @cons k bx _ krest hk Xr=>
    have hk':TK prog w h' k bx:=hk.at fun o e=>kp bx o e
    have pk':List.Perm ((kd++[k])++krest) kb:=by rw [Q9];exact pk
    dsimp only
    refine Qa (Yf (zMi (s:={ s with heap:=h' }) hu SC hk' (fun hn=>?_) (fun h2 kc2 sb S2 p2=>?_) (by lia)))
    ·have Sb2:=Sb.at (kp _ _ Sb.get)
     refine Qa (zFa (s:={ s with heap:=h' }) Sb2.get Sb2.data Sb2.fits (Qb ?_))
     refine⟨h',kc,kd++[k],krest,rfl,kp,SC,Xr,pk',lc,fun k'=>?_⟩
     rw [mk k',QC,Qv]
     constructor
     ·rintro⟨x1,x2⟩
      exact⟨x1,fun z=>z.elim x2 fun z=>hn (z ▸ (mk k').mpr ⟨x1,x2⟩)⟩
     ·rintro⟨x1,x2⟩
      exact⟨x1,fun z=>x2 (.inl z)⟩
    ·have kp2:∀ b o,s.heap.get? b=some o->h2.get? b=some o:=fun b o e=>(sb.2 b (Qt (Qk e))).trans (kp b o e)
     have Sb2:=Sb.at (kp2 _ _ Sb.get)
     refine Qa (zFa (s:={ s with heap:=h2 }) Sb2.get Sb2.data Sb2.fits (Qb ?_))
     have nd:(k::kc2).Nodup:=by
      obtain⟨_,_,_,_,_,_,_,_,_,_,z7,_⟩:=SC
      exact p2.nodup_iff.mp z7
     have ll:=p2.length_eq
     rw [QL]at ll
     refine⟨h2,kc2,kd++[k],krest,rfl,kp2,S2,Xr,pk',by lia,fun k'=>?_⟩
     rw [QC,Qv]
     have m1:k'∈kc ↔ k'=k ∨ k'∈kc2:=by rw [p2.mem_iff,Qi]
     constructor
     ·intro hx
      have:=(mk k').mp (m1.mpr (.inr hx))
      exact⟨this.1,fun z=>z.elim this.2 fun z=>(Yl.mp nd).1 (z ▸ hx)⟩
     ·rintro⟨x1,x2⟩
      rcases m1.mp ((mk k').mpr ⟨x1,fun z=>x2 (.inl z)⟩)with z | z
      ·exact absurd (.inr z) x2
      ·exact z
  ·rintro _ s' ⟨h',kc,kd,krest,rfl,kp,SC,Xr,pk,lc,mk⟩
   cases Xr
   rw [Yk]at pk
   refine Qb ?_
   have fin:∀ h2 kc2,(∀ b o,s.heap.get? b=some o->h2.get? b=some o)->SetD prog w V h2 s.heap.objs.size kc2->List.Perm kc2 kc->wpAny (model prog w) A (pure (Value.ref s.heap.objs.size)) Q E { s with heap:=h2 }:=fun h2 kc2 kp2 S2 p2=>
    Qb (h h2 _ kc2 (Qh _) kp2 S2 fun k=>by rw [p2.mem_iff,mk k,pk.mem_iff])
   obtain⟨o,es,ep,t,ho,hex,hd,T,hp,X,hnd,hV⟩:=_root_.id SC
   have hfit:t.fits es.size=true:=T.fits (by simp)
   have hes:es.size=kc.length:=by rw [<- X.length,Qo]
   unfold setTidy
   refine Qa (QK (s:={ s with heap:=h' }) ho hd hfit ?_)
   dsimp only
   by_cases td:t.tooManyDummies=true
   ·rw [if_pos td]
    obtain⟨M,m1,m2,m3,m4⟩:=zQd (n:=es.size) (by lia)
    refine zJ8 (s:={ s with heap:=h' }) (V:=V) ho hex hd hfit hp X hnd hV m1 m2 m3 m4 (by rw [Yq];lia) fun h2 kc2 sb S2 p2=>?_
    exact fin h2 kc2 (fun b o e=>(sb.2 b (Qt (Qk e))).trans (kp b o e)) S2.toD p2
   ·rw [if_neg td]
    exact Qb (fin h' kc kp SC (.refl _))
  ·exact⟨h1,kr,[],ko,rfl,kp1,SR.toD,Xo,po,by rw [pr.length_eq];exact hna,fun k=>by rw [pr.mem_iff];simp⟩
 ·rw [if_neg c]
  refine Qa (base_of hTa (Qa (zJy ?_)))
  refine Qa (Qb ?_)
  have kp0:∀ b o,s.heap.get? b=some o->(s.heap.push (zDG w)).get? b=some o:=fun b o e=>Qc _ e
  have Sa0:=Sa.at (kp0 _ _ Sa.get)
  refine Qa (wpAny_setEpoch_of Sa0.get Sa0.data Sa0.fits ?_)
  refine Qa (Yf (Qa (zK5 (s:={ s with heap:=s.heap.push (zDG w) }) Sa0 ?_)))
  obtain⟨ko,Xo,po⟩:=Xa.perm (zC7 w a pa ea).symm
  rw [<- Array.forIn_toList]
  refine Qa (Jh _ (fun rest _ s'=>∃ h' kr kd krest,DI2 prog w V s ka kb rest s' h' kr kd krest) _ ?_ ?_ _ _ ?_)
  ·rintro x rest _ s' ⟨h',kr,kd,krest,rfl,kp,SR,Xr,pk,mk,vr⟩
   cases Xr with
   | @cons k bx _ krest hk Xr=>
    have hk':TK prog w h' k bx:=hk.at fun o e=>kp bx o e
    have Sb':=Sb.at (kp _ _ Sb.get)
    have Sa':=Sa.at (kp _ _ Sa.get)
    have nin:k∉kd:=by
     have:=pk.nodup_iff.mpr nda
     have:=List.perm_middle.nodup_iff.mp this
     exact fun hh=>(Yl.mp this).1 (QO _ hh)
    have pk':List.Perm ((kd++[k])++krest) ka:=by rw [Q9];exact pk
    refine Qa (Yf (Qa (zIa (s:={ s with heap:=h' }) hu Sb'.get Sb'.data Tb.toD (Xb.mono fun k b x=>x.at fun o e=>kp b o e) hk' (fun i hi=>?_) fun hn=>?_)))
    ·refine Qa (Qb ?_)
     simp only [Option.isSome_some,YQ,Qq,if_false]
     refine Qb ?_
     refine Qa (zFa (s:={ s with heap:=h' }) Sa'.get Sa'.data Sa'.fits (Qb ?_))
     refine⟨h',kr,kd++[k],krest,rfl,kp,SR,Xr,pk',fun k'=>?_,fun e he=>vr e (Qd _ he)⟩
     rw [mk k',QC,Qv]
     constructor
     ·rintro⟨x1,x2⟩;exact⟨.inl x1,x2⟩
     ·rintro⟨x1 | x1,x2⟩
      ·exact⟨x1,x2⟩
      ·exact absurd (x1 ▸ QP hi) x2
    ·refine Qa (Qb ?_)
     simp only [Option.isSome_none,Bool.not_false,if_true]
     have lk:kr.length<=63:=by
      have h1:kr.length<=kd.length:=Yv SR.nodup fun k hk=>((mk k).mp hk).1
      have h2:=pk.length_eq
      rw [Qp]at h2
      lia
     refine Qa (zHp (s:={ s with heap:=h' }) hu SR hk' (vr _ Qe) (by lia) (fun hm=>absurd ((mk k).mp hm).1 nin) fun _ h2 kr2 sb S2 p2=>?_)
     have kp2:∀ b o,s.heap.get? b=some o->h2.get? b=some o:=fun b o e=>(sb.2 b (Qt (Qk e))).trans (kp b o e)
     have Sa2:=Sa.at (kp2 _ _ Sa.get)
     refine Qb (Qa (zFa (s:={ s with heap:=h2 }) Sa2.get Sa2.data Sa2.fits (Qb ?_)))
     refine⟨h2,kr2,kd++[k],krest,rfl,kp2,S2,Xr,pk',fun k'=>?_,fun e he=>vr e (Qd _ he)⟩
     rw [p2.mem_iff,Qi,mk k',QC,Qv]
     constructor
     ·rintro(x1 | ⟨x1,x2⟩)
      ·exact⟨.inr x1,x1 ▸ hn⟩
      ·exact⟨.inl x1,x2⟩
     ·rintro⟨x1 | x1,x2⟩
      ·exact .inr ⟨x1,x2⟩
      ·exact .inl x1
  ·rintro _ s' ⟨h',kr,kd,krest,rfl,kp,SR,Xr,pk,mk,vr⟩
   cases Xr
   rw [Yk]at pk
   refine Qb (Qb (h h' _ kr (Qh _) kp SR.toD fun k=>?_))
   rw [mk k,pk.mem_iff]
  ·refine⟨_,[],[],ko,rfl,kp0,⟨_,#[],0,_,Qs _ rfl,⟨rfl,rfl,rfl⟩,rfl,⟨.inl rfl,rfl,rfl,List.Pairwise.nil,fun x hx=>by simp [SetTable.fresh]at hx,(by show 0 * 5<7 * 3;decide),fun q hq=>by simp at hq⟩,⟨rfl,rfl⟩,.nil,Jw,fun e he=>by simp at he⟩,Xo,po,fun k=>by simp,fun e he=>Va e ((zC7 w a pa ea).mem_iff.mp he)⟩
end
end ST
namespace ST
open PySem PySem.SetTable PyProof.Rows
section
variable {prog:Program}{w:World}{A:Around}{E:Value->Shared->Prop}{s:Shared}{V:Value->Prop}
theorem zP5{a b:Addr}{ka kb:List (List Int)}{Q:Value->Shared->Prop}(hab:a≠b)(hu:A.units+8<cLine)(SA:SetT prog w V s.heap a ka)(SB:SetT prog w V s.heap b kb)(hna:ka.length<=63)
  (h:∀ h' r ks,s.heap.objs.size<=r->(∀ b o,s.heap.get? b=some o->h'.get? b=some o)->SetD prog w V h' r ks->(∀ k,k∈ks ↔ k∈ka/\k∉kb)->Q (.ref r) { s with heap:=h' }):
  wpAny (model prog w) A (binaryOp .Sub (.ref a) (.ref b)) Q E s:=by
 obtain⟨oa,ea,pa,ta,Sa,Ta,Xa,Va⟩:=SA.setAt
 obtain⟨ob,eb,pb,tb,Sb,Tb,Xb,Vb⟩:=SB.setAt
 have hTa:s.TypeIs (.ref a) "set":=⟨oa,Sa.get,Sa.ex.1⟩
 have hTb:s.TypeIs (.ref b) "set":=⟨ob,Sb.get,Sb.ex.1⟩
 refine wpAny_binaryOp_same hTa hTb PySem.F.fills_set_sub PySem.F.slot_set_sub (Yg PySem.F.slot_set_sub hTa PySem.F.set_sub_entry ?_ (PySem.F.args_set_sub_2 _ _))
 unfold Builtin.«frozenset.__sub__»
 wp_delta
 refine Qa (wpAny_of_eq (a:=(Value.ref a,Value.ref b)) (by rfl) ?_)
 simp only [Qq,if_false]
 refine Qa ?_
 unfold andM
 refine Qa (zEq hTa ?_)
 show wpAny _ _ (Builtin.Frozenset.isAnySet (.ref b)) _ _ _
 refine zEq hTb ?_
 simp only [YQ,Qq,if_false]
 unfold Builtin.Frozenset.addrOf
 refine Qa (Qb (Qa (zMh hab (by show A.units+1<cLine;lia) SA SB hna fun h' r ks hr kp S mk=>?_)))
 exact Qb ⟨_,rfl,(fun z=>nomatch z),h h' r ks hr kp S mk⟩
end
end ST
namespace SL
open PySem PySem.Spec PyProof.Rows L2 CL DL SD ST
def zFz(g1 g2:Rho->Option (List (List Int))):Rho->Option (List (List Int)):=fun ρ=>(g1 ρ).bind fun x=>(g2 ρ).bind fun y=>if x.length<=63 then some (x.filter fun k => !y.contains k)else none
section
variable {X:Cx}{a b:Expr}{pos:Pos}{g1 g2:Rho->Option (List (List Int))}
theorem Ents.carry{pins pins':List (Addr × Obj)}{σ σ':L2.St}{H1 H2:Hp}{s1 s2:Shared}(I1:Inv X pins σ H1 s1)(I2:Inv X pins' σ' H2 s2)(sm:Same H1 H2):∀{es:List (Int × Value)}{ks:List (List Int)},Ents X.prog X.w s1.heap es ks->(∀ e∈es,VT X.K H1 e.2)->Ents X.prog X.w s2.heap es ks
 | _,_,.nil,_=>.nil
 | _,_,.cons (k:=k) (b:=bx) h1 r,hv=>by
  obtain⟨b',xs,e1,e2⟩:=hv _ Qe
  cases e1
  have:k=xs:=h1.unique (zB0 I1 e2)
  subst this
  exact .cons (zB0 I2 (Same.sqT sm e2)) (Ents.carry I1 I2 sm r fun e he=>hv e (Qd _ he))
theorem zMn(hc:X.calm=true)(hu:X.A.units+66<cLine)(ha:DSt X a g1)(hb:DSt X b g2):DSv X (.BinOp a .Sub b pos) (zFz g1 g2):=by
 intro pins s σ H Q I ⟨F,H₀,ρ,kl,S,q,k⟩
 obtain⟨x,e1,q⟩:=bnd q
 obtain⟨y,e2,q⟩:=bnd q
 by_cases c:x.length<=63
 ·rw [if_pos c]at q
  cases q
  refine wpAny_BinOp (thn (ha pins s σ H (fun ks H1=>ks.Nodup/\(∀ k,k∈ks ↔ k∈x)/\∃ F1,Ext F F1 H H1) I ⟨F,H₀,ρ,x,S,e1,fun F1 H1 ks E1 n1 m1=>⟨n1,m1,F1,E1⟩⟩) fun u s1 zz=>?_)
  obtain⟨a1,o1,ka,H1,eu,I1,S1,_,_,m1,F1,E1⟩:=zz
  refine thn (hb ((a1,o1)::pins) s1 σ H1 (fun ks H2=>ks.Nodup/\(∀ k,k∈ks ↔ k∈y)/\∃ F2,Ext F1 F2 H1 H2) I1 ⟨F1,H₀,ρ,y,S.ext E1,e2,fun F2 H2 ks E2 n2 m2=>⟨n2,m2,F2,E2⟩⟩) fun v s2 zz=>?_
  obtain⟨a2,o2,kb,H2,ev,I2,S2,ap,_,m2,F2,E2⟩:=zz
  subst eu
  subst ev
  have g1:s2.heap.get? a1=some o1:=(I2.pin (a1,o1) (Qx _ (Qd _ Qe))).1
  have hne:a1≠a2:=ap (a1,o1) Qe
  have SA:SetT X.prog X.w (VT X.K H2) s2.heap a1 ka:=by
   obtain⟨o,es,ep,t,z1,z2,z3,z4,z5,z6,z7,z8⟩:=S1
   have:s1.heap.get? a1=some o1:=(I1.pin (a1,o1) (Qx _ Qe)).1
   rw [z1]at this
   cases this
   exact⟨_,es,ep,t,g1,z2,z3,z4,z5,Ents.carry I1 I2 E2.same z6 z8,z7,fun e he=>by
    obtain⟨b',xs,e1,e2⟩:=z8 e he
    exact⟨b',xs,e1,Same.sqT E2.same e2⟩⟩
  refine zP5 hne (by lia) SA S2 ?_ fun h' r ks hr kp SD mk=>?_
  ·have:ka.length<=x.length:=Yv SA.nodup fun k h=>(m1 k).mp h
   lia
  ·obtain⟨o,es,ep,t,z1,z2,z3,z4,z5,z6,z7,z8⟩:=SD
   have I3:Inv X pins σ H2 s2:=I2.pins_of fun p hp=>I2.pin p (Qx _ (Qd _ (Qd _ hp)))
   have I4:Inv X pins σ H2 { s2 with heap:=h' }:=I3.kept (t':=s2.toks) kp
   have I5:Inv X ((r,o)::pins) σ H2 { s2 with heap:=h' }:=by
    refine I4.pins_of fun p hp=>?_
    rcases Qi.mp hp with rfl | hp
    ·refine⟨z1,I2.hok.fresh hr,YO (Qz I2.lt hr),I2.nofs hr,fun v hv=>?_⟩
     rw [z3]at hv
     exact nomatch hv
    ·exact I4.pin p (Qx _ hp)
   refine⟨r,o,ks,H2,rfl,I5,⟨es,ep,t,⟨z1,z2,z3,z4.fits (by simp),z4.up,z5.1,z5.2⟩,z6,z7,z8⟩,k F2 H2 ks (E1.trans E2) z7 fun k=>?_⟩
   rw [mk k,m1 k,m2 k,QB]
   simp
 ·rw [if_neg c]at q;cases q
end
theorem zFy{X:Cx}{st:Stmt}:DS X st (fun _=>none):=fun pins s σ H W I q=>by
 obtain⟨F₀,H₀,F,ρ,o,E,S,q,k⟩:=q
 cases q
end SL
namespace DC
open PySem PyProof.Rows
theorem zNH:typeLookup (.type "list") "keys"=pure none:=by rw [typeLookup_type,builtinLookup_eq_fast];kernel_rfl
section
variable {prog:Program}{w:World}{A:Around}{E:Value->Shared->Prop}{s:Shared}
theorem zNl{a:Addr}{o:Obj}{xs:Array Value}{k:Nat}{Q:Option Value->Shared->Prop}(hx:s.heap.get? a=some o)(hc:o.cls=.type "list")(hdat:o.data=.seq xs k)(hd:o.dict=none)(hA:A.handled=none)
  (h:∀ h' tk,(∀ b ob,s.heap.get? b=some ob->h'.get? b=some ob)->Q none { s with heap:=h',toks:=tk }):wpAny (model prog w) A (getAttr? (.ref a) "keys") Q E s:=by
 obtain⟨c,dct,dat,sl⟩:=o
 simp only at hc hdat hd
 subst hc hdat hd
 obtain⟨hp,g,d,tk,os⟩:=s
 have hT:∀ tk',(⟨hp,g,d,tk',os⟩:Shared).TypeIs (.ref a) "list":=fun _=>⟨_,hx,rfl⟩
 have f1:=sub_AttributeError
 have f3:=F.slot_list_getattribute.lookup
 have f4:=F.slot_list_getattribute.bind (.ref a)
 have f5:=am_list_getattr_none
 unfold getAttr? getAttrBy? getAttrBy
 repeat (any_goals (first | assumption | exact hT _ | ((with_reducible show wpAny _ _ (call (Value.builtin "list.__getattribute__") _ _) _ _ _);refine call_meets F.slot_list_getattribute (hT _) am_entry_list_getattribute (F.args_list_getattribute_2 _ _) (meets_getattribute_miss_list a xs k sl "keys" _ zNH (by decide +kernel)) ⟨hx,hA,fun h' tk' e hx'=>?_⟩) | wp_step))
 obtain⟨t',u',he⟩:=hx'.there
 show wpAny _ _ (getattributeRaised _ _ _ _ _ _ _) _ _ _
 unfold getattributeRaised
 repeat (any_goals (first | assumption | wp_step))
 exact h _ _ hx'.keeps
end
theorem zH0:entryFor table "dict.update.loop"=some Builtin.«dict.update.loop»:=entryFor_of_tree (by kernel_rfl)
theorem zEN:plainId "dict.update.loop"=true:=by decide +kernel
section
variable {κ:Type}[DecidableEq κ]
def zBn(key:Nat->κ)(kad:Nat->Addr)(val:Nat->Value):Nat->List (κ × Addr × Value)
 | 0=>[]
 | i+1=>storedH (zBn key kad val i) (key i) (kad i) (val i)
variable {key:Nat->κ}{kad:Nat->Addr}{val:Nat->Value}
theorem zFl:∀ i,(zBn key kad val i).length<=i
 | 0=>Qh _
 | i+1=>by
  have:=zFl i
  unfold zBn storedH
  split
  ·rw [Qj];lia
  ·rw [Qp,Yd];lia
theorem zFm:∀ i,∀ x∈zBn key kad val i,∃ j,j<i/\x.1=key j/\x.2.1=kad j
 | 0,x,h=>nomatch h
 | i+1,x,h=>by
  unfold zBn storedH at h
  split at h
  ·obtain⟨y,hy,rfl⟩:=QJ.mp h
   obtain⟨j,hj,e1,e2⟩:=zFm i y hy
   refine⟨j,by lia,?_⟩
   unfold putAt
   split
   ·exact⟨e1,e2⟩
   ·exact⟨e1,e2⟩
  ·rcases QC.mp h with h | h
   ·obtain⟨j,hj,e⟩:=zFm i x h
    exact⟨j,by lia,e⟩
   ·rw [Qv]at h
    subst h
    exact⟨i,by lia,rfl,rfl⟩
end
section
variable {prog:Program}{w:World}{κ:Type}[DecidableEq κ]{knd:HeapKind prog w κ}{A:Around}{R:Result->Shared->Prop}{I:Addr}{fp wr:List Addr}{G:Array GenState->Array GenState->Prop}{n:Nat}{Pv:Nat->Value->Prop}{St:Nat->Shared->Prop}
theorem zMg(W:WalksS prog w A.in1 I fp wr G n Pv St)(S:Addr)(hSf:S∉fp)(hu:knd.room A.in1)(key:Nat->κ)(kad:Nat->Addr)(val:Nat->Value)(s0:Heap)(res:Value)
  (hmono:∀(h h':Heap) k b,knd.is h k b->(∀ b o,h.get? b=some o->h'.get? b=some o)->knd.is h' k b)
  (hold:∀ b o,s0.get? b=some o->b≠S/\b∉wr) (hval:∀ i v,i<n->Pv i v->∃ b,v=.ref b/\s0.IsTuple b #[.ref (kad i),val i]) (hkey:∀ i,i<n->knd.is s0 (key i) (kad i)) (hb:n<=1000):
  ∀(k i:Nat) (s:Shared) (c:Int) (t:Tok),n-i=k->i<=n->St i s->(∀ b o,s0.get? b=some o->s.heap.get? b=some o)->
   s.heap.DictOfH knd S (zBn key kad val i)->
   (∀ s',Moved (S::wr) G s s'->(∀ b o,s0.get? b=some o->s'.heap.get? b=some o)->s'.heap.DictOfH knd S (zBn key kad val n)->R (.ok (.ret res)) s')->
   codeAny (model prog w) A (.builtin "dict.update.loop" ⟨[.ref S,.ref I,.int c t,res],[]⟩) R s:=by
 have hSw:S∉wr:=fun h=>hSf (W.sub _ h)
 have hsub:∀ b∈wr,b∈S::wr:=fun b hb=>Qd _ hb
 have hmv:∀(s s':Shared) i,i<=n->Moved wr G s s'->(∀ b o,s0.get? b=some o->s'.heap.get? b=some o)->s.heap.DictOfH knd S (zBn key kad val i)->s'.heap.DictOfH knd S (zBn key kad val i):=fun s s' i hi hm h0 hS=>by
  obtain⟨o,es,ep,ho,hex,hd,he,his,hnd⟩:=hS
  refine⟨o,es,ep,hm.heap S _ hSw ho,hex,hd,he,fun x hx=>?_,hnd⟩
  obtain⟨j,hj,e1,e2⟩:=zFm i x hx
  rw [e1,e2]
  exact hmono _ _ _ _ (hkey j (by lia)) h0
 intro k
 induction k with
 | zero=>
  intro i s c t hk hi hst h0 hS hR
  have hin:i=n:=by lia
  subst hin
  refine Y9 zH0 ?_
  rw [Je zEN _]
  show wpAny _ A.in1 (pyNext (.ref I) >>= _) _ _ s
  refine Qa (W.done s _ _ hst fun s' hm=>?_)
  show wpAny _ A.in1 (Builtin.Dict.addKeywords S [] >>= fun _=>ret res) _ _ s'
  have h0':∀ b o,s0.get? b=some o->s'.heap.get? b=some o:=fun b o e=>hm.heap b o (hold b o e).2 (h0 b o e)
  exact Qa (Qb (Qb (hR s' (hm.mono hsub) h0' (hmv s s' i (Qh _) hm h0' hS))))
 | succ k ih=>
  intro i s c t hk hi hst h0 hS hR
  have hlt:i<n:=by lia
  refine Y9 zH0 ?_
  rw [Je zEN _]
  show wpAny _ A.in1 (pyNext (.ref I) >>= _) _ _ s
  refine Qa (W.item i s _ _ hlt hst fun v s' hP hst' hm=>?_)
  obtain⟨b,rfl,ot,hot,hct,nt,hdt⟩:=hval i v hlt hP
  have h0':∀ b o,s0.get? b=some o->s'.heap.get? b=some o:=fun b o e=>hm.heap b o (hold b o e).2 (h0 b o e)
  have hS':=hmv s s' i (by lia) hm h0' hS
  have hk1:knd.is s'.heap (key i) (kad i):=hmono _ _ _ _ (hkey i hlt) h0'
  refine Qa (Yf (Qa (wpAny_tryCatch ?_)))
  unfold Builtin.Dict.pairItems
  refine Qa (Jb (T:="tuple") ⟨ot,h0' _ _ hot,hct⟩ ?_)
  rw [if_pos (by decide)]
  refine Qa (wpAny_seqItems (h0' _ _ hot) hdt (Qb ?_))
  show wpAny _ A.in1 (holding [Value.ref (kad i),val i] (dictSet S (.ref (kad i)) (val i))) _ _ s'
  refine Yf (wpAny_dictSet_heap hu hk1 hS' (fun h' hd' hsb=>?_) (Ql (zFl i) (by rw [sizeLine];lia)))
  have hmoved:Moved (S::wr) G s { s' with heap:=h',toks:=s'.toks+knd.draws (key i) }:=
   (hm.mono hsub).then_heap (Yn _ _) fun b o hb e=>by rw [hsb.2 b (fun h:b=S=>hb (by rw [h];exact Qe))];exact e
  refine Qb ⟨plainId_quiet zEN _,ih (i+1) _ (c+1) 0 (by lia) hlt (W.frame _ s' _ _ hst' (Yn _ _) fun b hb o e=>?_) (fun b o e=>?_) hd' fun s'' hm'' h0'' hS''=>?_⟩
  ·rw [hsb.2 b (fun h:b=S=>hSf (by rw [<- h];exact hb))];exact e
  ·show h'.get? b=some o
   rw [hsb.2 b (hold b o e).1];exact h0' b o e
  ·exact hR s'' (Moved.trans W.gtrans hmoved hm'') h0'' hS''
end
end DC
namespace DC
open PySem PyProof.Rows
section
variable {prog:Program}{w:World}{κ:Type}[DecidableEq κ]{knd:HeapKind prog w κ}{A:Around}{E:Value->Shared->Prop}{s:Shared}
theorem zLr{l:Addr}{items:Array Value}{nl:Nat}{sl:Array (Option Value)}{Q:Value->Shared->Prop}(key:Nat->κ)(kad:Nat->Addr)(val:Nat->Value)
  (hmono:∀(h h':Heap) k b,knd.is h k b->(∀ b o,h.get? b=some o->h'.get? b=some o)->knd.is h' k b)
  (hh:A.handled=none) (hu:∀ B:Around,B.units<=A.units+8->knd.room B) (hl:s.heap.get? l=some { cls:=.type "list",dict:=none,data:=.seq items nl,slots:=sl })
  (hi:∀ i v,items[i]?=some v->∃ b,v=.ref b/\s.heap.IsTuple b #[.ref (kad i),val i]) (hk:∀ i,i<items.size->knd.is s.heap (key i) (kad i)) (hb:items.size<=1000)
  (h:∀(h':Heap) (tk:Nat),h'.DictOfH knd s.heap.objs.size (zBn key kad val items.size)->(∀ b o,s.heap.get? b=some o->h'.get? b=some o)->Q (.ref s.heap.objs.size) { s with heap:=h',toks:=tk }):
  wpAny (model prog w) A (call (.type "dict") [.ref l]) Q E s:=by
 refine callType_codes (Q₁:=fun obj s₁=>obj=.ref s.heap.objs.size/\s₁={ s with heap:=s.heap.push { cls:=.type "dict",data:=.dict #[] } }) F.kt_called_dict (F.kt_typeCall_dict_1 _) F.entry_dict_init (kt_code_dict_new _ ⟨rfl,rfl⟩) ?_
 rintro obj s₁ ⟨rfl,rfl⟩
 have hnew:(s.heap.push { cls:=.type "dict",data:=.dict #[] }).DictOfH knd s.heap.objs.size []:=Heap.DictOfH.new s.heap
 have hl':(s.heap.push { cls:=.type "dict",data:=.dict #[] }).get? l=some { cls:=.type "list",dict:=none,data:=.seq items nl,slots:=sl }:=Qc _ hl
 refine⟨hnew.typeIs,F.args_dict_init_2 _ _,?_⟩
 unfold Builtin.«dict.__init__»
 refine Qa ?_
 unfold Builtin.Dict.selfAndRest
 refine Qa (wpAny_notOrdered_dict hnew.typeIs ?_)
 show wpAny _ _ (pure (s.heap.objs.size,[Value.ref l])) _ _ _
 refine Qb ?_
 show wpAny _ _ (Builtin.Dict.updateFrom "dict.__init__" s.heap.objs.size (.ref l) [] .none) _ _ _
 unfold Builtin.Dict.updateFrom
 refine Qa (Jb (T:="list") ⟨_,hl',rfl⟩ ?_)
 rw [if_pos (by decide)]
 refine Qa (zNl hl' rfl rfl rfl (by first | exact hh | simp [hh]) fun h₂ tk₂ keep₂=>?_)
 rw [if_pos (by decide)]
 have hl2:h₂.IsList l items:=⟨_,keep₂ _ _ hl',rfl,nl,rfl⟩
 refine Qa (wpAny_rule (Qa (Jt (s:={ s with heap:=h₂,toks:=tk₂ }) hl2 ?_)))
 refine Qb ⟨plainId_quiet zEN _,?_⟩
 have hS2:h₂.get? s.heap.objs.size=some { cls:=.type "dict",data:=.dict #[] }:=keep₂ _ _ (Qs _ rfl)
 have hSlt:s.heap.objs.size<h₂.objs.size:=Qk hS2
 have hlS:l<s.heap.objs.size:=Qk hl
 have hneI:l≠h₂.objs.size:=Qt (YZ hlS hSlt)
 have hh2:A.in1.in1.handled=none:=by simp [hh]
 have hkeep:∀ b o,s.heap.get? b=some o->(h₂.push { cls:=Value.type "list_iterator",data:=Data.fields #[Value.ref l,Value.int 0 0] }).get? b=some o:=fun b o e=>
  Qc _ (keep₂ b o (Qc _ e))
 refine zMg (knd:=knd) ((Walks.list hh2 h₂.objs.size l hneI items).toS) s.heap.objs.size ?hSf (hu _ (by show A.units+1+1<=_;lia)) key kad val s.heap .none hmono ?hold (fun i v _ hv=>hi i v hv) (fun i hi'=>hk i hi') hb (items.size-0) 0 _ 0 0 (by lia) (QZ _)
  ⟨⟨_,Qs _ rfl,rfl,rfl⟩,hl2.push _⟩ hkeep ?hS0 ?hR
 case hSf=>
  simp only [Qi,Qv,JB,or_false,not_or]
  exact⟨Qt hSlt,YO hlS⟩
 case hold=>
  intro b o e
  have hlt:b<s.heap.objs.size:=Qk e
  refine⟨Qt hlt,fun hm=>?_⟩
  have hb':b=h₂.objs.size:=Qv.mp hm
  rw [hb']at hlt
  exact absurd (YZ hlt hSlt) (YN _)
 case hS0=>exact⟨_,#[],0,Qc _ hS2,⟨rfl,rfl,rfl⟩,rfl,rfl,fun _ hx=>by simp [zBn]at hx,Jw⟩
 case hR=>
  intro s' hm h0 hS'
  obtain⟨h',g',d',tk',os'⟩:=s'
  have eg:g'=s.gens:=hm.gens
  have ed:d'=s.drawn:=hm.drawn
  have eo:os'=s.os:=hm.os
  subst eg;subst ed;subst eo
  exact⟨rfl,h h' tk' hS' h0⟩
end
end DC
namespace DC
open PySem PySem.Spec PyProof.Rows L2 DL ST SL
def decT:D->Option (List Int)
 | .tuple ds=>zBB ds
 | _=>none
theorem zIW:∀ ks:List Int,zBB (ks.map PyData.int)=some ks
 | []=>rfl
 | k::ks=>by show(zBB (ks.map PyData.int)).bind _=_;rw [zIW ks];rfl
theorem zL8(ks:List Int):decT (encT ks)=some ks:=zIW ks
theorem zFv{K:PySem.W.Frag}{H:Hp}{k:DKey}{b:Addr}{ks:List Int}(h:zCr K H k b):decT (encK k)=some ks ↔ k=.inl ks:=by
 cases k with
 | inl js=>
  show decT (encT js)=some ks ↔ _
  rw [zL8]
  constructor
  ·intro e;cases e;rfl
  ·intro e;cases e;rfl
 | inr kss=>
  obtain⟨n,_⟩:=h
  cases kss with
  | nil=>exact absurd rfl n
  | cons x xs=>
   constructor
   ·intro e;cases e
   ·intro e;cases e
theorem zEP{K:PySem.W.Frag}{F:Addr->Prop}{H:Hp}{d:D}{v:V}{ks:List Int}(r:Rep K F H d v)(h:decT d=some ks):∃ b,v=.ref b/\SqT K H b (ks.map V.int):=by
 cases r with
 | @tup a vs ds h1 r1=>
  rw [zDJ r1 (show zBB ds=some ks from h)]at h1
  exact⟨a,rfl,h1⟩
 | _=>cases h
def hasD(kvs:List (D × D))(k:List Int):Bool:=kvs.any fun p=>decT p.1 == some k
def getD(kvs:List (D × D))(k:List Int):Option D:=(kvs.find? fun p=>decT p.1 == some k).map (·.2)
def putD(kvs:List (D × D))(k:List Int)(v:D):List (D × D):=if hasD kvs k=true then kvs.map fun p=>if(decT p.1 == some k)=true then(p.1,v)else p else kvs++[(encT k,v)]
abbrev Ent:=DKey × Addr × V
def hasE(es:List Ent)(k:List Int):Bool:=es.any fun e=>decide (e.1=.inl k)
def putE(es:List Ent)(k:List Int)(b:Addr)(v:V):List Ent:=if hasE es k=true then es.map fun e=>if e.1=.inl k then(e.1,e.2.1,v)else e else es++[(.inl k,b,v)]
theorem zES{K:PySem.W.Frag}{H:Hp}{k:DKey}{b:Addr}{ks:List Int}(h:zCr K H k b):(decT (encK k) == some ks)=decide (k=.inl ks):=by
 by_cases c:k=.inl ks
 ·rw [decide_eq_true c,(zFv h).mpr c,beq_self_eq_true]
 ·rw [decide_eq_false c]
  exact beq_eq_false_iff_ne.mpr fun e=>c ((zFv h).mp e)
section
variable {K:PySem.W.Frag}{F:Addr->Prop}{H:Hp}
theorem DReps.has:∀{kvs:List (D × D)}{es:List Ent} (k:List Int),DReps K F H kvs es->hasD kvs k=hasE es k
 | _,_,_,.nil=>rfl
 | _,_,k,.cons h r t=>by
  have:=DReps.has k t
  unfold hasD hasE at this ⊢
  rw [Jq,Jq,this,zES h]
theorem DReps.append:∀{kvs kvs':List (D × D)}{es es':List Ent},DReps K F H kvs es->DReps K F H kvs' es'->DReps K F H (kvs++kvs') (es++es')
 | _,_,_,_,.nil,s=>s
 | _,_,_,_,.cons h r t,s=>.cons h r (DReps.append t s)
theorem DReps.repl{k:List Int}{d:D}{v:V}(hv:Rep K F H d v):∀{kvs:List (D × D)}{es:List Ent},DReps K F H kvs es->
  DReps K F H (kvs.map fun p=>if(decT p.1 == some k)=true then(p.1,d)else p) (es.map fun e=>if e.1=.inl k then(e.1,e.2.1,v)else e)
 | _,_,.nil=>.nil
 | _,_,@DReps.cons _ _ _ k' b d' v' _ _ h r t=>by
  rw [Qm,Qm]
  by_cases c:k'=.inl k
  ·rw [if_pos (by rw [zES h,decide_eq_true c]),if_pos c]
   exact .cons h hv (DReps.repl hv t)
  ·rw [if_neg (by rw [zES h,decide_eq_false c];decide),if_neg c]
   exact .cons h r (DReps.repl hv t)
theorem DReps.put{k:List Int}{b:Addr}{d:D}{v:V}{kvs:List (D × D)}{es:List Ent}(t:DReps K F H kvs es)(hk:SqT K H b (k.map V.int))(hv:Rep K F H d v):DReps K F H (putD kvs k d) (putE es k b v):=by
 unfold putD putE
 rw [DReps.has k t]
 by_cases c:hasE es k=true
 ·rw [if_pos c,if_pos c];exact DReps.repl hv t
 ·rw [if_neg c,if_neg c];exact DReps.append t (.cons (k:=.inl k) hk hv .nil)
theorem DReps.get:∀{kvs:List (D × D)}{es:List Ent} (k:List Int) {d:D},DReps K F H kvs es->getD kvs k=some d->∃ b v,(es.find? fun e=>decide (e.1=.inl k))=some (.inl k,b,v)/\Rep K F H d v
 | _,_,_,_,.nil,h=>by cases h
 | _,_,k,d,@DReps.cons _ _ _ k' b d' v' _ _ h r t,e=>by
  unfold getD at e
  rw [YV]at e
  rw [YV,zES h]at *
  by_cases c:k'=.inl k
  ·rw [decide_eq_true c]at e ⊢
   cases e
   subst c
   exact⟨b,v',rfl,r⟩
  ·rw [decide_eq_false c]at e ⊢
   exact DReps.get k t e
theorem DReps.length:∀{kvs:List (D × D)}{es:List Ent},DReps K F H kvs es->kvs.length=es.length
 | _,_,.nil=>rfl
 | _,_,.cons h r t=>by simp [DReps.length t]
def zA4(kvs:List (D × D)):Bool:=kvs.all fun p=>(decT p.1).isSome
theorem DReps.flat:∀{kvs:List (D × D)}{es:List Ent},DReps K F H kvs es->zA4 kvs=true->∀ e∈es,∃ ks,e.1=.inl ks/\SqT K H e.2.1 (ks.map V.int)
 | _,_,.nil,_,e,he=>nomatch he
 | _,_,.cons h r t,f,e,he=>by
  unfold zA4 at f
  rw [List.all_cons,QH]at f
  rcases Qi.mp he with rfl | he
  ·obtain⟨ks,q⟩:=Jf.mp f.1
   have:=(zFv h).mp q
   refine⟨ks,this,?_⟩
   dsimp only at this ⊢
   subst this
   exact h
  ·exact DReps.flat t f.2 e he
end
abbrev Raw:=List Int × Addr × Value
abbrev ER:Ent->Raw->Prop:=fun e x=>e.1=.inl x.1/\e.2.1=x.2.1/\RelV e.2.2 x.2.2
theorem zEm(k:List Int):∀{es:List Ent}{xs:List Raw},Paired ER es xs->hasE es k=(atKey xs k).isSome
 | _,_,.nil=>rfl
 | _,_,@Paired.cons _ _ _ e x es xs h t=>by
  have ih:=zEm k t
  unfold hasE at ih ⊢
  rw [Jq,ih]
  by_cases c:x.1=k
  ·have a:atKey (x::xs) k=some x.2:=by simp [atKey,YV,c]
   rw [a,decide_eq_true (by rw [h.1,c])];rfl
  ·have a:atKey (x::xs) k=atKey xs k:=by simp [atKey,YV,c]
   rw [a,decide_eq_false (by rw [h.1];intro z;cases z;exact c rfl)];rfl
theorem zH6{k:List Int}{v:V}{u:Value}(hv:RelV v u):∀{es:List Ent}{xs:List Raw},Paired ER es xs->Paired ER (es.map fun e=>if e.1=.inl k then(e.1,e.2.1,v)else e) (xs.map (putAt k u))
 | _,_,.nil=>.nil
 | _,_,@Paired.cons _ _ _ e x es xs h t=>by
  rw [Qm,Qm]
  refine .cons ?_ (zH6 hv t)
  unfold putAt
  by_cases c:x.1=k
  ·rw [if_pos c,if_pos (by rw [h.1,c])];exact⟨h.1,h.2.1,hv⟩
  ·rw [if_neg c,if_neg (by rw [h.1];intro z;cases z;exact c rfl)];exact h
theorem zMt{k:List Int}{b:Addr}{v:V}{u:Value}(hv:RelV v u){es:List Ent}{xs:List Raw}(t:Paired ER es xs):Paired ER (putE es k b v) (storedH xs k b u):=by
 unfold putE storedH
 rw [zEm k t]
 by_cases c:(atKey xs k).isSome=true
 ·rw [if_pos c,if_pos c];exact zH6 hv t
 ·rw [if_neg c,if_neg c];exact Paired.snoc t ⟨rfl,rfl,hv⟩
theorem zFE:∀{es:List Ent}{xs:List Raw},Paired ER es xs->es.map (·.1)=(xs.map (·.1)).map Sum.inl
 | _,_,.nil=>rfl
 | _,_,.cons h t=>by rw [Qm,Qm,Qm,zFE t,h.1]
theorem zH5{k:List Int}{b:Addr}{v:V}:∀{es:List Ent}{xs:List Raw},Paired ER es xs->(es.find? fun e=>decide (e.1=.inl k))=some (.inl k,b,v)->∃ p,atKey xs k=some p/\RelV v p.2
 | _,_,.nil,q=>by cases q
 | _,_,@Paired.cons _ _ _ e x es xs h t,q=>by
  rw [YV]at q
  by_cases c:x.1=k
  ·have a:atKey (x::xs) k=some x.2:=by simp [atKey,YV,c]
   rw [decide_eq_true (by rw [h.1,c])]at q
   cases q
   exact⟨_,a,h.2.2⟩
  ·have a:atKey (x::xs) k=atKey xs k:=by simp [atKey,YV,c]
   rw [decide_eq_false (by rw [h.1];intro z;cases z;exact c rfl)]at q
   rw [a]
   exact zH5 t q
theorem zOe{l:List (List Int)}(h:l.Nodup):(l.map (Sum.inl:List Int->DKey)).Nodup:=by
 rw [List.Nodup,Q1]
 exact List.Pairwise.imp (fun n e=>n (Sum.inl.inj e)) h
theorem zOf{l:List (List Int)}(h:(l.map (Sum.inl:List Int->DKey)).Nodup):l.Nodup:=by
 rw [List.Nodup,Q1]at h
 exact List.Pairwise.imp (fun n e=>n (by rw [e])) h
abbrev TKd(P:Program)(w:World):HeapKind P w (List Int):=tupleKind (intKind P w)
theorem zFt{X:Cx}{pins:List (Addr × Obj)}{σ:L2.St}{H:Hp}{s:Shared}{a:Addr}{es:List Ent}{ep:Nat}(I:Inv X pins σ H s)(h:H a=some (DctO a es ep))(hf:∀ e∈es,∃ ks,e.1=.inl ks/\SqT X.K H e.2.1 (ks.map V.int))(hn:(es.map (·.1)).Nodup):
  (a == sysModules)=false/\∃ xs:List Raw,s.heap.DictOfH (TKd X.prog X.w) a xs/\Paired ER es xs:=by
 obtain⟨⟨lo,o,raw,h1,h2,h3,h4⟩,_⟩:=(show zAU X.prog X.w H s.heap a (DctO a es ep)from I.hok a _ h)
 have mk:∀{l:List Ent}{r:List DictEntry},Paired (fun(e:DKey × Addr × V) (r:DictEntry)=>r.hash=zIN e.1/\r.key=.ref e.2.1/\RelV e.2.2 r.val) l r->(∀ e∈l,∃ ks,e.1=.inl ks/\SqT X.K H e.2.1 (ks.map V.int))->
   ∃ xs:List Raw,r=xs.map (entryOfKey (TKd X.prog X.w))/\Paired ER l xs/\∀ x∈xs,(TKd X.prog X.w).is s.heap x.1 x.2.1:=by
  intro l r q
  induction q with
  | nil=>exact fun _=>⟨[],rfl,.nil,fun x hx=>nomatch hx⟩
  | @cons e r l rs h t ih=>
   intro hf
   obtain⟨xs,q1,q2,q3⟩:=ih fun e he=>hf e (Qd _ he)
   obtain⟨ks,e1,e2⟩:=hf e Qe
   refine⟨(ks,e.2.1,r.val)::xs,?_,.cons ⟨e1,rfl,h.2.2⟩ q2,fun x hx=>?_⟩
   ·rw [Qm,<- q1]
    congr 1
    obtain⟨rh,rk,rv⟩:=r
    obtain⟨z1,z2,z3⟩:=h
    dsimp only at z1 z2 ⊢
    subst z1 z2
    rw [e1]
    rfl
   ·rcases Qi.mp hx with rfl | hx
    ·exact zB0 I e2
    ·exact q3 x hx
 obtain⟨xs,q1,q2,q3⟩:=mk h4 hf
 refine⟨lo,xs,⟨o,raw,ep,h1,h2,h3,q1,q3,?_⟩,q2⟩
 rw [zFE q2]at hn
 exact zOf hn
theorem zL0{P:Program}{w:World}{H:Hp}{h:Heap}{a:Addr}{es:List Ent}{xs:List Raw}(lo:(a == sysModules)=false)(d:h.DictOfH (TKd P w) a xs)(r:Paired ER es xs):∃ ep,zAU P w H h a (DctO a es ep):=by
 obtain⟨o,raw,ep,h1,h2,h3,h4,h5,h6⟩:=d
 clear h5 h6
 refine⟨ep,⟨lo,o,raw,h1,h2,h3,?_⟩,⟨o,h1⟩,fun h1' h2' ⟨lo,o,raw,g1,g2⟩ k=>⟨lo,o,raw,k _ g1,g2⟩⟩
 rw [h4]
 clear h1 h2 h3 h4
 induction r with
 | nil=>exact .nil
 | @cons e x es xs h t ih=>
  rw [Qm]
  refine .cons ⟨?_,?_,h.2.2⟩ ih
  ·rw [h.1];rfl
  ·rw [h.2.1];rfl
end DC
namespace DC
open PySem PySem.Spec PyProof.Rows L2 DL ST SL
section
variable {X:Cx}
def dIn2(neg:Bool)(d e:D):Option D:=match e with
 | .dict kvs=>(decT d).bind fun k=>if zA4 kvs=true then some (.bool (if neg then !hasD kvs k else hasD kvs k))else none
 | e=>dIn neg d e
theorem zEe{neg:Bool}{d r:D}{kvs:List (D × D)}(h:dIn2 neg d (.dict kvs)=some r):∃ k,decT d=some k/\zA4 kvs=true/\r=.bool (if neg then !hasD kvs k else hasD kvs k):=by
 obtain⟨k,e1,q⟩:=bnd (show((decT d).bind fun k=>if zA4 kvs=true then some (PyData.bool (if neg then !hasD kvs k else hasD kvs k))else none)=some r from h)
 by_cases c:zA4 kvs=true
 ·rw [if_pos c]at q;cases q;exact⟨k,e1,c,rfl⟩
 ·rw [if_neg c]at q;cases q
theorem zDR(hu:X.A.units+65<cLine):OpR X (compareOp .In) (rD2 X.K (dIn2 false)):=fun pins s σ H x y v u Q I rx ry zz=>by
 obtain⟨F,d,e,q,z,R1,R2,hq,k⟩:=zz
 cases R2 with
 | @dct a es kvs ep f h n l t=>
  obtain⟨ks,e1,fl,rfl⟩:=zEe hq
  obtain⟨b,rfl,hb⟩:=zEP R1 e1
  cases rx
  cases ry
  obtain⟨lo,xs,dd,er⟩:=zFt I h (DReps.flat t fl) n
  refine wpAny_in_heap (knd:=TKd X.prog X.w) (k:=ks) (show X.A.in1.units<cLine from by show X.A.units+1<cLine;lia) (zB0 I hb) lo dd ?_
  rw [<- zEm ks er,<- DReps.has ks t]
  exact⟨.bl _,H,I.tok _,rfl,k F H _ (Ext.refl F H) (.bl _)⟩
 | exn f h n=>
  obtain⟨ks,e1,fl,_⟩:=zEe hq
  cases fl
 | tup h r=>exact zGt hu pins s σ H _ _ v u Q I rx ry ⟨F,d,_,q,z,R1,.tup h r,hq,k⟩
 | lst h r=>exact zGt hu pins s σ H _ _ v u Q I rx ry ⟨F,d,_,q,z,R1,.lst h r,hq,k⟩
 | non=>cases hq
 | bl _=>cases hq
 | int _=>cases hq
 | str _=>cases hq
theorem zOw(hu:X.A.units+65<cLine):OpR X (compareOp .NotIn) (rD2 X.K (dIn2 true)):=fun pins s σ H x y v u Q I rx ry zz=>by
 obtain⟨F,d,e,q,z,R1,R2,hq,k⟩:=zz
 cases R2 with
 | @dct a es kvs ep f h n l t=>
  obtain⟨ks,e1,fl,rfl⟩:=zEe hq
  obtain⟨b,rfl,hb⟩:=zEP R1 e1
  cases rx
  cases ry
  obtain⟨lo,xs,dd,er⟩:=zFt I h (DReps.flat t fl) n
  refine wpAny_notIn_heap (knd:=TKd X.prog X.w) (k:=ks) (show X.A.in1.units<cLine from by show X.A.units+1<cLine;lia) (zB0 I hb) lo dd ?_
  rw [<- zEm ks er,<- DReps.has ks t]
  exact⟨.bl _,H,I.tok _,rfl,k F H _ (Ext.refl F H) (.bl _)⟩
 | exn f h n=>
  obtain⟨ks,e1,fl,_⟩:=zEe hq
  cases fl
 | tup h r=>exact zGu hu pins s σ H _ _ v u Q I rx ry ⟨F,d,_,q,z,R1,.tup h r,hq,k⟩
 | lst h r=>exact zGu hu pins s σ H _ _ v u Q I rx ry ⟨F,d,_,q,z,R1,.lst h r,hq,k⟩
 | non=>cases hq
 | bl _=>cases hq
 | int _=>cases hq
 | str _=>cases hq
def dIx2(d e:D):Option D:=match d with
 | .dict kvs=>(decT e).bind fun k=>if zA4 kvs=true then getD kvs k else none
 | d=>dIx d e
theorem ixd2(hu:X.A.units+65<cLine):IxR X (rD2 X.K dIx2):=fun value slice pins s σ H x y v u Q I rx ry zz hs=>by
 obtain⟨F,d,e,q,z,R1,R2,hq,k⟩:=zz
 cases R1 with
 | @dct a es kvs ep f h n l t=>
  obtain⟨ks,e1,hq⟩:=bnd (show((decT e).bind fun k=>if zA4 kvs=true then getD kvs k else none)=some q from hq)
  by_cases fl:zA4 kvs=true
  ·rw [if_pos fl]at hq
   obtain⟨b,rfl,hb⟩:=zEP R2 e1
   cases rx
   cases ry
   obtain⟨lo,xs,dd,er⟩:=zFt I h (DReps.flat t fl) n
   obtain⟨b',v',g1,g2⟩:=DReps.get ks t hq
   obtain⟨p,g3,g4⟩:=zH5 er g1
   have hT:=dd.typeIs
   unfold subscriptTail
   refine Qa ?_
   rw [getitemInPython_of_ne hT.not_modules]
   refine Qa (wpAny_specialOf hT PySem.F.slot_dict_getitem.lookup ?_)
   have fin:wpAny (model X.prog X.w) X.A (subscripted slice false (.ref a) (.ref b)) (fun r s₃=>wpAny (model X.prog X.w) X.A (letTemporaryGo value (.ref a) r >>= fun _=>pure r) (EP X pins σ Q) X.xe s₃) X.xe s:=by
    rw [hs]
    refine wpAny_operating ?_
    refine wpAny_getItem_heap (knd:=TKd X.prog X.w) (k:=ks) (show X.A.in1.units<cLine from by show X.A.units+1<cLine;lia) (zB0 I hb) dd g3 ?_
    exact Qa (wpAny_letTemporaryGo (Qb ⟨v',H,I.tok _,g4,k F H _ (Ext.refl F H) g2⟩))
   first
    | exact Qb (Qa fin)
    | exact Qa (Qb (Qa fin))
    | exact Qa fin
  ·rw [if_neg fl]at hq;cases hq
 | exn f h n=>
  obtain⟨ks,e1,hq⟩:=bnd hq
  cases hq
 | tup h r=>exact ixd value slice pins s σ H _ _ v u Q I rx ry ⟨F,_,e,q,z,.tup h r,R2,hq,k⟩ hs
 | lst h r=>exact ixd value slice pins s σ H _ _ v u Q I rx ry ⟨F,_,e,q,z,.lst h r,R2,hq,k⟩ hs
 | non=>cases hq
 | bl _=>cases hq
 | int _=>cases hq
 | str _=>cases hq
end
end DC
namespace DC
open PySem PySem.Spec PyProof.Rows L2 DL ST SL
def zDV:D->Option (List Int × D)
 | .tuple [k,v]=>(decT k).bind fun ks=>some (ks,v)
 | _=>none
def zCd:List D->Option (List (List Int × D))
 | []=>some []
 | d::r=>(zDV d).bind fun p=>(zCd r).bind fun ps=>some (p::ps)
def zCV(ps:List (List Int × D)):List (D × D):=ps.foldl (fun kvs p=>putD kvs p.1 p.2) []
def zEd:List D->Option D
 | [.list ds]=>if ds.length<=1000 then(zCd ds).bind fun ps=>some (.dict (zCV ps))else none
 | _=>none
structure Tr where
 k:List Int
 b:Addr
 v:V
 d:D
def TrOk(K:PySem.W.Frag)(F:Addr->Prop)(H:Hp)(x:V)(t:Tr):Prop:=∃ b,x=.ref b/\SqT K H b [.ref t.b,t.v]/\SqT K H t.b (t.k.map V.int)/\Rep K F H t.d t.v
theorem zOA{K:PySem.W.Frag}{F:Addr->Prop}{H:Hp}{d:D}{x:V}{p:List Int × D}(r:Rep K F H d x)(h:zDV d=some p):∃ t,p=(t.k,t.d)/\TrOk K F H x t:=by
 cases r with
 | @tup a vs ds h1 r1=>
  unfold zDV at h
  split at h
  ·rename_i k v e
   cases e
   obtain⟨ks,e1,h⟩:=bnd h
   cases h
   cases r1 with
   | cons rk r2=>
    cases r2 with
    | cons rv r3=>
     cases r3
     obtain⟨b,rfl,hb⟩:=zEP rk e1
     exact⟨⟨ks,b,_,v⟩,rfl,a,rfl,h1,hb,rv⟩
  ·cases h
 | _=>cases h
theorem zJP{K:PySem.W.Frag}{F:Addr->Prop}{H:Hp}:∀{ds:List D}{vs:List V}{ps:List (List Int × D)},Reps K F H ds vs->zCd ds=some ps->∃ ts:List Tr,ps=ts.map (fun t=>(t.k,t.d))/\Paired (TrOk K F H) vs ts
 | _,_,_,.nil,h=>by cases h;exact⟨[],rfl,.nil⟩
 | _,_,_,.cons r rs,h=>by
  obtain⟨p,e1,h⟩:=bnd h
  obtain⟨ps,e2,h⟩:=bnd h
  cases h
  obtain⟨t,rfl,q⟩:=zOA r e1
  obtain⟨ts,rfl,q2⟩:=zJP rs e2
  exact⟨t::ts,rfl,.cons q q2⟩
theorem Paired.at{α β:Type}{R:α->β->Prop}:∀{l:List α}{m:List β}{i:Nat}{a:α},Paired R l m->l[i]?=some a->∃ b,m[i]?=some b/\R a b
 | _,_,_,_,.nil,e=>by simp at e
 | _,_,0,_,.cons h _,e=>by simp at e;subst e;exact⟨_,rfl,h⟩
 | _,_,i+1,_,.cons _ t,e=>by
  obtain⟨b,h1,h2⟩:=Paired.at t (by simpa using e)
  exact⟨b,by simpa using h1,h2⟩
theorem Paired.atR{α β:Type}{R:α->β->Prop}:∀{l:List α}{m:List β}{i:Nat}{b:β},Paired R l m->m[i]?=some b->∃ a,l[i]?=some a/\R a b
 | _,_,_,_,.nil,e=>by simp at e
 | _,_,0,_,.cons h _,e=>by simp at e;subst e;exact⟨_,rfl,h⟩
 | _,_,i+1,_,.cons _ t,e=>by
  obtain⟨b,h1,h2⟩:=Paired.atR t (by simpa using e)
  exact⟨b,by simpa using h1,h2⟩
theorem pick{P:Nat->Value->Prop}(n:Nat)(h:∀ i,i<n->∃ u,P i u):∃ f:Nat->Value,∀ i,i<n->P i (f i):=by
 classical
 refine⟨fun i=>if c:i<n then Classical.choose (h i c)else .none,fun i hi=>?_⟩
 show P i (if c:i<n then Classical.choose (h i c)else .none)
 rw [dif_pos hi]
 exact Classical.choose_spec (h i hi)
def Tr0:Tr:=⟨[],0,.non,.none⟩
theorem zIg{K:PySem.W.Frag}{F:Addr->Prop}{H:Hp}(ts:List Tr)(val:Nat->Value)(hk:∀ t∈ts,SqT K H t.b (t.k.map V.int)/\Rep K F H t.d t.v)(hv:∀(i:Nat) t,ts[i]?=some t->RelV t.v (val i)):
  ∀ i,i<=ts.length->∃ es,DReps K F H (zCV ((ts.map fun t=>(t.k,t.d)).take i)) es/\Paired ER es (zBn (fun i=>(ts.getD i Tr0).k) (fun i=>(ts.getD i Tr0).b) val i)
 | 0,_=>⟨[],.nil,.nil⟩
 | i+1,hi=>by
  obtain⟨es,h1,h2⟩:=zIg ts val hk hv i (by lia)
  have hlt:i<ts.length:=hi
  have hg:ts[i]?=some ts[i]:=by simp [hlt]
  have hD:ts.getD i Tr0=ts[i]:=by simp [List.getD,hlt]
  have hm:=hk ts[i] (YD hlt)
  refine⟨putE es ts[i].k ts[i].b ts[i].v,?_,?_⟩
  ·have e:(ts.map fun t=>(t.k,t.d)).take (i+1)=(ts.map fun t=>(t.k,t.d)).take i++[(ts[i].k,ts[i].d)]:=by
    rw [List.take_succ,QM,hg];rfl
   rw [e]
   unfold zCV
   rw [List.foldl_append]
   exact DReps.put h1 hm.1 hm.2
  ·show Paired ER _ (storedH _ (ts.getD i Tr0).k (ts.getD i Tr0).b (val i))
   rw [hD]
   exact zMt (hv i _ hg) h2
section
variable {X:Cx}
theorem boot_dict:bootBuiltins "dict"=some (.type "dict"):=by decide +kernel
theorem zQe{P:Program}{w:World}(h h':Heap)(k:List Int)(b:Addr)(x:(TKd P w).is h k b)(e:∀ b o,h.get? b=some o->h'.get? b=some o):(TKd P w).is h' k b:=TK.at x fun o ho=>e b o ho
theorem zLm{pins:List (Addr × Obj)}{σ:L2.St}{H:Hp}{s:Shared}(I:Inv X pins σ H s):sysModules<s.heap.objs.size:=by
 have h:mainGlobals<s.heap.objs.size:=(I.mod.glob.keeps I.bk).lt
 exact YZ (by decide) h
def rDict(K:PySem.W.Frag):List V->Hp->VK->Prop:=fun xs H Q=>∃(F:Addr->Prop) (ds:List D) (ps:List (List Int × D)),(∀ a,F a->H a≠none)/\Reps K F H [.list ds] xs/\ds.length<=1000/\zCd ds=some ps /\
 ∀ p es ep,H p=none->DReps K F H (zCV ps) es->(es.map (·.1)).Nodup->es.length<=1000->Q (.ref p) (upd H p (DctO p es ep))
theorem zLR(hc:X.calm=true)(hu:X.A.units+66<cLine):zAF X (.type "dict") (rDict X.K):=fun pins s σ H xs us Q I rv zz=>by
 obtain⟨F,ds,ps,z,R,hl,e1,k⟩:=zz
 cases R with
 | cons R1 R2=>
  cases R2
  cases R1 with
  | @lst a vs _ h1 r1=>
   obtain⟨u,rfl,ru⟩:=zBw rv
   cases ru
   obtain⟨its,rvs,⟨o,nl,g1,g2,g3,g4⟩,_⟩:=I.list h1.sq
   obtain⟨ts,rfl,pr⟩:=zJP r1 e1
   have hlen:its.length=ts.length:=by rw [<- rvs.length];exact Paired.length pr
   have hts:ts.length<=1000:=by rw [<- Paired.length pr,<- r1.length];exact hl
   obtain⟨val,hval⟩:=pick (P:=fun i u=>∀ t,ts[i]?=some t->RelV t.v u/\∀ v,its[i]?=some v->∃ b,v=.ref b/\s.heap.IsTuple b #[.ref t.b,u]) ts.length fun i hi=>by
    have hg:ts[i]?=some ts[i]:=by simp [hi]
    obtain⟨x,hx,b,rfl,t1,t2,t3⟩:=Paired.atR pr hg
    obtain⟨jts,rj,itp,_⟩:=I.tuple t1
    cases rj with
    | @cons _ u1 _ us1 ra rb=>
     cases rb with
     | @cons _ u2 _ us2 rc rd=>
      cases rd
      cases ra
      refine⟨u2,fun t ht=>?_⟩
      rw [hg]at ht;cases ht
      refine⟨rc,fun v hv=>?_⟩
      obtain⟨w',ew,rw'⟩:=rvs.get hx
      rw [hv]at ew;cases ew
      cases rw'
      exact⟨b,rfl,itp⟩
   obtain⟨oc,od,odt,osl⟩:=o
   have hob:s.heap.get? a=some { cls:=.type "list",dict:=none,data:=.seq its.toArray nl,slots:=osl }:=by
    rw [g1];simp only at g2 g3 g4;rw [g2,g3,g4]
   refine zLr (knd:=TKd X.prog X.w) (fun i=>(ts.getD i Tr0).k) (fun i=>(ts.getD i Tr0).b) val zQe (I.ok.hd hc) (fun B hB=>show B.units<cLine by lia) hob (fun i v hv=>?_) (fun i hi=>?_) (by rw [Qw,hlen];exact hts) fun h' tk dd keep=>?_
   ·have hv':its[i]?=some v:=by simpa using hv
    have hi:i<ts.length:=by rw [<- hlen];exact(Qf.mp hv').1
    have hg:ts[i]?=some ts[i]:=by simp [hi]
    have hD:ts.getD i Tr0=ts[i]:=by simp [List.getD,hi]
    obtain⟨b,e,it⟩:=(hval i hi _ hg).2 v hv'
    exact⟨b,e,by rw [hD];exact it⟩
   ·have hi':i<ts.length:=by rw [<- hlen];simpa using hi
    have hg:ts[i]?=some ts[i]:=by simp [hi']
    have hD:ts.getD i Tr0=ts[i]:=by simp [List.getD,hi']
    obtain⟨x,hx,b,_,t1,t2,t3⟩:=Paired.atR pr hg
    show TK X.prog X.w s.heap (ts.getD i Tr0).k (ts.getD i Tr0).b
    rw [hD]
    exact zB0 I t2
   ·obtain⟨es,f1,f2⟩:=zIg (K:=X.K) (F:=F) (H:=H) ts val (fun t ht=>by
     obtain⟨i,hi⟩:=List.mem_iff_getElem?.mp ht
     obtain⟨x,hx,b,_,t1,t2,t3⟩:=Paired.atR pr hi
     exact⟨t2,t3⟩) (fun i t ht=>(hval i (Qf.mp ht).1 t ht).1) ts.length (Qh _)
    rw [Jp (by simp)]at f1
    have hsz:its.toArray.size=ts.length:=by rw [Qw,hlen]
    rw [hsz]at dd
    have lo:(s.heap.objs.size == sysModules)=false:=beq_eq_false_iff_ne.mpr (Ne.symm (Qt (zLm I)))
    have hp:H s.heap.objs.size=none:=I.hok.fresh (Qh _)
    obtain⟨ep,oo⟩:=zL0 (H:=H) lo dd f2
    refine⟨.ref s.heap.objs.size,upd H s.heap.objs.size (DctO s.heap.objs.size es ep),I.laid keep (Qh _) oo,rfl,k _ es ep hp f1 ?_ ?_⟩
    ·obtain⟨_,_,_,_,_,_,_,_,hn⟩:=dd
     rw [zFE f2];exact zOe hn
    ·rw [Paired.length f2];exact Ql (zFl _) hts
theorem zHz(hc:X.calm=true)(hu:X.A.units+66<cLine):zAF X (.type "dict") (rDA X.K zEd):=zB4 (zLR hc hu) fun xs H Q zz=>by
 obtain⟨F,ds,q,z,R,hq,k⟩:=zz
 unfold zEd at hq
 split at hq
 ·rename_i ds'
  by_cases hl:ds'.length<=1000
  ·rw [if_pos hl]at hq
   obtain⟨ps,e1,hq⟩:=bnd hq
   cases hq
   exact⟨F,ds',ps,z,R,hl,e1,fun p es ep hp r n l=>k _ _ _ (Ext.frozen hp) (.dct (.inr rfl) zBm n l (r.stay (Ext.frozen hp).stay))⟩
  ·rw [if_neg hl]at hq;cases hq
 ·cases hq
end
end DC
namespace DC
open PySem PySem.Spec PyProof.Rows L2 DL ST SL EL
def iSeq(ga:Rho->Option D):Rho->Option (List D):=fun ρ=>(ga ρ).bind seqD
def zBA(gr:Rho->Option (List D)):Rho->Option (List D):=fun ρ=>(gr ρ).bind rng1
def iZip(gr:Rho->Option (List D)):Rho->Option (List D):=fun ρ=>(gr ρ).bind zipD
def zCv(gr:Rho->Option (List D)):Rho->Option (List D):=fun ρ=>(gr ρ).bind zFB
section
variable {X:Cx}{tg e a b:Expr}{es:List Expr}{ga:Rho->Option D}{gr:Rho->Option (List D)}{p pos:Pos}
theorem zAJ(ha:DE X e ga):DI X tg e (iSeq ga):=zHQ ha
theorem zDz(hg:Gl X "range")(hm:X.mg "range"=none)(ha:DA X [a] gr)(hs:starEach [a] X.env=[(false,eval a X.env)]:=by rfl):DI X tg (.Call (.Name "range" p) [a] [] pos) (zBA gr):=zMd hg hm ha hs
theorem zMc{elts:List Expr}{x1}{tpos:Pos}(hg:Gl X "zip")(hm:X.mg "zip"=none)(ha:DA X [a,b] gr)(hs:starEach [a,b] X.env=[(false,eval a X.env),(false,eval b X.env)]:=by rfl)(hs2:starEach [b] X.env=[(false,eval b X.env)]:=by rfl):
  DI X (.Tuple elts x1 tpos) (.Call (.Name "zip" p) [a,b] [] pos) (iZip gr):=zMe hg hm ha hs hs2
theorem zHP{elts:List Expr}{x1}{tpos:Pos}(hg:Gl X "enumerate")(hm:X.mg "enumerate"=none)(ha:DA X [a] gr)(hs:starEach [a] X.env=[(false,eval a X.env)]:=by rfl):
  DI X (.Tuple elts x1 tpos) (.Call (.Name "enumerate" p) [a] [] pos) (zCv gr):=zL9 hg hm ha hs
end
end DC
namespace DL
open PySem PySem.Spec PyProof.Rows L2
end DL
namespace DC
open PySem PySem.Spec PyProof.Rows L2 DL ST SL EL
section
variable {X:Cx}{e k v:Expr}{es:List Expr}{gr:Rho->Option (List D)}{gk gv:Rho->Option D}{p pos:Pos}
end
end DC
namespace DC
open PySem PySem.Spec PyProof.Rows L2 DL ST SL EL
def RDt(h:Heap)(a:Addr)(raw:Array DictEntry)(ep:Nat):Prop:=(a == sysModules)=false/\∃ o,h.get? a=some o/\o.ExactDict/\o.data=.dict raw ep
section
variable {P:Program}{w:World}{A:Around}{E:Value->Shared->Prop}{s:Shared}{d it:Addr}{raw:Array DictEntry}{ep i:Nat}
theorem RDt.ty(h:RDt s.heap d raw ep):s.TypeIs (.ref d) "dict":=let⟨_,o,h1,h2,_⟩:=h;⟨o,h1,h2.1⟩
theorem zM9{Q:Value->Shared->Prop}(h:RDt s.heap d raw ep)(hQ:Q (.ref s.heap.objs.size) { s with heap:=s.heap.push { cls:=.type "dict_keyiterator",data:=.fields #[.ref d,.int 0 0,.int raw.size 0,.int ep 0] } }):wpAny (model P w) A (pyIter (.ref d)) Q E s:=by
 have hT:=h.ty
 obtain⟨lo,o,h1,h2,h3⟩:=h
 refine wpAny_pyIter_slot hT PySem.F.slot_dict_iter (Yg PySem.F.slot_dict_iter hT PySem.F.entry_dict_iter ?_ (PySem.F.args_dict_iter_1 _))
 unfold Builtin.«dict.__iter__»;refine Qa ?_;unfold Builtin.Dict.dictSlotNone
 refine Qa (wpAny_notOrdered_dict hT ?_);show wpAny _ _ (pure (Value.ref d)) _ _ s;refine Qb ?_
 show wpAny _ _ (Builtin.Dict.showsAll d >>= _) _ _ s;unfold Builtin.Dict.showsAll
 rw [if_neg (by rw [lo];exact Qu)];refine Qa (Qb (Qa (wpAny_dictEntries h1 h3 ?_)))
 refine Qa (wpAny_dictEpoch h1 h3 (Qa (Q8 (Qb ⟨_,rfl,"dict_keyiterator",_,⟨_,Qs _ rfl,rfl⟩,PySem.F.slot_dict_keyiterator_next.lookup,?_⟩))))
 simpa [rawInt]using hQ
theorem zOc{Q:Option Value->Shared->Prop}(hit:s.heap.IsKeyIter it d i raw.size ep)(h:RDt s.heap d raw ep)(hi:i<raw.size)
  (hQ:∀ h',h'.IsKeyIter it d (i+1) raw.size ep->Heap.SameBut it s.heap h'->Q (some raw[i].key) { s with heap:=h' }):wpAny (model P w) A (pyNext (.ref it)) Q E s:=by
 obtain⟨o,ho,hc,hd⟩:=id hit
 obtain⟨lo,od,g1,g2,g3⟩:=h
 unfold pyNext
 refine Qa (wpAny_attempt (Ym (name:=Str.ofString "__next__") hit.typeIs PySem.F.slot_dict_keyiterator_next (Yg PySem.F.slot_dict_keyiterator_next hit.typeIs PySem.F.entry_dict_keyiterator_next ?_ (PySem.F.args_dict_keyiterator_next_1 _))))
 refine Qa (Qb (Qa (Qa ?_)))
 refine Qa (YR hit.typeIs (Qb (Qa (wpAny_fieldsOf ho hd ?_))))
 simp only [show Builtin.Dict_items.ownsTuple "dict_keyiterator"=false from by decide,Qq,if_false]
 show wpAny _ _ (if(Value.ref d == Value.none)=true then _ else _) _ _ s;rw [if_neg (show ¬ ((Value.ref d == Value.none)=true)from Qu)]
 refine Qa (Qb (Qa (wpAny_dictEntries g1 g3 ?_)))
 rw [if_neg (by simp)];refine Qa (Qb (Qa (wpAny_dictEpoch g1 g3 ?_)));rw [if_neg (by simp)];refine Qb ?_
 simp only [show ¬ ((i:Int)<0)from by lia,if_false,YS,QA hi];refine Qa ?_
 refine Qa (YR hit.typeIs (Qb (Qa (wpAny_isOneOf_keyiter hit.typeIs ?_))))
 show wpAny _ _ (setField (.ref it) 1 (rawInt ((i:Int)+1)) >>= _) _ _ s;refine Qa (Jk ho hd (by simp) ?_)
 have hit':(s.heap.update it (Obj.mapFields (·.setIfInBounds 1 (rawInt ((i:Int)+1))))).IsKeyIter it d (i+1) raw.size ep:=⟨_,Ye _ ho (Js (YC hd _)),(Obj.cls_mapFields ..).trans hc,by rw [YC hd];simp [rawInt]⟩
 refine Qa (Yf (Qa (wpAny_isOneOf_keyiter (s:={ s with heap:=s.heap.update it (Obj.mapFields (·.setIfInBounds 1 (rawInt ((i:Int)+1)))) }) hit'.typeIs ?_)))
 show wpAny _ _ (pure raw[i].key) _ _ _;exact Qb (Qb ⟨_,rfl,Qb (hQ _ hit' (QY ..))⟩)
theorem zMp{Q:Option Value->Shared->Prop}(hh:A.handled=none)(hit:s.heap.IsKeyIter it d i raw.size ep)(h:RDt s.heap d raw ep)(hi:raw.size<=i)
  (hQ:∀ h',Heap.ExtBut it s.heap h'->Q none { s with heap:=h' }):wpAny (model P w) A (pyNext (.ref it)) Q E s:=by
 obtain⟨o,ho,hc,hd⟩:=id hit
 obtain⟨lo,od,g1,g2,g3⟩:=h
 unfold pyNext
 refine Qa (wpAny_attempt (Ym (name:=Str.ofString "__next__") hit.typeIs PySem.F.slot_dict_keyiterator_next (Yg PySem.F.slot_dict_keyiterator_next hit.typeIs PySem.F.entry_dict_keyiterator_next ?_ (PySem.F.args_dict_keyiterator_next_1 _))))
 refine Qa (Qb (Qa (Qa ?_)))
 refine Qa (YR hit.typeIs (Qb (Qa (wpAny_fieldsOf ho hd ?_))))
 simp only [show Builtin.Dict_items.ownsTuple "dict_keyiterator"=false from by decide,Qq,if_false]
 show wpAny _ _ (if(Value.ref d == Value.none)=true then _ else _) _ _ s;rw [if_neg (show ¬ ((Value.ref d == Value.none)=true)from Qu)]
 refine Qa (Qb (Qa (wpAny_dictEntries g1 g3 ?_)))
 rw [if_neg (by simp)];refine Qa (Qb (Qa (wpAny_dictEpoch g1 g3 ?_)));rw [if_neg (by simp)];refine Qb ?_
 simp only [show ¬ ((i:Int)<0)from by lia,if_false,YS,Yi hi];refine Qa ?_
 refine Qa (YR hit.typeIs (Qb ?_));show wpAny _ _ (setField (.ref it) 0 .none >>= _) _ _ s
 refine Qa (Jk ho hd (by simp) ?_);show wpAny _ _ (newExc (.type "StopIteration") [] >>= _) _ _ _;refine Qa ?_
 simp only [newExc,newTuple];refine Qa (Q8 ?_ (by size_fits))
 refine Qa (m:=firstArgMember _ _) (wpAny_of_eq (a:=Value.none) (by first | rfl | (simp only [firstArgMember];rfl)) (Q8 ?_ (by size_fits)))
 simp only [raiseNew];refine Qa (wpAny_handled ?_);rw [show A.in1.handled=none from hh]
 refine Qa (Qb (wpAny_throw ?_));refine Qa (JC (T:="StopIteration") (b:=true) ⟨_,Qs _ rfl,rfl⟩ isSubtype_stop ?_)
 exact Qb (hQ _ (((QY ..).extBut.push _).push _))
end
def Itd(a:Addr)(es:List Ent)(ep:Nat):It:=⟨fun i H=>H a=some (DctO a es ep)/\i<es.length,fun i H x H'=>H'=H/\∃ e,es[i]?=some e/\x=.ref e.2.1,fun i H=>H a=some (DctO a es ep)/\es.length<=i⟩
theorem zGE{X:Cx}{pins:List (Addr × Obj)}{σ:L2.St}{H:Hp}{s:Shared}{a:Addr}{es:List Ent}{ep:Nat}(I:Inv X pins σ H s)(h:H a=some (DctO a es ep)):
  ∃ raw:Array DictEntry,RDt s.heap a raw ep/\raw.size=es.length/\∀(i:Nat) (hi:i<raw.size) (e:Ent),es[i]?=some e->raw[i].key=.ref e.2.1:=by
 obtain⟨⟨lo,o,raw,h1,h2,h3,h4⟩,_⟩:=(show zAU X.prog X.w H s.heap a (DctO a es ep)from I.hok a _ h)
 refine⟨raw,⟨lo,o,h1,h2,h3⟩,?_,fun i hi e he=>?_⟩
 ·have:=Paired.length h4
  simpa using this.symm
 ·obtain⟨r,hr,_,q,_⟩:=Paired.at h4 he
  have:raw.toList[i]?=some raw[i]:=by simp [hi]
  rw [this]at hr;cases hr
  exact q
theorem zQh{P:Program}{w:World}{K:PySem.W.Frag}{tg:Expr}(a it:Addr)(es:List Ent)(ep:Nat):Turn P w K tg (Itd a es ep) [it] it (fun i h=>h.IsKeyIter it a i es.length ep) where
 mem:=by simp
 obj:=fun i h st b hb=>by
  have e:b=it:=by simpa using hb
  subst e
  obtain⟨o,e,c,d⟩:=st
  exact⟨o,e,fun v z=>by rw [d]at z;cases z⟩
 keep:=fun i h h' st k=>let⟨o,e,c⟩:=st;⟨o,k it (by simp) o e,c⟩
 item:=by
  intro X hP hw hK hc i pins s σ H E I hf st hg
  subst hP hw hK
  obtain⟨hq,hx⟩:=hg
  obtain⟨raw,rd,sz,ks⟩:=zGE I hq
  obtain⟨f0,f1,f2,f3,f4,f5⟩:=hf it (by simp)
  rw [<- sz]at st
  refine zOc st rd (by lia) fun h' st' sb=>?_
  have I1:Inv X pins σ H { s with heap:=h' }:=I.turned (t':=s.toks) (fun b o hb e=>(sb.2 b hb).trans e) f0 f1 f3 f4 f5
  obtain⟨o,e,c,d⟩:=id st'
  have he:es[i]?=some es[i]:=by simp [hx]
  refine⟨_,rfl,zDH (s:={ s with heap:=h' }) e c d (by decide) ⟨.ref (es[i]).2.1,H,I1,?_,⟨rfl,_,he,rfl⟩,by rw [<- sz];exact st',fun b hb=>(hf b hb).1⟩⟩
  rw [ks i (by lia) _ he]
  rfl
 done:=by
  intro X hP hw hK hc i pins s σ H E I hf st hg
  subst hP hw hK
  obtain⟨hq,hx⟩:=hg
  obtain⟨raw,rd,sz,ks⟩:=zGE I hq
  obtain⟨f0,f1,f2,f3,f4,f5⟩:=hf it (by simp)
  rw [<- sz]at st
  exact zMp (I.ok.hd hc) st rd (by lia) fun h' eb=>⟨rfl,I.turned (t':=s.toks) (fun b o hb e=>eb b o hb e) f0 f1 f3 f4 f5⟩
 self:=fun _ _ _ _ _ st h=>wpAny_pyIter_keyiter st h
def isTp:D->Bool
 | .tuple _=>true
 | _=>false
def seqK:D->Option (List D)
 | .dict kvs=>if(kvs.all fun e=>isTp e.1)=true then some (kvs.map (·.1))else none
 | d=>seqD d
theorem zJ9{K:PySem.W.Frag}{F:Addr->Prop}{H:Hp}:∀{kss:List (List Int)}{bs:List Addr},Paired (fun(ks:List Int) (b:Addr)=>SqT K H b (ks.map V.int)) kss bs->Reps K F H (kss.map fun ks=>.tuple (ks.map PyData.int)) (bs.map V.ref)
 | _,_,.nil=>.nil
 | _,_,.cons h t=>.cons (.tup h (zC2 _)) (zJ9 t)
theorem zPy{K:PySem.W.Frag}{F:Addr->Prop}{H:Hp}{k:DKey}{b:Addr}(h:zCr K H k b):Rep K F H (encK k) (.ref b):=by
 cases k with
 | inl ks=>exact .tup h (zC2 ks)
 | inr kss=>obtain⟨_,bs,h1,h2⟩:=h;exact .tup h1 (zJ9 h2)
theorem DReps.key{K:PySem.W.Frag}{F:Addr->Prop}{H:Hp}{kvs:List (D × D)}{es:List Ent}(t:DReps K F H kvs es):∀{i:Nat}{d:D},(kvs.map (·.1))[i]?=some d->∃ e,es[i]?=some e/\Rep K F H d (.ref e.2.1):=by
 induction es generalizing kvs with
 | nil=>cases t;intro i d h;simp at h
 | cons e es ih=>
  cases t with
  | cons hk hv t=>
   intro i d h
   cases i with
   | zero=>simp at h;subst h;exact⟨_,rfl,zPy hk⟩
   | succ i=>exact ih t (by simpa using h)
theorem zM1{K:PySem.W.Frag}{F:Addr->Prop}{H:Hp}{a:Addr}{es:List Ent}{ep:Nat}{kvs:List (D × D)}(f:F a)(h:H a=some (DctO a es ep))(t:DReps K F H kvs es):ItD K F H (kvs.map (·.1)) (Itd a es ep):=fun F2 H2 T z i=>by
 have h2:=T.xt _ _ f h
 have t2:=t.stay T
 refine⟨fun d hd=>?_,fun hl=>⟨h2,by rw [<- DReps.length t2];simpa using hl⟩⟩
 obtain⟨e,e1,r⟩:=DReps.key t2 hd
 refine⟨⟨h2,(Qf.mp e1).1⟩,fun x H3 y=>?_⟩
 obtain⟨y1,e',y2,y3⟩:=y
 subst y1 y3
 rw [e1]at y2;cases y2
 exact⟨F2,Ext.refl _ _,r⟩
def iKey(ga:Rho->Option D):Rho->Option (List D):=fun ρ=>(ga ρ).bind seqK
theorem zMa{X:Cx}{tg e:Expr}{ga:Rho->Option D}(ha:DE X e ga):DI X tg e (iKey ga):=by
 intro pins s σ H R I h
 obtain⟨F,H₀,ρ,ds,S,q,k⟩:=h
 obtain⟨d,e1,q⟩:=bnd q
 cases d with
 | dict kvs=>
  by_cases c:(kvs.all fun e=>isTp e.1)=true
  ·rw [seqK,if_pos c]at q
   cases q
   refine thn (ha pins s σ H (fun x H1=>∃ F1,Ext F F1 H H1/\Rep X.K F1 H1 (.dict kvs) x) I ⟨F,H₀,ρ,_,S,e1,fun F1 H1 v E1 R1=>⟨F1,E1,R1⟩⟩) fun v s1 zz=>?_
   obtain⟨x,H1,I1,r1,F1,E1,R1⟩:=zz
   generalize hd:PyData.dict kvs=dd at R1
   cases R1 with
   | @dct a es kvs' ep f h n l t=>
    cases hd
    cases r1
    obtain⟨raw,rd,sz,ks⟩:=zGE I1 h
    refine zM9 rd ⟨s1.heap.objs.size,[s1.heap.objs.size],_,_,H1,rfl,I1.kept (t':=s1.toks) fun b o e=>Qc _ e,zQh a _ es ep,⟨_,Qs _ rfl,rfl,by rw [sz];rfl⟩,fun b hb=>?_,k F1 H1 _ E1 (zM1 f h t)⟩
    have e:b=s1.heap.objs.size:=by simpa using hb
    subst e
    exact I1.fpOk (Qh _) (I1.hok.fresh (Qh _))
   | exn f h n=>
    exfalso
    cases hd
    cases c
   | _=>cases hd
  ·rw [seqK,if_neg c]at q;cases q
 | _=>exact zHQ ha pins s σ H R I ⟨F,H₀,ρ,ds,S,by show(ga ρ).bind seqD=_;rw [e1];exact q,k⟩
end DC
namespace DC
open PySem PySem.Spec PyProof.Rows L2 DL ST SL EL
end DC
namespace DL
open PySem PySem.Spec PyProof.Rows L2
section
variable {X:Cx}{a b:Expr}{ga:Rho->Option (List D)}{pos:Pos}
end
end DL
namespace TX
open PySem PySem.Spec PyProof.Rows L2 DL
open Builtin Builtin.Str
section
variable {X:Cx}
end
end TX
namespace TX
open PySem PySem.Spec PyProof.Rows L2 DL
open Builtin Builtin.Str
section
variable {X:Cx}{o e:Expr}{go ge:Rho->Option D}{apos cpos:Pos}
end
end TX
namespace TX
open PySem PySem.Spec PyProof.Rows L2 DL ZL EL
open Builtin Builtin.Str
def sigs(x:Str):List Str:=x.cps.toList.map fun c=>⟨#[c]⟩
end TX
namespace TB
open PySem PySem.Spec PyProof.Rows L2 DL TX
inductive TEnt(K:PySem.W.Frag)(w:World):List (Str × D)->List DictEntry->Prop
 | nil:TEnt K w [] []
 | cons {x:Str}{d:D}{h:Int}{t:Tok}{v:V}{u:Value}{tb:List (Str × D)}{es:List DictEntry}:h=PySem.hashStr w x->RelV v u->(∀ F H,Rep K F H d v)->TEnt K w tb es->TEnt K w ((x,d)::tb) (⟨h,.str x t,u⟩::es)
def Tab(K:PySem.W.Frag)(w:World)(a:Addr)(tb:List (Str × D)):Prop:=∃ es ep,K.lookup a=some ⟨.type "dict",none,.dict es ep,#[]⟩/\TEnt K w tb es.toList
def eTab(tb:List (Str × D))(ga:Rho->Option D):Rho->Option D:=fun ρ=>(ga ρ).bind fun k=>match k with
 | .str x=>tb.lookup x
 | _=>none
theorem zQc{prog:Program}{K:PySem.W.Frag}{w:World}:∀{tb:List (Str × D)}{es:List DictEntry},TEnt K w tb es->∀ e∈es,∃ k,(PySem.strKind prog w).is k e.key=true/\e.hash=(PySem.strKind prog w).hash k:=by
 intro tb es h
 induction h with
 | nil=>intro e he;cases he
 | cons hh r rp _ ih=>
  intro e he
  rcases Qi.mp he with rfl | he
  ·exact⟨_,by simp [PySem.strKind,Value.isStrOf],hh⟩
  ·exact ih e he
theorem zQb{prog:Program}{K:PySem.W.Frag}{w:World}{x:Str}{d:D}:∀{tb:List (Str × D)}{es:List DictEntry},TEnt K w tb es->tb.lookup x=some d->∃ e v,es.find? (fun e=>(PySem.strKind prog w).is x e.key)=some e/\RelV v e.val/\∀ F H,Rep K F H d v:=by
 intro tb es h
 induction h with
 | nil=>intro e;cases e
 | @cons y d' hh t v u tb es h1 h2 h3 _ ih=>
  intro e
  rw [QI]at e
  by_cases z:x=y
  ·subst z
   rw [beq_self_eq_true]at e
   cases e
   exact⟨_,v,by rw [List.find?_cons_of_pos (by simp [PySem.strKind,Value.isStrOf])],h2,h3⟩
  ·rw [show(x == y)=false from by simpa using z]at e
   obtain⟨e',v',q1,q2,q3⟩:=ih e
   refine⟨e',v',?_,q2,q3⟩
   rw [List.find?_cons_of_neg (by simp [PySem.strKind,Value.isStrOf];first | exact z | exact fun q=>z q.symm)]
   exact q1
section
variable {X:Cx}{e:Expr}{ga gb:Rho->Option D}{p pos:Pos}
def rTab(K:PySem.W.Frag)(w:World):R2:=fun x y H Q=>∃ a k tb d,x=.ref a/\y=.str k/\Tab K w a tb/\tb.lookup k=some d/\∀ v,(∀ F,Rep K F H d v)->Q v H
theorem zNc:IxR X (rTab X.K X.w):=fun value slice pins s σ H x y v u Q I rx ry ⟨a,k,tb,d,ex,ey,⟨es,ep,lk,T⟩,hd,kk⟩ hs=>by
 subst ex ey
 cases rx
 obtain⟨t,rfl⟩:=ry
 obtain⟨en,v',g1,g2,g3⟩:=zQb (prog:=X.prog) T hd
 have ho:=I.kIn a _ lk
 have hm:s.heap.MapOf (PySem.strKind X.prog X.w) a (findBy (PySem.strKind X.prog X.w).is es):=⟨_,es,ep,ho,⟨rfl,rfl,rfl⟩,rfl,fun e he=>zQc T e (by simpa using he),fun _=>rfl⟩
 have hf:findBy (PySem.strKind X.prog X.w).is es k=some en.val:=by
  unfold findBy
  rw [<- Array.find?_toList,g1]
  rfl
 have hT:=hm.typeIs
 unfold subscriptTail
 refine Qa ?_
 rw [getitemInPython_of_ne hT.not_modules]
 refine Qa (wpAny_specialOf hT PySem.F.slot_dict_getitem.lookup ?_)
 have fin:wpAny (model X.prog X.w) X.A (subscripted slice false (.ref a) (.str k t)) (fun r s₃=>wpAny (model X.prog X.w) X.A (letTemporaryGo value (.ref a) r >>= fun _=>pure r) (EP X pins σ Q) X.xe s₃) X.xe s:=by
  rw [hs]
  refine wpAny_operating ?_
  refine wpAny_getItem_of (knd:=PySem.strKind X.prog X.w) (k:=k) (by simp [PySem.strKind,Value.isStrOf]) hm hf ?_
  exact Qa (wpAny_letTemporaryGo (Qb ⟨v',H,I.tok _,g2,kk v' fun F=>g3 F H⟩))
 first
  | exact Qb (Qa fin)
  | exact Qa (Qb (Qa fin))
  | exact Qa fin
theorem zHO{x:Str}{a:Addr}{tb:List (Str × D)}(hg:Gl X x)(hm:X.mg x=some (.ref a))(T:Tab X.K X.w a tb)(ha:DE X e ga)(hd:(x == ("__debug__":Str))=false:=by decide)(hs:zFj e:=by exact fun _ _=>rfl):DE X (.Subscript (.Name x p) e pos) (eTab tb ga):=
 zAQ (zJT zNc (zJS (v:=.ref a) hg hm rfl hd) ha hs) fun σ H Q zz=>by
  obtain⟨F,H₀,ρ,d,S,q,k⟩:=zz
  obtain⟨kd,e1,q⟩:=bnd q
  refine⟨F,H₀,ρ,kd,S,e1,fun F1 H1 v E1 R1=>?_⟩
  split at q
  ·cases R1
   exact⟨a,_,tb,d,rfl,rfl,T,q,fun v R=>k F1 H1 v E1 (R F1)⟩
  ·cases q
end
mutual
def noL:D->Bool
 | .none=>true
 | .bool _=>true
 | .int _=>true
 | .str _=>true
 | .tuple ds=>noLs ds
 | _=>false
def noLs:List D->Bool
 | []=>true
 | d::ds=>noL d && noLs ds
end
mutual
theorem zOd{K:PySem.W.Frag}{F F2:Addr->Prop}{H:Hp}{d:D}{v:V}(h:Rep K F H d v)(q:noL d=true):Rep K F2 H d v:=by
 cases h with
 | non=>exact .non
 | bl b=>exact .bl b
 | int i=>exact .int i
 | str x=>exact .str x
 | tup h r=>exact .tup h (noLs_rep r q)
 | lst h r=>cases q
 | dct f h n l r=>cases q
 | exn f h n=>cases q
theorem noLs_rep{K:PySem.W.Frag}{F F2:Addr->Prop}{H:Hp}{ds:List D}{vs:List V}(h:Reps K F H ds vs)(q:noLs ds=true):Reps K F2 H ds vs:=by
 cases h with
 | nil=>exact .nil
 | cons h r=>
  have q:=Qy.mp q
  exact .cons (zOd h q.1) (noLs_rep r q.2)
end
section
variable {X:Cx}{e:Expr}{ga:Rho->Option D}{p pos:Pos}
end
end TB
namespace TX
open PySem PySem.Spec PyProof.Rows L2 DL
open Builtin Builtin.Str
section
variable {X:Cx}
def ItS(x:Str):It:=⟨fun i _=>i<x.cps.size,fun i H v H'=>H'=H/\∃ c,x.cps[i]?=some c/\v=.str ⟨#[c]⟩,fun i _=>x.cps.size<=i⟩
theorem zQk{P:Program}{w:World}{K:PySem.W.Frag}{tg:Expr}(it:Addr)(x:Str)(t:Tok):Turn P w K tg (ItS x) [it] it (fun i h=>h.IsStrIter it (strIterType x) x t i) where
 mem:=by simp
 obj:=fun i h st b hb=>by
  obtain⟨o,ho,_,hd⟩:=st
  rw [Qv.mp hb]
  exact⟨o,ho,fun v z=>by rw [hd]at z;cases z⟩
 keep:=fun i h h' st k=>by
  obtain⟨o,ho,r⟩:=st
  exact⟨o,k it (by simp) o ho,r⟩
 item:=by
  intro X hP hw hK hc i pins s σ H E I hf st hg
  subst hP hw hK
  obtain⟨f0,f1,f2,f3,f4,f5⟩:=hf it (by simp)
  have hlt:i<x.cps.size:=hg
  have go:∀(n:String),strIterType x=n->n="str_ascii_iterator" ∨ n="str_iterator"->∀(c:Nat) (h':Heap) (tk:Tok),x.cps[i]?=some c->h'.IsStrIter it n x t (i+1)->(∀ b o,b≠it->s.heap.get? b=some o->h'.get? b=some o)->∃ u,some (Value.str ⟨#[c]⟩ s.toks)=some u /\
    wpAny (model X.prog X.w) X.A (letOwnedTupleGo tg (.ref it) u) (fun _ s2=>∃ y H',Inv X pins σ H' s2/\RelV y u/\(ItS x).yld i H y H'/\s2.heap.IsStrIter it (strIterType x) x t (i+1)/\∀ b∈[it],H' b=none) E { s with heap:=h',toks:=tk }:=fun n hn hn2 c h' tk hc' st' kk=>by
   have I1:Inv X pins σ H { s with heap:=h',toks:=tk }:=I.turned (fun b o hb e=>kk b o hb e) f0 f1 f3 f4 f5
   obtain⟨o',ho',hcl,hdt⟩:=id st'
   refine⟨_,rfl,zDH (s:={ s with heap:=h',toks:=tk }) (n:=n) ho' hcl hdt (by rcases hn2 with rfl | rfl <;> decide) ⟨.str ⟨#[c]⟩,H,I1,⟨_,rfl⟩,⟨rfl,c,hc',rfl⟩,by rw [hn];exact st',fun b hb=>(hf b hb).1⟩⟩
  have hcx:x.cps[i]?=some x.cps[i]:=by simp [hlt]
  by_cases a:(x.cps.all (·<128))=true
  ·have e:strIterType x="str_ascii_iterator":=by unfold strIterType;rw [if_pos a]
   have st2:s.heap.IsStrIter it "str_ascii_iterator" x t i:=by rw [<- e];exact st
   exact wpAny_pyNext_ascii_item st2 hcx fun h' hit hs=>go _ e (.inl rfl) _ h' _ hcx hit fun b o hb q=>hs.extBut b o hb q
  ·have e:strIterType x="str_iterator":=by unfold strIterType;rw [if_neg a]
   have st2:s.heap.IsStrIter it "str_iterator" x t i:=by rw [<- e];exact st
   exact wpAny_pyNext_wide_item st2 hcx fun h' hit hs=>go _ e (.inr rfl) _ h' _ hcx hit fun b o hb q=>hs.extBut b o hb q
 done:=by
  intro X hP hw hK hc i pins s σ H E I hf st hg
  subst hP hw hK
  obtain⟨f0,f1,f2,f3,f4,f5⟩:=hf it (by simp)
  have hle:x.cps[i]?=none:=Yi hg
  by_cases a:(x.cps.all (·<128))=true
  ·have e:strIterType x="str_ascii_iterator":=by unfold strIterType;rw [if_pos a]
   have st2:s.heap.IsStrIter it "str_ascii_iterator" x t i:=by rw [<- e];exact st
   exact wpAny_pyNext_ascii_end (I.ok.hd hc) st2 hle fun h' eb=>⟨rfl,I.turned (t':=s.toks) (fun b o hb e=>eb b o hb e) f0 f1 f3 f4 f5⟩
  ·have e:strIterType x="str_iterator":=by unfold strIterType;rw [if_neg a]
   have st2:s.heap.IsStrIter it "str_iterator" x t i:=by rw [<- e];exact st
   exact wpAny_pyNext_wide_end (I.ok.hd hc) st2 hle fun h' eb=>⟨rfl,I.turned (t':=s.toks) (fun b o hb e=>eb b o hb e) f0 f1 f3 f4 f5⟩
 self:=fun A i s Q E st h=>by
  by_cases a:(x.cps.all (·<128))=true
  ·have e:strIterType x="str_ascii_iterator":=by unfold strIterType;rw [if_pos a]
   have st2:s.heap.IsStrIter it "str_ascii_iterator" x t i:=by rw [<- e];exact st
   exact wpAny_pyIter_striter_ascii st2 h
  ·have e:strIterType x="str_iterator":=by unfold strIterType;rw [if_neg a]
   have st2:s.heap.IsStrIter it "str_iterator" x t i:=by rw [<- e];exact st
   exact wpAny_pyIter_striter_wide st2 h
def strD:D->Option (List D)
 | .str x=>some ((sigs x).map .str)
 | _=>none
def iStr(ga:Rho->Option D):Rho->Option (List D):=fun ρ=>(ga ρ).bind strD
theorem zMb{tg e:Expr}{ga:Rho->Option D}(ha:DE X e ga):DI X tg e (iStr ga):=by
 intro pins s σ H R I h
 obtain⟨F,H₀,ρ,ds,S,q,k⟩:=h
 obtain⟨d,e1,q⟩:=bnd q
 refine thn (ha pins s σ H (fun x H1=>∃ F1,Ext F F1 H H1/\Rep X.K F1 H1 d x) I ⟨F,H₀,ρ,d,S,e1,fun F1 H1 v E1 R1=>⟨F1,E1,R1⟩⟩) fun v s1 zz=>?_
 obtain⟨x,H1,I1,r1,F1,E1,R1⟩:=zz
 cases R1 with
 | str z=>
  cases q
  obtain⟨t,rfl⟩:=r1
  refine wpAny_pyIter_strU ?_
  refine⟨s1.heap.objs.size,[s1.heap.objs.size],_,ItS z,H1,rfl,I1.kept (t':=s1.toks) fun b o e=>Qc _ e,zQk _ z t,⟨_,Qs _ rfl,rfl,rfl⟩,fun b hb=>?_,k F1 H1 _ E1 ?_⟩
  ·have e:b=s1.heap.objs.size:=by simpa using hb
   subst e
   exact I1.fpOk (Qh _) (I1.hok.fresh (Qh _))
  ·intro F2 H2 T zz i
   refine⟨fun d hd=>?_,fun hl=>?_⟩
   ·unfold sigs at hd
    rw [Q7,QM,QD]at hd
    cases qc:z.cps[i]? with
    | none=>rw [qc]at hd;cases hd
    | some c=>
     rw [qc]at hd
     cases hd
     refine⟨(Array.getElem?_eq_some_iff.mp qc).1,fun y H3 yy=>?_⟩
     obtain⟨rfl,c',h1,rfl⟩:=yy
     rw [qc]at h1
     cases h1
     exact⟨F2,Ext.refl F2 H3,.str _⟩
   ·unfold sigs at hl
    rw [Qj,Qj,Qo]at hl
    exact hl
 | _=>cases q
end
end TX
namespace CL
open PySem PySem.Spec PyProof.Rows L2
def zA5(X:Cx)(N':List Str)(scope:Scope)(x0:Str)(cl:List (Str × Addr))(C:Addr)(fp:List Addr)(s:Shared)(H:Hp):Cx:=
 { X with N:=N',s₀:=s,H₀:=H,env:=compEnvC scope ((x0,C+1)::cl) C X.env,outer:=X.stack,ex:=fp,fn:=fun x=>scope.names.lookup x == some .local || scope.names.lookup x == some .cell,pn:=[],xe:=fun _ _=>False }
structure zDc(X:Cx)(N':List Str)(scope:Scope)(inner:List (Option Nat))(x0:Str):Prop where
 kind:scope.kind=.function
 c0:scope.names.lookup x0=some .cell
 only:∀ x∈scope.names,x.2=.cell->x.1=x0
 cf:∀ n acc,cellsFrom n scope.names acc=(x0,n)::acc
 pc:∀ h,pushCells h scope.names=h.push { cls:=.type "cell",data:=.cell none }
 loc:∀ x∈scope.names,x.2=.local->scope.names.lookup x.1=some .local
 free:∀ x∈scope.names,x.2=.free->scope.names.lookup x.1=some .free/\(X.env.scope.names.lookup x.1=some .cell ∨ X.env.scope.names.lookup x.1=some .free)
 len:inner.length=N'.length
 out:∀(i j:Nat),inner[i]?=some (some j)->∃ x,N'[i]?=some x/\X.N[j]?=some x/\scope.names.lookup x=some .free
theorem zGH{env:Env}{x0:Str}:∀{names:List (Str × NameKind)}{x:Str}{q:NameKind},(∀ y∈names,y.2=.cell->y.1=x0)->(q=.cell ∨ q=.free)->
  (names.map fun(n,k)=>if(k == NameKind.free && env.scope.kind == .function && env.kindOf n == some .cell)then(n,NameKind.cell)else(n,k)).lookup x=some q->(x,NameKind.free)∈names ∨ x=x0
 | [],_,_,_,_,h=>by simp at h
 | (n,k)::r,x,q,hn,hq,h=>by
  have ih:=@zGH env x0 r x q (fun y hy=>hn y (Qd _ hy)) hq
  rw [Qm]at h
  have h':List.lookup x ((if(k == NameKind.free && env.scope.kind == .function && env.kindOf n == some .cell)=true then(n,NameKind.cell)else(n,k))::_)=some q:=h
  cases hx:x == n with
  | true=>
   have e:x=n:=QW hx
   by_cases hc:(k == NameKind.free && env.scope.kind == .function && env.kindOf n == some .cell)=true
   ·have:k=.free:=by
     have:=hc
     simp only [QH,beq_iff_eq]at this
     exact this.1.1
    rw [e,this];exact .inl Qe
   ·rw [if_neg hc]at h'
    simp only [QI,hx]at h'
    have kq:k=q:=QF h'
    rcases hq with z | z
    ·exact .inr (e.trans (hn (n,k) Qe (kq.trans z)))
    ·rw [e,<- z,<- kq];exact .inl Qe
  | false=>
   by_cases hc:(k == NameKind.free && env.scope.kind == .function && env.kindOf n == some .cell)=true
   ·rw [if_pos hc]at h';simp only [QI,hx]at h';exact(ih h').imp (Qd _) id
   ·rw [if_neg hc]at h';simp only [QI,hx]at h';exact(ih h').imp (Qd _) id
theorem nfe1{M:Model}{A:Around}{E:Value->Shared->Prop}{s:Shared}{scope:Scope}{globals:Addr}{cl:List (Str × Addr)}{qual x0:Str}{env:Env}{Q:Env->Shared->Prop}(hcf:∀ n acc,cellsFrom n scope.names acc=(x0,n)::acc)(hpc:∀ h,pushCells h scope.names=h.push { cls:=.type "cell",data:=.cell none })
  (h:∀ cenv:Env,cenv.locals=s.heap.objs.size->{ cenv with scope:=relabel scope env }={ compEnvC scope ((x0,s.heap.objs.size+1)::cl) s.heap.objs.size env with globals:=globals,qual:=qual }->Q cenv { s with heap:=(s.heap.push { cls:=.type "dict",data:=.dict #[] }).push { cls:=.type "cell",data:=.cell none } }):
  wpAny M A (newFunctionEnv scope globals cl [] qual none .none (some env)) Q E s:=by
 simp only [newFunctionEnv,Option.isSome_some,if_true]
 refine Qa (wpAny_alloc ?_)
 refine Qa (wpAny_layCells _ (fun name kind cells=>by cases hkc:kind == NameKind.cell <;> simp [hkc]) _ _ _ _ ?_)
 rw [hcf,hpc]
 rw [show({ s with heap:=s.heap.push { cls:=.type "dict",data:=.dict #[] } }:Shared).heap.objs.size=s.heap.objs.size+1 from Yr ..]
 refine Qa ?_
 rw [List.forIn_nil]
 exact Qb (Qb (h _ rfl rfl))
section
variable {X:Cx}{N':List Str}{scope:Scope}{inner:List (Option Nat)}{x0:Str}{cl:List (Str × Addr)}{C:Addr}{fp:List Addr}{s s4:Shared}{H:Hp}{σ:L2.St}{pins:List (Addr × Obj)}
theorem lk1{x0 x:Str}{n c:Addr}{cl:List (Str × Addr)}(h:((x0,n)::cl).lookup x=some c):(x=x0/\c=n) ∨ cl.lookup x=some c:=by
 rw [QI]at h
 cases e:x == x0 with
 | true=>rw [e]at h;cases h;exact .inl ⟨QW e,rfl⟩
 | false=>rw [e]at h;exact .inr h
theorem lk2{x0 x:Str}{n c:Addr}{cl:List (Str × Addr)}(h:cl.lookup x=some c)(hx:x≠x0):((x0,n)::cl).lookup x=some c:=by
 rw [QI,show(x == x0)=false from beq_eq_false_iff_ne.mpr hx]
 exact h
theorem zMX(CS:zDc X N' scope inner x0)(I:Inv X pins σ H s)(hf:∀ b∈fp,FpOk X pins H b)(c1:∀ x c,cl.lookup x=some c->X.env.cells.lookup x=some c)(c2:∀ x,(x,NameKind.free)∈scope.names->∃ c,cl.lookup x=some c)(c3:∀ x c,cl.lookup x=some c->(x,NameKind.free)∈scope.names)
  (hfl:∀ b∈fp,b<s.heap.objs.size) (hC:C=s.heap.objs.size) {h':Heap}{tk:Nat} (hk:∀ b o,s.heap.get? b=some o->h'.get? b=some o) (hns:h'.Ns C fun _=>none) (hcell:h'.IsCell (C+1) none) (hs4:s4={ s with heap:=h',toks:=tk }):
  Inv (zA5 X N' scope x0 cl C fp s H) [] (inSt inner σ) H s4:=by
 subst hs4
 have old:∀ b o,s.heap.get? b=some o->b≠C/\b≠C+1:=fun b o e=>by
  have:=Qk e
  rw [hC];exact⟨Qt this,Qt (YH this)⟩
 have cC:∀ x c,cl.lookup x=some c->c≠C/\c≠C+1:=fun x c e=>by
  obtain⟨v,o,q,_⟩:=I.cell x c (c1 x c e)
  exact old c o q
 have nf:∀ x c,cl.lookup x=some c->x≠x0:=fun x c e z=>by
  have:=(CS.free _ (c3 x c e) rfl).1
  have q:=CS.c0
  rw [<- z]at q
  have this':scope.names.lookup x=some .free:=this
  rw [q]at this';cases this'
 refine⟨⟨I.ok.mod,CS.kind,I.ok.glob,I.ok.blt,?_,fun x y c h1 h2=>?_,fun x hx=>?_,fun x c hx h=>?_,I.ok.hd,I.ok.frames,.inl rfl,fun b hb=>⟨?_,fun x c e z=>?_⟩,I.bs,Ql I.ok.bsz I.sz,fun b o e hb=>?_,fun b hb=>?_,I.stack,I.stkFree⟩,
  rfl,I.bare,Un.kept hk,⟨_,hns,fun i x v e1 e2 e3=>?_⟩,fun x c e=>?_,?_,fun x c e=>?_,fun p hp=>absurd (show p∈([]:List (Addr × Obj))from hp) (by simp),I.hok.kept hk,?_⟩
 ·show s.heap.objs.size<=C
  rw [hC];exact Qh _
 ·rcases lk1 h1 with⟨a1,a2⟩ | a
  ·rcases lk1 h2 with⟨b1,b2⟩ | b
   ·rw [a1,b1]
   ·exact absurd a2 (cC y c b).2
  ·rcases lk1 h2 with⟨b1,b2⟩ | b
   ·exact absurd b2 (cC x c a).2
   ·exact I.ok.inj x y c (c1 x c a) (c1 y c b)
 ·have hx':(relabel scope X.env).names.lookup x=some .cell ∨ (relabel scope X.env).names.lookup x=some .free:=hx
  have back:(x,NameKind.free)∈scope.names ∨ x=x0:=by
   rcases hx' with hx' | hx'
   ·exact zGH CS.only (.inl rfl) hx'
   ·exact zGH CS.only (.inr rfl) hx'
  rcases back with z | z
  ·obtain⟨c,hc⟩:=c2 x z
   exact⟨c,lk2 hc (nf x c hc)⟩
  ·exact⟨C+1,by show((x0,C+1)::cl).lookup x=_;rw [z,QI,beq_self_eq_true]⟩
 ·rcases lk1 h with⟨a1,a2⟩ | a
  ·show s.heap.objs.size<=c
   rw [a2,hC];exact Nat.le_succ _
  ·have hx':(scope.names.lookup x == some NameKind.local || scope.names.lookup x == some NameKind.cell)=true:=hx
   have e2:scope.names.lookup x=some .free:=(CS.free _ (c3 x c a) rfl).1
   rw [e2]at hx'
   exact absurd hx' (by decide)
 ·show b≠C
  rw [hC];exact Qt (hfl b hb)
 ·rcases lk1 e with⟨a1,a2⟩ | a
  ·have:=hfl b hb
   rw [<- z,a2,hC]at this
   exact absurd this (Nat.not_lt.mpr (Nat.le_succ _))
  ·exact(hf b hb).2.2.2.2.1 x c (c1 x c a) z
 ·rcases(hf b hb).2.2.2.1 with z | z
  ·exact I.ok.noex b o e z
  ·exact absurd (Qz (Qk e) (Ql I.ok.bsz z)) (YN _)
 ·intro z
  rcases Qi.mp (I.stkSub b z)with q | q
  ·exact(hf b hb).2.1 q
  ·exact(hf b hb).2.2.1 q
 ·unfold inSt at e2
  rw [QM]at e2
  cases ei:inner[i]? with
  | none=>rw [ei]at e2;cases e2
  | some o=>
   rw [ei]at e2
   cases o with
   | none=>cases e2
   | some j=>
    have e2':(σ[j]?).bind id=some v:=by simpa using e2
    have e4:σ[j]?=some (some v):=by
     cases ej:σ[j]? with
     | none=>rw [ej]at e2';cases e2'
     | some w'=>rw [ej]at e2';exact congrArg some e2'
    obtain⟨x',g1,g2,g3⟩:=CS.out i j ei
    have e1':N'[i]?=some x:=e1
    rw [e1']at g1;cases g1
    have mem:(x,NameKind.free)∈scope.names:=PySem.mem_of_lookup g3
    have outer:=(CS.free _ mem rfl).2
    obtain⟨m,hm,hl⟩:=I.loc
    have vis:Vis X.env.scope x:=outer.elim (fun z=>.inr (.inl z)) fun z=>.inr (.inr z)
    obtain⟨u,ru,lk⟩:=hl j x v g2 e4 vis
    refine⟨u,ru,?_⟩
    obtain⟨c,hc⟩:=c2 x mem
    rcases lk with⟨k1,_⟩ | ⟨_,c',k2,k3⟩
    ·have k1':X.env.scope.names.lookup x=some .local:=k1
     rcases outer with z | z <;> (rw [k1']at z;cases z)
    ·have e5:=c1 x c hc
     rw [k2]at e5;cases e5
     refine .inr ⟨?_,c,lk2 hc (nf x c hc),(let⟨o,q1,q2⟩:=k3;⟨o,hk _ o q1,q2⟩)⟩
     have:=zGI (env:=X.env) g3
     exact this.elim .inr .inl
 ·rcases lk1 e with⟨a1,a2⟩ | a
  ·exact⟨none,by rw [a2];exact hcell⟩
  ·obtain⟨v,q⟩:=I.cell x c (c1 x c a)
   exact⟨v,(let⟨o,q1,q2⟩:=q;⟨o,hk _ o q1,q2⟩)⟩
 ·show H C=none
  exact I.hok.fresh (by rw [hC];exact Qh _)
 ·rcases lk1 e with⟨a1,a2⟩ | a
  ·rw [a2];exact I.hok.fresh (by rw [hC];exact Nat.le_succ _)
  ·exact I.freeC x c (c1 x c a)
 ·show(inSt inner σ).length=N'.length
  unfold inSt
  rw [Qj];exact CS.len
theorem zMV(I:Inv X pins σ H s)(hf:∀ b∈fp,FpOk X pins H b)(hC:C=s.heap.objs.size){σ':L2.St}{H':Hp}{s5:Shared}(J:Inv (zA5 X N' scope x0 cl C fp s H) [] σ' H' s5){h':Heap}(sb:Heap.SameBut C s5.heap h'):
  Inv X pins σ H' { s5 with heap:=h' }:=by
 have old:∀ b o,s.heap.get? b=some o->b≠C:=fun b o e=>by rw [hC];exact Qt (Qk e)
 have U:Un (frs X.stack) fp H H' s.heap s5.heap:=J.base
 have nC:H' C=none:=J.free
 refine I.call' (ch:=fp) J.os ⟨fun b o e n hb hx=>?_,fun b o e n hb hx=>?_,U.free,fun b o e hx=>?_,U.tups,U.frzs,U.tbls⟩ (fun b u e=>?_) J.bare fun b hb=>?_
 ·rw [sb.2 b (old b o e)];exact U.keep b o e n hb hx
 ·obtain⟨sl,q⟩:=U.slot b o e n hb hx
  exact⟨sl,by rw [sb.2 b (old b o e)];exact q⟩
 ·obtain⟨o',q⟩:=U.there b o e hx
  exact⟨o',by rw [sb.2 b (old b o e)];exact q⟩
 ·have nt:∀ c v,H' c=some v->c≠C:=fun c v q z=>by rw [z,nC]at q;cases q
  refine(J.hok b u e).stay (fun c v hc q=>?_) (fun _ q=>q) fun _ _ q=>q
  rw [sb.2 c ?_]
  ·exact q
  ·rcases hc with z | z
   ·rw [z];exact nt b u e
   ·exact nt c _ z
 ·exact⟨(hf b hb).2.2.2.1,(hf b hb).2.1,(hf b hb).2.2.2.2.1,(hf b hb).2.2.2.2.2⟩
end
section
variable {X:Cx}{elt tg iter:Expr}{ifs:List Expr}{scope:Scope}{pos:Pos}{N':List Str}{inner:List (Option Nat)}{x0:Str}{wi:TI}{g:TG}{ti:TT}{te:TE}
theorem zLO(hc:X.calm=true)(CS:zDc X N' scope inner x0)(hg:∀ cl C fp s H,PG (zA5 X N' scope x0 cl C fp s H) tg g)(ht:∀ cl C fp s H,PTs (zA5 X N' scope x0 cl C fp s H) ifs ti)(he:∀ cl C fp s H,PE (zA5 X N' scope x0 cl C fp s H) elt te)
  {pins:List (Addr × Obj)}{σ:L2.St}{s2:Shared}{H2:Hp}{it:Addr}{fp:List Addr}{tn:Nat->Heap->Prop}{J:It}{cl:List (Str × Addr)}{Q:VK}{RR:Value->Addr->Result->Shared->Prop}
  (c1:∀ x c,cl.lookup x=some c->X.env.cells.lookup x=some c) (c2:∀ x,(x,NameKind.free)∈scope.names->∃ c,cl.lookup x=some c) (c3:∀ x c,cl.lookup x=some c->(x,NameKind.free)∈scope.names)
  (I2:Inv X pins σ H2 s2) (T:Turn X.prog X.w X.K tg J fp it tn) (t0:tn 0 s2.heap) (f2:∀ b∈fp,FpOk X pins H2 b)
  (q:∀ D,H2 D=none->∃ W:Nat->Nat->L2.St->Hp->Prop,(∃ m,W 0 m (inSt inner σ) (upd H2 D (.lst [])))/\∀ i m σ' H',W i m σ' H'->
   (J.stop i H'/\Q (.ref D) H') ∨ (J.go i H'/\∀ x H3,J.yld i H' x H3->g x σ' H3 fun σ3 H3=>ti σ3 H3 fun b H4=>if b=true then te σ3 H4 fun y H5=>∃ ys,H5 D=some (.lst ys)/\ys.length<sizeLine/\∃ m',m'<m/\W (i+1) m' σ3 (upd H5 D (.lst (ys++[y])))else ∃ m',m'<m/\W (i+1) m' σ3 H4))
  (fin:∀(D C:Addr) (H':Hp) (s5:Shared) (m:Str->Option Value),s5.heap.Ns C m->Q (.ref D) H'->(∀ h',Heap.SameBut C s5.heap h'->Inv X pins σ H' { s5 with heap:=h' })->(H' C=none/\C≠X.env.locals/\X.s₀.heap.objs.size<=C/\(∀ x c,X.env.cells.lookup x=some c->c≠C)/\∀ p∈X.pn++pins,p.1≠C)->RR (.ref D) C (.ok .next) s5):
  wpAny (model X.prog X.w) X.A (newList []) (fun acc s₃=>wpAny (model X.prog X.w) X.A (newFunctionEnv scope X.env.globals cl [] X.env.qual none .none (some X.env)) (fun cenv s₄=>
   codeAny (model X.prog X.w) X.A (.compStart (.ListComp elt [⟨tg,iter,ifs,0⟩] scope pos) 0 (.ref it) acc { cenv with scope:=relabel scope X.env }) (RR acc cenv.locals) s₄) X.xe s₃) X.xe s2:=by
 refine wpAny_newList ?_
 have hD:H2 s2.heap.objs.size=none:=I2.hok.fresh (Qh _)
 generalize hs3:({ s2 with heap:=s2.heap.push { cls:=.type "list",data:=.seq ([]:List Value).toArray } }:Shared)=s3
 have k23:∀ b o,s2.heap.get? b=some o->s3.heap.get? b=some o:=fun b o e=>by rw [<- hs3];exact Qc _ e
 have sz3:s3.heap.objs.size=s2.heap.objs.size+1:=by rw [<- hs3];exact Yr _ _
 have I3:Inv X pins σ (upd H2 s2.heap.objs.size (.lst [])) s3:=by
  rw [<- hs3]
  exact I2.laid (t':=s2.toks) (o:=.lst []) (fun b o e=>Qc _ e) (Qh _) ⟨QZ _,[],0,.nil,Qs _ rfl⟩
 have ffl:∀ b∈fp,b<s2.heap.objs.size:=fun b hb=>by
  obtain⟨o,e,_⟩:=T.obj 0 _ t0 b hb
  exact Qk e
 have f3:∀ b∈fp,FpOk X pins (upd H2 s2.heap.objs.size (.lst [])) b:=fun b hb=>by
  obtain⟨g0,g1⟩:=f2 b hb
  exact⟨by rw [zAs (Qt (ffl b hb))];exact g0,g1⟩
 have t3:tn 0 s3.heap:=T.keep _ _ _ t0 fun b _ o e=>k23 b o e
 obtain⟨W,⟨m0,w0⟩,step⟩:=q _ hD
 refine nfe1 CS.cf CS.pc fun cenv hloc henv=>?_
 generalize hh1:(s3.heap.push { cls:=.type "dict",data:=.dict #[] }).push { cls:=.type "cell",data:=.cell none }=h₁
 have k34:∀ b o,s3.heap.get? b=some o->h₁.get? b=some o:=fun b o e=>by rw [<- hh1];exact Qc _ (Qc _ e)
 have hns:h₁.Ns s3.heap.objs.size fun _=>none:=by rw [<- hh1];exact(Heap.Ns.new s3.heap (.type "dict")).keeps fun b o e=>Qc _ e
 have hce:h₁.IsCell (s3.heap.objs.size+1) none:=by
  rw [<- hh1]
  have this:=Qs (s3.heap.push { cls:=.type "dict",data:=.dict #[] }) (o:={ cls:=.type "cell",data:=.cell none }) rfl
  rw [Yr]at this
  exact⟨_,this,rfl⟩
 generalize hs4:({ s3 with heap:=h₁ }:Shared)=s4
 have I4:Inv (zA5 X N' scope x0 cl s3.heap.objs.size fp s3 (upd H2 s2.heap.objs.size (.lst []))) [] (inSt inner σ) (upd H2 s2.heap.objs.size (.lst [])) s4:=
  zMX CS I3 f3 c1 c2 c3 (fun b hb=>by rw [sz3];exact YH (ffl b hb)) rfl k34 hns hce (tk:=s3.toks) hs4.symm
 have t4:tn 0 s4.heap:=by rw [<- hs4];exact T.keep _ _ _ t3 fun b _ o e=>k34 b o e
 have CL:s3.heap.objs.size≠X.env.locals:=YO I3.lt
 have CC:∀ x c,X.env.cells.lookup x=some c->c≠s3.heap.objs.size:=fun x c e=>by
  obtain⟨v,o,z,_⟩:=I3.cell x c e
  exact Qt (Qk z)
 rw [henv,hloc]
 show codeAny (model X.prog X.w) X.A (.compStart (.ListComp elt [⟨tg,iter,ifs,0⟩] scope pos) 0 (.ref it) (.ref s2.heap.objs.size) (compEnvC scope ((x0,s3.heap.objs.size+1)::cl) s3.heap.objs.size X.env)) (RR (.ref s2.heap.objs.size) s3.heap.objs.size) s4
 have loop:codeAny (model X.prog X.w) X.A (.compLoop (.ListComp elt [⟨tg,iter,ifs,0⟩] scope pos) 0 (.ref it) (.ref s2.heap.objs.size) (compEnvC scope ((x0,s3.heap.objs.size+1)::cl) s3.heap.objs.size X.env)) (RR (.ref s2.heap.objs.size) s3.heap.objs.size) s4:=by
  have fx:∀{H'':Hp},(∀ b∈fp,H'' b=none)->∀ b∈fp,FpOk (zA5 X N' scope x0 cl s3.heap.objs.size fp s3 (upd H2 s2.heap.objs.size (.lst []))) [] H'' b:=fun{H''} z b hb=>
   ⟨z b hb,(I4.ok.exf b hb).1,I4.ok.exfs b hb,.inl hb,fun x c e=>(I4.ok.exf b hb).2 x c e,fun p hp=>absurd (show p∈([]:List (Addr × Obj))from hp) (by simp)⟩
  refine zHF (Y:=zA5 X N' scope x0 cl s3.heap.objs.size fp s3 (upd H2 s2.heap.objs.size (.lst []))) hc (fun _ _ z=>z) (hg _ _ _ _ _) (ht _ _ _ _ _) (he _ _ _ _ _) T fx I4 t4 (fun b hb=>(f3 b hb).1) w0 step fun σ' H' s5 I5 qn=>?_
  obtain⟨m5,hm5,_⟩:=id I5.loc
  exact fin _ _ H' s5 m5 hm5 qn (fun h' sb=>zMV I3 f3 rfl I5 sb) ⟨I5.free,CL,I3.sz,CC,fun p hp=>Qt (Qk (I3.pin p hp).1)⟩
 exact codeAny_compStart_list loop (T.self X.A 0 s4 _ _ t4 loop)
theorem zOI(hc:X.calm=true)(CS:zDc X N' scope inner x0)(hi:PI X tg iter wi)(hg:∀ cl C fp s H,PG (zA5 X N' scope x0 cl C fp s H) tg g)(ht:∀ cl C fp s H,PTs (zA5 X N' scope x0 cl C fp s H) ifs ti)(he:∀ cl C fp s H,PE (zA5 X N' scope x0 cl C fp s H) elt te)
  (hs:∀ x,foldedSetIterable iter X.env x=pure x:=by intro _;rfl):PE X (.ListComp elt [⟨tg,iter,ifs,0⟩] scope pos) (zE6 wi g ti te inner):=by
 intro pins s σ H Q I h
 obtain⟨cl,hcl,c1,c2,c3⟩:=clos (env:=X.env) (scope:=scope) fun x hx hk=>I.ok.has x.1 (CS.free x hx hk).2
 rw [eval_ListComp]
 refine wpAny_comprehension_free (use:=none) rfl hs hcl CS.kind CS.loc (thn (hi pins s σ H _ I h) fun xv s1 h1=>thn h1 fun itv s2 h2=>?_)
 obtain⟨it,fp,tn,J,H2,rfl,I2,T,t0,f2,q⟩:=h2
 refine zLO (RR:=fun acc C=>compPost (model X.prog X.w) X.A X.xe none (EP X pins σ Q) acc C) hc CS hg ht he c1 c2 c3 I2 T t0 f2 q ?_
 intro D C H' s5 m hm hq hI _
 exact⟨m,hm,fun h' sb=>⟨.ref D,H',hI h' sb,rfl,hq⟩⟩
end
end CL
namespace DL
open PySem PySem.Spec PySem.SeqAt PyProof.Rows L2 CL
section
variable {X:Cx}{elt tg iter:Expr}{ifs:List Expr}{scope:Scope}{pos:Pos}{N':List Str}{inner:List (Option Nat)}{x0:Str}{gi:Rho->Option (List D)}{s:D->Rho->Option Rho}{t:Rho->Option Bool}{ge:Rho->Option D}
theorem zL2(hc:X.calm=true)(CS:zDc X N' scope inner x0)(kp:zCq s)(hi:DI X tg iter gi)(hg:∀ cl C fp s' H,DG (zA5 X N' scope x0 cl C fp s' H) tg s)(ht:∀ cl C fp s' H,DTs (zA5 X N' scope x0 cl C fp s' H) ifs t)(he:∀ cl C fp s' H,DE (zA5 X N' scope x0 cl C fp s' H) elt ge)
  (hs:∀ x,foldedSetIterable iter X.env x=pure x:=by intro _;rfl):DE X (.ListComp elt [⟨tg,iter,ifs,0⟩] scope pos) (eLc (zAA gi s t ge inner)):=
 zAQ (zOI (g:=tDG X.K s) (ti:=tDT X.K t) (te:=tD X.K ge) hc CS hi (fun cl C fp s' H=>hg cl C fp s' H) (fun cl C fp s' H=>ht cl C fp s' H) (fun cl C fp s' H=>he cl C fp s' H) hs) fun σ H Q zz=>by
  obtain⟨F,H₀,ρ,d,S,q,k⟩:=zz
  obtain⟨out,e1,q⟩:=bnd q
  cases q
  refine zFq kp S e1 fun F' H' D' vs E' T' h1 h2 h3 h4 h5=>?_
  refine k (fun a=>F' a ∨ a=D') H' _ ⟨E'.same,fun a f=>.inl (E'.up a f),fun a f=>?_⟩ (.lst (.inl ⟨.inr rfl,.inl h2⟩) (h4.stay ⟨fun _ f=>.inl f,fun _ _ f=>f,fun _ _ _ f=>f,fun _ _ _ f=>f⟩))
  rcases f with f | rfl
  ·exact E'.new a f
  ·exact .inr ⟨h1,by rw [h2];simp⟩
end
end DL
namespace CL
open PySem PySem.Spec PyProof.Rows L2
section
variable {X:Cx}{elt tg iter:Expr}{ifs:List Expr}{scope:Scope}{pos:Pos}{N':List Str}{inner:List (Option Nat)}{x0:Str}{wi:TI}{g:TG}{ti:TT}{te:TE}
end
end CL
namespace DL
open PySem PySem.Spec PySem.SeqAt PyProof.Rows L2 CL
section
variable {X:Cx}{elt tg iter:Expr}{ifs:List Expr}{scope:Scope}{pos:Pos}{N':List Str}{inner:List (Option Nat)}{x0:Str}{gi:Rho->Option (List D)}{s:D->Rho->Option Rho}{t:Rho->Option Bool}{ge:Rho->Option D}
end
def zHE(osc:Scope)(oN N':List Str)(scope:Scope)(inner:List (Option Nat))(x0:Str):Bool:=
 scope.kind == .function && scope.names.lookup x0 == some .cell && scope.names.all (fun x=>x.2 != .cell || x.1 == x0) && scope.names.all (fun x=>x.2 != .local || scope.names.lookup x.1 == some .local) &&
 scope.names.all (fun x=>x.2 != .free || (scope.names.lookup x.1 == some .free && (osc.names.lookup x.1 == some .cell || osc.names.lookup x.1 == some .free))) && inner.length == N'.length &&
 (List.range inner.length).all fun i=>match inner[i]? with
  | some (some j)=>match N'[i]? with
   | some x=>oN[j]? == some x && scope.names.lookup x == some .free
   | none=>false
  | _=>true
theorem zLM{X:Cx}{N':List Str}{scope:Scope}{inner:List (Option Nat)}{x0:Str}(osc:Scope)(oN:List Str)(h1:X.env.scope=osc)(h2:X.N=oN)(h:zHE osc oN N' scope inner x0=true)(cf:∀ n acc,cellsFrom n scope.names acc=(x0,n)::acc)(pc:∀ h,pushCells h scope.names=h.push { cls:=.type "cell",data:=.cell none }):zDc X N' scope inner x0:=by
 unfold zHE at h
 simp only [QH]at h
 obtain⟨⟨⟨⟨⟨⟨a1,a0⟩,a2⟩,a3⟩,a4⟩,a5⟩,a6⟩:=h
 refine⟨QW a1,QW a0,fun x hx e=>?_,cf,pc,fun x hx e=>?_,fun x hx e=>?_,QW a5,fun i j e=>?_⟩
 ·have:=QG.mp a2 x hx
  rw [e]at this
  rcases YJ.mp this with z | z
  ·cases z
  ·exact QW z
 ·have:=QG.mp a3 x hx
  rw [e]at this
  rcases YJ.mp this with z | z
  ·cases z
  ·exact QW z
 ·have:=QG.mp a4 x hx
  rw [e]at this
  rcases YJ.mp this with z | z
  ·cases z
  ·obtain⟨z1,z2⟩:=Qy.mp z
   refine⟨QW z1,?_⟩
   rw [h1]
   rcases YJ.mp z2 with z | z
   ·exact .inl (QW z)
   ·exact .inr (QW z)
 ·have hi:i<inner.length:=(Qf.mp e).1
  have:=QG.mp a6 i (QE.mpr hi)
  rw [e]at this
  dsimp only at this
  split at this
  ·rename_i x e2
   obtain⟨z1,z2⟩:=Qy.mp this
   exact⟨x,e2,by rw [h2];exact QW z1,QW z2⟩
  ·cases this
def zJ7(scope osc:Scope):Scope:={ scope with names:=scope.names.map fun(n,k)=>if(k == .free && osc.kind == .function && osc.names.lookup n == some .cell)then(n,.cell)else(n,k) }
theorem zLN{X:Cx}{N' N2:List Str}{scope scope2:Scope}{x0:Str}{cl:List (Str × Addr)}{C:Addr}{fp:List Addr}{s:Shared}{H:Hp}{inner2:List (Option Nat)}(osc:Scope)(oN:List Str)(h1:X.env.scope=osc)(h2:N'=oN)(h:zFp (zJ7 scope osc) oN N2 scope2 inner2=true):
  zB1 (zA5 X N' scope x0 cl C fp s H) N2 scope2 inner2:=zAM (zJ7 scope osc) oN (by subst h1;rfl) h2 h
end DL
namespace My
open PySem PySem.Spec PySem.SeqAt PyProof.Rows L2 CL DL SD ZL SL EL DC TB TX
def top(i:Nat):Stmt:=PySem.Challenge.pw_lampfloor_k84_whole_lit_posts.main.body.getD i (.Pass ⟨0,0,0,0⟩)
structure Fo(K:PySem.W.Frag)(mg:Str->Option Value)(n:Str)(st:Stmt)(ps:List Str)(a:Addr)(d:FuncData):Prop where
 F:Fun K n n st a d
 m:mg n=some (.ref a)
 b:L2.Binds K d ps []
theorem fsc{N P:List Str}{sc:Scope}(h:(sc.kind,sc.isCoroutine,sc.isGenerator,N.take P.length)=(.function,false,false,P))(q:N.Nodup/\(∀ x∈P,sc.names.lookup x=some .local ∨ sc.names.lookup x=some .cell)/\∀ y∈sc.names,y.2≠.free):zAp N P sc:=by
 injection h with h1 h
 injection h with h2 h
 injection h with h3 h4
 exact⟨h1,h2,h3,q.1,h4,q.2.1,q.2.2⟩
theorem dac{X:Cx}{e:Expr}{es:List Expr}{ga:Rho->Option D}{gr:Rho->Option (List D)}(ha:DE X e ga)(hr:DA X es gr)(h:zGz e=true):DA X (e::es) (zAc ga gr):=zLZ ha hr h
theorem dtp{X:Cx}{es:List Expr}{gr:Rho->Option (List D)}{x1 pos}(h:DA X es gr):DE X (.Tuple es x1 pos) (eTup gr):=zL7 h
theorem dcl{X:Cx}{e:Expr}{es:List Expr}{gr:Rho->Option (List D)}{p pos:Pos}{k m n:Nat}{f:Addr}{fd:FuncData}{ps:List Str}{st:Stmt}{x:Str}{G:List D->Option D}(F:Fo X.K X.mg x st ps f fd)(Gx:FnOk X.prog X.w X.K X.mg X.base CX0 k f fd ps (spD X.K n G))(hr:Room m X.A)(hg:Gl X x)
  (ha:DA X (e::es) gr) (hln:∀ ρ ds,gr ρ=some ds->ds.length=n) (hkm:k<=m:=by decide) (hdb:(x == ("__debug__":Str))=false:=by decide) (he:starEach (e::es) X.env=(false,eval e X.env)::starEach es X.env:=by rfl) (hpl:(backTo pos (starEach es X.env)).any (·.1)=false:=by rfl):DE X (.Call (.Name x p) (e::es) [] pos) (zAf G gr):=zL1 Gx (hr.mono hkm) hg F.m F.F.kp F.b ha hln hdb he hpl
theorem ln0:∀(ρ:Rho) (ds:List D),eNil ρ=some ds->ds.length=0:=fun _ _ h=>zMo h
section
variable {a b c d e f:Rho->Option D}
theorem ln1:∀(ρ:Rho) (ds:List D),zAc a eNil ρ=some ds->ds.length=1:=zEl ln0
theorem ln2:∀(ρ:Rho) (ds:List D),zAc a (zAc b eNil) ρ=some ds->ds.length=2:=zEl ln1
theorem ln3:∀(ρ:Rho) (ds:List D),zAc a (zAc b (zAc c eNil)) ρ=some ds->ds.length=3:=zEl ln2
theorem ln4:∀(ρ:Rho) (ds:List D),zAc a (zAc b (zAc c (zAc d eNil))) ρ=some ds->ds.length=4:=zEl ln3
end
abbrev s_qt:Stmt:=top 6
abbrev s_qq:Stmt:=top 12
abbrev s_p6:Stmt:=top 14
abbrev s_p0:Stmt:=top 16
abbrev s_q7:Stmt:=top 17
abbrev s_q9:Stmt:=top 26
abbrev s_p2:Stmt:=top 27
abbrev s_q6:Stmt:=top 28
abbrev s_q5:Stmt:=top 33
abbrev s_p4:Stmt:=top 36
abbrev s_qc:Stmt:=top 37
abbrev s_p5:Stmt:=top 45
abbrev s_qr:Stmt:=top 53
abbrev s_qj:Stmt:=top 56
abbrev s_q2:Stmt:=top 7
abbrev s_qk:Stmt:=top 13
abbrev s_qy:Stmt:=top 19
abbrev s_qo:Stmt:=top 34
abbrev s_qv:Stmt:=top 48
abbrev s_qi:Stmt:=top 54
abbrev s_qp:Stmt:=top 57
abbrev s_p3:Stmt:=top 8
abbrev s_q4:Stmt:=top 20
abbrev s_q3:Stmt:=top 24
abbrev s_p7:Stmt:=top 35
abbrev s_qe:Stmt:=top 55
abbrev s_qg:Stmt:=top 59
abbrev s_q0:Stmt:=top 9
abbrev s_qu:Stmt:=top 38
abbrev s_qs:Stmt:=top 49
abbrev s_qx:Stmt:=top 10
abbrev s_qf:Stmt:=top 50
abbrev s_q1:Stmt:=top 11
abbrev s_qz:Stmt:=top 21
abbrev s_qb:Stmt:=top 32
abbrev s_qd:Stmt:=top 47
abbrev s_q8:Stmt:=top 25
abbrev s_qw:Stmt:=top 39
abbrev s_qm:Stmt:=top 40
abbrev s_p1:Stmt:=top 51
abbrev s_qa:Stmt:=top 29
abbrev s_ql:Stmt:=top 30
abbrev s_qn:Stmt:=top 41
abbrev s_qh:Stmt:=top 42
abbrev s_p8:Stmt:=top 60
def zCG:List (Str × D):=[("n",.tuple [.int 0,.int (-1)]),("e",.tuple [.int 1,.int 0]),("s",.tuple [.int 0,.int 1]),("w",.tuple [.int (-1),.int 0])]
def N_qt:List Str:=["thing"]
theorem sc_qt:zAp N_qt ["thing"] (zAg s_qt):=fsc rfl (by decide +kernel)
def zIy:Rho->Option Out:=
  (sRet (zBS (eIs "int" (eV 0)) (zDE (eIs "bool" (eV 0)))))
def zCM:List D->Option D:=fnD 1 zIy
def N_qq:List Str:=["floor","cells","x"]
theorem zGO:zAp N_qq ["floor"] (zAg s_qq):=fsc rfl (by decide +kernel)
def zHk:List Str:=["y","x"]
theorem zN4:zHk.Nodup:=by decide +kernel
def zFS:Rho->Option Out:=
  (sSeq (sOwn 1 eNil)
  (sSeq (sFor (zBA (zAc (eOp dIx (eV 0) (eC (.int 0))) eNil)) (zAm 2) (sExt 1 (eLc (zAA (zBA (zAc (eOp dIx (eV 0) (eC (.int 1))) eNil)) (zAm 0) eT (eTup (zAc (eV 1) (zAc (eV 0) eNil))) [none,some 2]))))
  (sRet (eV 1))))
def zDf:List D->Option D:=fnD 3 zFS
def N_p6:List Str:=["things"]
theorem sc_p6:zAp N_p6 ["things"] (zAg s_p6):=fsc rfl (by decide +kernel)
def zG1:List Str:=["thing"]
theorem zNP:zG1.Nodup:=by decide +kernel
def zIC:Rho->Option Out:=
  (sRet (zAf zEd (zAc (eLc (zAA (iSeq (eV 0)) (zAm 0) eT (eTup (zAc (eV 0) (zAc (eC (.bool true)) eNil))) [none])) eNil)))
def zAR:List D->Option D:=fnD 1 zIC
def N_p0:List Str:=["one","other","far_x","far_y","way_x","way_y","gone_x","gone_y","cells","border_x","border_y"]
theorem zBu:zAp N_p0 ["one","other"] (zAg s_p0):=fsc rfl (by decide +kernel)
def zFX:Rho->Option Out:=
  (sSeq (sSet 2 (zAf dAbs (zAc (eOp dSub (eOp dIx (eV 1) (eC (.int 0))) (eOp dIx (eV 0) (eC (.int 0)))) eNil)))
  (sSeq (sSet 3 (zAf dAbs (zAc (eOp dSub (eOp dIx (eV 1) (eC (.int 1))) (eOp dIx (eV 0) (eC (.int 1)))) eNil)))
  (sSeq (sSet 4 (eIf (eB (eOp dGt (eOp dIx (eV 1) (eC (.int 0))) (eOp dIx (eV 0) (eC (.int 0))))) (eC (.int 1)) (eUn dNeg (eC (.int 1)))))
  (sSeq (sSet 5 (eIf (eB (eOp dGt (eOp dIx (eV 1) (eC (.int 1))) (eOp dIx (eV 0) (eC (.int 1))))) (eC (.int 1)) (eUn dNeg (eC (.int 1)))))
  (sSeq (sSet 6 (eC (.int 0)))
  (sSeq (sSet 7 (eC (.int 0)))
  (sSeq (sOwn 8 (zAc (eV 0) eNil))
  (sSeq (zBD (eOr (eB (eOp dLt2 (eV 6) (eV 2))) (eB (eOp dLt2 (eV 7) (eV 3)))) (sSeq (sSet 9 (eOp zAy (eOp zAx (eOp zAy (eC (.int 2)) (eV 6)) (eC (.int 1))) (eV 3)))
  (sSeq (sSet 10 (eOp zAy (eOp zAx (eOp zAy (eC (.int 2)) (eV 7)) (eC (.int 1))) (eV 2)))
  (sSeq (sIf (eB (eOp dLe (eV 9) (eV 10))) (sSet 6 (eOp zAx (eV 6) (eC (.int 1)))) zAL)
  (sSeq (sIf (eB (eOp dLe (eV 10) (eV 9))) (sSet 7 (eOp zAx (eV 7) (eC (.int 1)))) zAL)
  (sApp 8 (eTup (zAc (eOp zAx (eOp dIx (eV 0) (eC (.int 0))) (eOp zAy (eV 4) (eV 6))) (zAc (eOp zAx (eOp dIx (eV 0) (eC (.int 1))) (eOp zAy (eV 5) (eV 7))) eNil)))))))) 900)
  (sRet (eV 8))))))))))
def zDi:List D->Option D:=fnD 11 zFX
def N_q7:List Str:=["cells","couples","here","there"]
theorem zEU:zAp N_q7 ["cells"] (zAg s_q7):=fsc rfl (by decide +kernel)
def zFW:Rho->Option Out:=
  (sSeq (sOwn 1 eNil)
  (sSeq (sFor (iZip (zAc (eV 0) (zAc (eSl2 (eV 0) (oE (eC (.int 1))) oNo) eNil))) (uTup 2 (zAH (zAm 2) (zAH (zAm 3) uNil))) (sIf (eAnd (eB (eOp dNe (eOp dIx (eV 2) (eC (.int 0))) (eOp dIx (eV 3) (eC (.int 0))))) (eB (eOp dNe (eOp dIx (eV 2) (eC (.int 1))) (eOp dIx (eV 3) (eC (.int 1)))))) (sApp 1 (zAf zCT (zAc (zAf zBQ (zAc (eLst (zAc (eTup (zAc (eOp dIx (eV 2) (eC (.int 0))) (zAc (eOp dIx (eV 3) (eC (.int 1))) eNil))) (zAc (eTup (zAc (eOp dIx (eV 3) (eC (.int 0))) (zAc (eOp dIx (eV 2) (eC (.int 1))) eNil))) eNil))) eNil)) eNil))) zAL))
  (sRet (eV 1))))
def zCL:List D->Option D:=fnD 4 zFW
def N_q9:List Str:=["choices","cells","longer","chosen"]
theorem zGM:zAp N_q9 ["choices","cells"] (zAg s_q9):=fsc rfl (by decide +kernel)
def zG8:List Str:=["cell","chosen"]
theorem zNW:zG8.Nodup:=by decide +kernel
def zF8:Rho->Option Out:=
  (sSeq (sOwn 2 eNil)
  (sSeq (sFor (iSeq (eV 0)) (zAm 3) (sExt 2 (eLc (zAA (iSeq (eV 1)) (zAm 0) (eOr (eB (eOp dEq (eV 1) (eLst eNil))) (eB (eOp dLt2 (eOp dIx (eV 1) (eUn dNeg (eC (.int 1)))) (eV 0)))) (eOp zAx (eV 1) (eLst (zAc (eV 0) eNil))) [none,some 3]))))
  (sRet (eV 2))))
def zB2:List D->Option D:=fnD 4 zF8
def N_p2:List Str:=["fields","posts"]
theorem sc_p2:zAp N_p2 ["fields","posts"] (zAg s_p2):=fsc rfl (by decide +kernel)
def zFg:List Str:=["cell","posts","fields"]
theorem zNN:zFg.Nodup:=by decide +kernel
def zG0:List Str:=["post","cell","fields"]
theorem zNO:zG0.Nodup:=by decide +kernel
def zIJ:Rho->Option Out:=
  (sRet (zAf dAll (zAc (eLc (zAA (iKey (eV 0)) (zAm 0) eT (zAf dAny (zAc (eLc (zAA (iSeq (eV 1)) (zAm 0) eT (eOp (dIn2 false) (eV 1) (eOp dIx2 (eV 2) (eV 0))) [none,some 0,some 2])) eNil)) [none,some 1,some 0])) eNil)))
def zCn:List D->Option D:=fnD 2 zIJ
def N_q6:List Str:=["fields","chosen"]
theorem sc_q6:zAp N_q6 ["fields","chosen"] (zAg s_q6):=fsc rfl (by decide +kernel)
def zG6:List Str:=["cell","fields","chosen"]
theorem zNU:zG6.Nodup:=by decide +kernel
def zIA:Rho->Option Out:=
  (sRet (zDE (zAf dAny (zAc (eLc (zAA (iSeq (eSl2 (eV 1) oNo (oE (eUn dNeg (eC (.int 1)))))) (zAm 0) eT (eOp (dIn2 false) (eV 0) (eOp dIx2 (eV 1) (eOp dIx (eV 2) (eUn dNeg (eC (.int 1)))))) [none,some 0,some 1])) eNil))))
def zCN:List D->Option D:=fnD 2 zIA
def N_q5:List Str:=["one","other","rest"]
theorem zET:zAp N_q5 ["one","other"] (zAg s_q5):=fsc rfl (by decide +kernel)
def zFV:Rho->Option Out:=
  (sSeq (zBD (eB (eOp dNe (eV 1) (eC (.int 0)))) (sSeq (sSet 2 (eOp dMod (eV 0) (eV 1)))
  (sSeq (sSet 0 (eV 1))
  (sSet 1 (eV 2)))) 900)
  (sRet (eV 0)))
def zDh:List D->Option D:=fnD 3 zFV
def N_p4:List Str:=["one","other"]
theorem sc_p4:zAp N_p4 ["one","other"] (zAg s_p4):=fsc rfl (by decide +kernel)
def zIw:Rho->Option Out:=
  (sRet (eOp dLt2 (eOp zAy (eOp dIx (eV 0) (eC (.int 0))) (eOp dIx (eV 1) (eC (.int 1)))) (eOp zAy (eOp dIx (eV 1) (eC (.int 0))) (eOp dIx (eV 0) (eC (.int 1))))))
def zDo:List D->Option D:=fnD 2 zIw
def N_qc:List Str:=["one","other"]
theorem sc_qc:zAp N_qc ["one","other"] (zAg s_qc):=fsc rfl (by decide +kernel)
def zIL:Rho->Option Out:=
  (sRet (eOp zAx (eOp dPow (eOp dSub (eOp dIx (eV 0) (eC (.int 0))) (eOp dIx (eV 1) (eC (.int 0)))) (eC (.int 2))) (eOp dPow (eOp dSub (eOp dIx (eV 0) (eC (.int 1))) (eOp dIx (eV 1) (eC (.int 1)))) (eC (.int 2)))))
def zCp:List D->Option D:=fnD 2 zIL
def N_p5:List Str:=["cell","word"]
theorem sc_p5:zAp N_p5 ["cell","word"] (zAg s_p5):=fsc rfl (by decide +kernel)
def zIp:Rho->Option Out:=
  (sRet (eTup (zAc (eOp zAx (eOp dIx (eV 0) (eC (.int 0))) (eOp dIx (eTab zCG (eV 1)) (eC (.int 0)))) (zAc (eOp zAx (eOp dIx (eV 0) (eC (.int 1))) (eOp dIx (eTab zCG (eV 1)) (eC (.int 1)))) eNil))))
def zDg:List D->Option D:=fnD 2 zIp
def N_qr:List Str:=["_law_script","_law_k"]
theorem sc_qr:zAp N_qr ["_law_script","_law_k"] (zAg s_qr):=fsc rfl (by decide +kernel)
def zIj:Rho->Option Out:=
  (sSeq (sIf (eB (eOp dEq (eV 0) (eLst eNil))) (sRet (eOp zAy (eC (.int 7)) (eV 1))) zAL)
  (sRet (eOp zAx (eOp dIx (eV 0) (eOp dMod (eV 1) (zAf dLen (zAc (eV 0) eNil)))) (eOp zAy (eC (.int 6553)) (eOp zBo (eV 1) (zAf dLen (zAc (eV 0) eNil)))))))
def zDd:List D->Option D:=fnD 2 zIj
def N_qj:List Str:=["_law_floor_here"]
theorem sc_qj:zAp N_qj ["_law_floor_here"] (zAg s_qj):=fsc rfl (by decide +kernel)
def zHf:List Str:=["_law_at","_law_floor_here"]
theorem zN0:zHf.Nodup:=by decide +kernel
def zIk:Rho->Option Out:=
  (sRet (eLc (zAA (zBA (zAc (eOp zAy (eOp dIx (eV 0) (eC (.int 0))) (eOp dIx (eV 0) (eC (.int 1)))) eNil)) (zAm 0) eT (eTup (zAc (eOp zBo (eV 0) (eOp dIx (eV 1) (eC (.int 1)))) (zAc (eOp dMod (eV 0) (eOp dIx (eV 1) (eC (.int 1)))) eNil))) [none,some 0])))
def zDe:List D->Option D:=fnD 1 zIk
def N_q2:List Str:=["thing"]
theorem sc_q2:zAp N_q2 ["thing"] (zAg s_q2):=fsc rfl (by decide +kernel)
def zIz:Rho->Option Out:=
  (sSeq (sIf (eOr (eNot (eB (eIs "tuple" (eV 0)))) (eB (eOp dNe (zAf dLen (zAc (eV 0) eNil)) (eC (.int 2))))) (sRet (eC (.bool false))) zAL)
  (sRet (zBS (zAf zCM (zAc (eOp dIx (eV 0) (eC (.int 0))) eNil)) (zAf zCM (zAc (eOp dIx (eV 0) (eC (.int 1))) eNil)))))
def zDq:List D->Option D:=fnD 1 zIz
def N_qk:List Str:=["floor"]
theorem sc_qk:zAp N_qk ["floor"] (zAg s_qk):=fsc rfl (by decide +kernel)
def zIF:Rho->Option Out:=
  (sRet (zFA (zFz (eSet (zAc (zAf zDf (zAc (eV 0) eNil)) eNil)) (eSet (zAc (eOp dIx (eV 0) (eC (.int 2))) eNil)))))
def zBE:List D->Option D:=fnD 1 zIF
def N_qy:List Str:=["solids","one","other","cells","cell","first","second"]
theorem zD0:zAp N_qy ["solids","one","other"] (zAg s_qy):=fsc rfl (by decide +kernel)
def zF0:Rho->Option Out:=
  (sSeq (sSet 3 (zAf zDi (zAc (eV 1) (zAc (eV 2) eNil))))
  (sSeq (sFor (iSeq (eSl2 (eV 3) oNo (oE (eUn dNeg (eC (.int 1)))))) (zAm 4) (sIf (eB (eOp (dIn2 false) (eV 4) (eV 0))) (sRet (eC (.bool false))) zAL))
  (sSeq (sFor (iSeq (zAf zCL (zAc (eV 3) eNil))) (uTup 2 (zAH (zAm 5) (zAH (zAm 6) uNil))) (sIf (eAnd (eB (eOp (dIn2 false) (eV 5) (eV 0))) (eB (eOp (dIn2 false) (eV 6) (eV 0)))) (sRet (eC (.bool false))) zAL))
  (sRet (eC (.bool true))))))
def zCj:List D->Option D:=fnD 7 zF0
def N_qo:List Str:=["top","under","divisor"]
theorem zKm:zAp N_qo ["top","under"] (zAg s_qo):=fsc rfl (by decide +kernel)
def zF7:Rho->Option Out:=
  (sSeq (sSet 2 (zAf zDh (zAc (eV 0) (zAc (eV 1) eNil))))
  (sRet (eTup (zAc (eOp zBo (eV 0) (eV 2)) (zAc (eOp zBo (eV 1) (eV 2)) eNil)))))
def zCP:List D->Option D:=fnD 3 zF7
def N_qv:List Str:=["eye","cell","step","x","y"]
theorem zEV:zAp N_qv ["eye","cell"] (zAg s_qv):=fsc rfl (by decide +kernel)
def zIu:Rho->Option Out:=
  (sSeq (sSet 2 (zAf zDg (zAc (eTup (zAc (eC (.int 0)) (zAc (eC (.int 0)) eNil))) (zAc (eOp dIx (eV 0) (eC (.int 1))) eNil))))
  (sSeq (sSet 3 (eOp dSub (eOp dIx (eV 1) (eC (.int 0))) (eOp dIx (eOp dIx (eV 0) (eC (.int 0))) (eC (.int 0)))))
  (sSeq (sSet 4 (eOp dSub (eOp dIx (eV 1) (eC (.int 1))) (eOp dIx (eOp dIx (eV 0) (eC (.int 0))) (eC (.int 1)))))
  (sRet (eOp dLe (zAf dAbs (zAc (eOp dSub (eOp zAy (eV 3) (eOp dIx (eV 2) (eC (.int 1)))) (eOp zAy (eV 4) (eOp dIx (eV 2) (eC (.int 0))))) eNil)) (eOp zAx (eOp zAy (eV 3) (eOp dIx (eV 2) (eC (.int 0)))) (eOp zAy (eV 4) (eOp dIx (eV 2) (eC (.int 1))))))))))
def zDm:List D->Option D:=fnD 5 zIu
def N_qi:List Str:=["_law_script","_law_k","_law_many","_law_cell_here"]
theorem zGN:zAp N_qi ["_law_script","_law_k","_law_many"] (zAg s_qi):=fsc rfl (by decide +kernel)
def zIl:Rho->Option Out:=
  (sSeq (sSet 3 (eOp dMod (eOp zAx (eOp zAy (eOp dMod (zAf zDd (zAc (eV 0) (zAc (eV 1) eNil))) (eC (.int 2147483563))) (eC (.int 69069))) (eOp zAy (eC (.int 104723)) (eOp zAx (eV 1) (eC (.int 1))))) (eC (.int 2147483563))))
  (sSeq (sSet 3 (eOp dMod (eOp zAx (eOp zAy (eV 3) (eV 3)) (eOp zBo (eV 3) (eC (.int 3)))) (eC (.int 2147483399))))
  (sRet (eOp dMod (eOp zBo (eOp dMod (eOp zAx (eOp zAy (eV 3) (eV 3)) (eOp zBo (eV 3) (eC (.int 7)))) (eC (.int 2147483647))) (eC (.int 11))) (eV 2)))))
def zBb:List D->Option D:=fnD 4 zIl
def N_qp:List Str:=["_law_floor_here"]
theorem sc_qp:zAp N_qp ["_law_floor_here"] (zAg s_qp):=fsc rfl (by decide +kernel)
def zHj:List Str:=["_law_cell_here","_law_floor_here"]
theorem zN3:zHj.Nodup:=by decide +kernel
def zIn:Rho->Option Out:=
  (sRet (eLc (zAA (iSeq (zAf zDe (zAc (eV 0) eNil))) (zAm 0) (eB (eOp (dIn true) (eV 0) (eOp dIx (eV 1) (eC (.int 2))))) (eV 0) [none,some 0])))
def zCJ:List D->Option D:=fnD 1 zIn
def N_p3:List Str:=["floor","thing"]
theorem sc_p3:zAp N_p3 ["floor","thing"] (zAg s_p3):=fsc rfl (by decide +kernel)
def zIv:Rho->Option Out:=
  (sSeq (sIf (eNot (eB (zAf zDq (zAc (eV 1) eNil)))) (sRet (eC (.bool false))) zAL)
  (sRet (zBS (zEk dLe dLt2 (eC (.int 0)) (eOp dIx (eV 1) (eC (.int 0))) (eOp dIx (eV 0) (eC (.int 0)))) (zEk dLe dLt2 (eC (.int 0)) (eOp dIx (eV 1) (eC (.int 1))) (eOp dIx (eV 0) (eC (.int 1)))))))
def zDn:List D->Option D:=fnD 2 zIv
def N_q4:List Str:=["solids","one","other"]
theorem sc_q4:zAp N_q4 ["solids","one","other"] (zAg s_q4):=fsc rfl (by decide +kernel)
def zIK:Rho->Option Out:=
  (sRet (zBS (eOp (dIn2 true) (eV 2) (eV 0)) (zAf zCj (zAc (eV 0) (zAc (eV 1) (zAc (eV 2) eNil))))))
def zCo:List D->Option D:=fnD 3 zIK
def N_q3:List Str:=["floor","cells"]
theorem zKi:zAp N_q3 ["floor"] (zAg s_q3):=fsc rfl (by decide +kernel)
def zFU:Rho->Option Out:=
  (sSeq (sSet 1 (zAf zBE (zAc (eV 0) eNil)))
  (sSeq (sIf (eB (eOp dGt (zAf dLen (zAc (eV 1) eNil)) (eC (.int 12)))) (fun _=>none) zAL)
  (sRet (eV 1))))
def zCf:List D->Option D:=fnD 2 zFU
def N_p7:List Str:=["one","other"]
theorem sc_p7:zAp N_p7 ["one","other"] (zAg s_p7):=fsc rfl (by decide +kernel)
def zIo:Rho->Option Out:=
  (sRet (zAf zCP (zAc (eOp zAx (eOp zAy (eOp dIx (eV 0) (eC (.int 0))) (eOp dIx (eV 1) (eC (.int 1)))) (eOp zAy (eOp dIx (eV 1) (eC (.int 0))) (eOp dIx (eV 0) (eC (.int 1))))) (zAc (eOp zAy (eOp dIx (eV 0) (eC (.int 1))) (eOp dIx (eV 1) (eC (.int 1)))) eNil))))
def zCK:List D->Option D:=fnD 2 zIo
def N_qe:List Str:=["_law_script","_law_at","_law_most","_law_wide","_law_high","_law_rate","_law_shuts","_law_x"]
theorem zC9:zAp N_qe ["_law_script","_law_at","_law_most"] (zAg s_qe):=fsc rfl (by decide +kernel)
def zHb:List Str:=["_law_y","_law_x","_law_script","_law_rate","_law_at"]
theorem zNZ:zHb.Nodup:=by decide +kernel
def zFR:Rho->Option Out:=
  (sSeq (sSet 3 (eOp zAx (eC (.int 1)) (zAf zBb (zAc (eV 0) (zAc (eV 1) (zAc (eV 2) eNil))))))
  (sSeq (sSet 4 (eOp zAx (eC (.int 1)) (zAf zBb (zAc (eV 0) (zAc (eOp zAx (eV 1) (eC (.int 1))) (zAc (eV 2) eNil))))))
  (sSeq (sSet 5 (eOp dIx (eLst (zAc (eC (.int 2)) (zAc (eC (.int 3)) (zAc (eC (.int 3)) (zAc (eC (.int 5)) (zAc (eC (.int 9)) eNil)))))) (zAf zBb (zAc (eV 0) (zAc (eOp zAx (eV 1) (eC (.int 2))) (zAc (eC (.int 5)) eNil))))))
  (sSeq (sOwn 6 eNil)
  (sSeq (sFor (zBA (zAc (eV 3) eNil)) (zAm 7) (sExt 6 (eLc (zAA (zBA (zAc (eV 4) eNil)) (zAm 0) (eB (eOp dEq (zAf zBb (zAc (eV 2) (zAc (eOp zAx (eOp zAx (eOp zAx (eV 4) (eC (.int 3))) (eOp zAy (eC (.int 8)) (eV 1))) (eV 0)) (zAc (eV 3) eNil)))) (eC (.int 0)))) (eTup (zAc (eV 1) (zAc (eV 0) eNil))) [none,some 7,some 0,some 5,some 1]))))
  (sRet (eTup (zAc (eV 3) (zAc (eV 4) (zAc (zAf zCT (zAc (eV 6) eNil)) eNil))))))))))
def zCH:List D->Option D:=fnD 8 zFR
def N_qg:List Str:=["_law_script","_law_at","_law_some"]
theorem sc_qg:zAp N_qg ["_law_script","_law_at","_law_some"] (zAg s_qg):=fsc rfl (by decide +kernel)
def zHd:List Str:=["_law_k","_law_cell_here","_law_script","_law_at"]
theorem zJu:zHd.Nodup:=by decide +kernel
def zIm:Rho->Option Out:=
  (sRet (eLc (zAA (zCv (zAc (eV 2) eNil)) (uTup 2 (zAH (zAm 0) (zAH (zAm 1) uNil))) eT (eTup (zAc (eV 1) (zAc (eOp zAx (eC (.int 1)) (zAf zBb (zAc (eV 2) (zAc (eOp zAx (eV 3) (eV 0)) (zAc (eC (.int 99)) eNil))))) eNil))) [none,none,some 0,some 1])))
def zCI:List D->Option D:=fnD 3 zIm
def N_q0:List Str:=["floor","cell"]
theorem sc_q0:zAp N_q0 ["floor","cell"] (zAg s_q0):=fsc rfl (by decide +kernel)
def zII:Rho->Option Out:=
  (sIf (eNot (eB (zAf zDn (zAc (eV 0) (zAc (eV 1) eNil))))) (fun _=>none) zAL)
def zBO:List D->Option D:=fnD 2 zII
def N_qu:List Str:=["solids","lamps","cell","light","spot","strength"]
theorem zDZ:zAp N_qu ["solids","lamps","cell"] (zAg s_qu):=fsc rfl (by decide +kernel)
def zF2:Rho->Option Out:=
  (sSeq (sSet 3 (eTup (zAc (eC (.int 0)) (zAc (eC (.int 1)) eNil))))
  (sSeq (sFor (iSeq (eV 1)) (uTup 2 (zAH (zAm 4) (zAH (zAm 5) uNil))) (sIf (eB (zAf zCo (zAc (eV 0) (zAc (eV 4) (zAc (eV 2) eNil))))) (sSet 3 (zAf zCK (zAc (eV 3) (zAc (eTup (zAc (eV 5) (zAc (eOp zAx (eC (.int 1)) (zAf zCp (zAc (eV 4) (zAc (eV 2) eNil)))) eNil))) eNil)))) zAL))
  (sRet (eV 3))))
def zCk:List D->Option D:=fnD 6 zF2
def N_qs:List Str:=["solids","eye","cell"]
theorem sc_qs:zAp N_qs ["solids","eye","cell"] (zAg s_qs):=fsc rfl (by decide +kernel)
def zIr:Rho->Option Out:=
  (sSeq (sIf (eOr (eNot (eB (zAf zDm (zAc (eV 1) (zAc (eV 2) eNil))))) (eB (eOp dGt (zAf zCp (zAc (eOp dIx (eV 1) (eC (.int 0))) (zAc (eV 2) eNil))) (eOp zAy (eOp dIx (eV 1) (eC (.int 2))) (eOp dIx (eV 1) (eC (.int 2))))))) (sRet (eC (.bool false))) zAL)
  (sRet (zAf zCo (zAc (eV 0) (zAc (eOp dIx (eV 1) (eC (.int 0))) (zAc (eV 2) eNil))))))
def zDj:List D->Option D:=fnD 3 zIr
def N_qx:List Str:=["floor","cell"]
theorem sc_qx:zAp N_qx ["floor","cell"] (zAg s_qx):=fsc rfl (by decide +kernel)
def zIx:Rho->Option Out:=
  (sSeq (zBa (zAf zBO (zAc (eV 0) (zAc (eV 1) eNil))))
  (sRet (eOp (dIn false) (eV 1) (eOp dIx (eV 0) (eC (.int 2))))))
def zDp:List D->Option D:=fnD 2 zIx
def N_qf:List Str:=["solids","eyes","cell"]
theorem sc_qf:zAp N_qf ["solids","eyes","cell"] (zAg s_qf):=fsc rfl (by decide +kernel)
def zHc:List Str:=["number","eye","solids","cell"]
theorem zJt:zHc.Nodup:=by decide +kernel
def zID:Rho->Option Out:=
  (sRet (eLc (zAA (zCv (zAc (eV 1) eNil)) (uTup 2 (zAH (zAm 0) (zAH (zAm 1) uNil))) (eB (zAf zDj (zAc (eV 2) (zAc (eV 1) (zAc (eV 3) eNil))))) (eV 0) [none,none,some 0,some 2])))
def zDt:List D->Option D:=fnD 3 zID
def N_q1:List Str:=["floor","cell"]
theorem sc_q1:zAp N_q1 ["floor","cell"] (zAg s_q1):=fsc rfl (by decide +kernel)
def zIH:Rho->Option Out:=
  (sIf (eB (zAf zDp (zAc (eV 0) (zAc (eV 1) eNil)))) (fun _=>none) zAL)
def zBx:List D->Option D:=fnD 2 zIH
def N_qz:List Str:=["floor","cell","solids"]
theorem zKn:zAp N_qz ["floor","cell"] (zAg s_qz):=fsc rfl (by decide +kernel)
def zHl:List Str:=["other","solids","cell"]
theorem zN5:zHl.Nodup:=by decide +kernel
def zFZ:Rho->Option Out:=
  (sSeq (zBa (zAf zBx (zAc (eV 0) (zAc (eV 1) eNil))))
  (sSeq (sSet 2 (zAf zAR (zAc (eOp dIx (eV 0) (eC (.int 2))) eNil)))
  (sRet (eLc (zAA (iSeq (zAf zBE (zAc (eV 0) eNil))) (zAm 0) (eB (zAf zCj (zAc (eV 1) (zAc (eV 2) (zAc (eV 0) eNil))))) (eV 0) [none,some 2,some 1])))))
def zCh:List D->Option D:=fnD 3 zFZ
def N_qb:List Str:=["floor","lamps","lamp"]
theorem zKj:zAp N_qb ["floor","lamps"] (zAg s_qb):=fsc rfl (by decide +kernel)
def zDI:Rho->Option Out:=
  (sFor (iSeq (eV 1)) (zAm 2) (zBa (zAf zBx (zAc (eV 0) (zAc (eOp dIx (eV 2) (eC (.int 0))) eNil)))))
def zCm:List D->Option D:=fnD 3 zDI
def N_qd:List Str:=["floor","eyes","eye"]
theorem zKk:zAp N_qd ["floor","eyes"] (zAg s_qd):=fsc rfl (by decide +kernel)
def zIG:Rho->Option Out:=
  (sFor (iSeq (eV 1)) (zAm 2) (zBa (zAf zBx (zAc (eV 0) (zAc (eOp dIx (eV 2) (eC (.int 0))) eNil)))))
def zDu:List D->Option D:=fnD 3 zIG
def N_q8:List Str:=["floor","cells"]
theorem sc_q8:zAp N_q8 ["floor","cells"] (zAg s_q8):=fsc rfl (by decide +kernel)
def zG7:List Str:=["cell","floor"]
theorem zNV:zG7.Nodup:=by decide +kernel
def zIt:Rho->Option Out:=
  (sRet (zAf zEd (zAc (eLc (zAA (iSeq (eV 1)) (zAm 0) eT (eTup (zAc (eV 0) (zAc (zAf zAR (zAc (zAf zCh (zAc (eV 1) (zAc (eV 0) eNil))) eNil)) eNil))) [none,some 0])) eNil)))
def zCi:List D->Option D:=fnD 2 zIt
def N_qw:List Str:=["floor","lamps","cell"]
theorem sc_qw:zAp N_qw ["floor","lamps","cell"] (zAg s_qw):=fsc rfl (by decide +kernel)
def zF1:Rho->Option Out:=
  (sSeq (zBa (zAf zCm (zAc (eV 0) (zAc (eV 1) eNil))))
  (sSeq (zBa (zAf zBO (zAc (eV 0) (zAc (eV 2) eNil))))
  (sRet (zAf zCk (zAc (zAf zAR (zAc (eOp dIx (eV 0) (eC (.int 2))) eNil)) (zAc (eV 1) (zAc (eV 2) eNil)))))))
def zDr:List D->Option D:=fnD 3 zF1
def N_qm:List Str:=["floor","lamps","solids"]
theorem zKl:zAp N_qm ["floor","lamps"] (zAg s_qm):=fsc rfl (by decide +kernel)
def zHh:List Str:=["cell","solids","lamps"]
theorem zN2:zHh.Nodup:=by decide +kernel
def zF3:Rho->Option Out:=
  (sSeq (zBa (zAf zCm (zAc (eV 0) (zAc (eV 1) eNil))))
  (sSeq (sSet 2 (zAf zAR (zAc (eOp dIx (eV 0) (eC (.int 2))) eNil)))
  (sRet (eLc (zAA (iSeq (zAf zBE (zAc (eV 0) eNil))) (zAm 0) eT (eTup (zAc (eV 0) (zAc (zAf zCk (zAc (eV 1) (zAc (eV 2) (zAc (eV 0) eNil)))) eNil))) [none,some 2,some 1])))))
def zCl:List D->Option D:=fnD 3 zF3
def N_p1:List Str:=["floor","eyes","cell"]
theorem sc_p1:zAp N_p1 ["floor","eyes","cell"] (zAg s_p1):=fsc rfl (by decide +kernel)
def zIs:Rho->Option Out:=
  (sSeq (zBa (zAf zDu (zAc (eV 0) (zAc (eV 1) eNil))))
  (sSeq (zBa (zAf zBO (zAc (eV 0) (zAc (eV 2) eNil))))
  (sRet (zAf zDt (zAc (zAf zAR (zAc (eOp dIx (eV 0) (eC (.int 2))) eNil)) (zAc (eV 1) (zAc (eV 2) eNil)))))))
def zDk:List D->Option D:=fnD 3 zIs
def N_qa:List Str:=["floor","cells","fields","choices","enough"]
theorem zCE:zAp N_qa ["floor"] (zAg s_qa):=fsc rfl (by decide +kernel)
def zG9:List Str:=["posts","fields"]
theorem zNX:zG9.Nodup:=by decide +kernel
def zHa:List Str:=["posts","fields"]
theorem zNY:zHa.Nodup:=by decide +kernel
def zFY:Rho->Option Out:=
  (sSeq (sSet 1 (zAf zCf (zAc (eV 0) eNil)))
  (sSeq (sSet 2 (zAf zCi (zAc (eV 0) (zAc (eV 1) eNil))))
  (sSeq (sSet 3 (eLst (zAc (eLst eNil) eNil)))
  (sSeq (sSet 4 (eLc (zAA (iSeq (eV 3)) (zAm 0) (eB (zAf zCn (zAc (eV 1) (zAc (eV 0) eNil)))) (eV 0) [none,some 2])))
  (sSeq (zBD (eB (eOp dEq (eV 4) (eLst eNil))) (sSeq (sSet 3 (zAf zB2 (zAc (eV 3) (zAc (eV 1) eNil))))
  (sSet 4 (eLc (zAA (iSeq (eV 3)) (zAm 0) (eB (zAf zCn (zAc (eV 1) (zAc (eV 0) eNil)))) (eV 0) [none,some 2])))) 900)
  (sRet (eOp dIx (eV 4) (eC (.int 0)))))))))
def zDl:List D->Option D:=fnD 5 zFY
def N_ql:List Str:=["floor","cells","fields","choices","longer"]
theorem zCF:zAp N_ql ["floor"] (zAg s_ql):=fsc rfl (by decide +kernel)
def zHg:List Str:=["chosen","fields"]
theorem zN1:zHg.Nodup:=by decide +kernel
def zF4:Rho->Option Out:=
  (sSeq (sSet 1 (zAf zCf (zAc (eV 0) eNil)))
  (sSeq (sSet 2 (zAf zCi (zAc (eV 0) (zAc (eV 1) eNil))))
  (sSeq (sSet 3 (eLst (zAc (eLst eNil) eNil)))
  (sSeq (sSet 4 (eV 3))
  (sSeq (zBD (eB (eOp dNe (eV 4) (eLst eNil))) (sSeq (sSet 3 (eV 4))
  (sSet 4 (eLc (zAA (iSeq (zAf zB2 (zAc (eV 3) (zAc (eV 1) eNil)))) (zAm 0) (eB (zAf zCN (zAc (eV 1) (zAc (eV 0) eNil)))) (eV 0) [none,some 2])))) 900)
  (sRet (eOp dIx (eV 3) (eC (.int 0)))))))))
def zDs:List D->Option D:=fnD 5 zF4
def N_qn:List Str:=["floor","lamps","least"]
theorem sc_qn:zAp N_qn ["floor","lamps","least"] (zAg s_qn):=fsc rfl (by decide +kernel)
def zHi:List Str:=["cell","light","least"]
theorem zJw:zHi.Nodup:=by decide +kernel
def zIB:Rho->Option Out:=
  (sRet (eLc (zAA (iSeq (zAf zCl (zAc (eV 0) (zAc (eV 1) eNil)))) (uTup 2 (zAH (zAm 0) (zAH (zAm 1) uNil))) (eNot (eB (zAf zDo (zAc (eV 1) (zAc (eV 2) eNil))))) (eV 0) [none,none,some 2])))
def zCO:List D->Option D:=fnD 3 zIB
def N_qh:List Str:=["floor","lamps"]
theorem sc_qh:zAp N_qh ["floor","lamps"] (zAg s_qh):=fsc rfl (by decide +kernel)
def zHe:List Str:=["cell","light"]
theorem zJv:zHe.Nodup:=by decide +kernel
def zIq:Rho->Option Out:=
  (sRet (eLc (zAA (iSeq (zAf zCl (zAc (eV 0) (zAc (eV 1) eNil)))) (uTup 2 (zAH (zAm 0) (zAH (zAm 1) uNil))) (eB (eOp dEq (eV 1) (eTup (zAc (eC (.int 0)) (zAc (eC (.int 1)) eNil))))) (eV 0) [none,none])))
def zCg:List D->Option D:=fnD 2 zIq
def N_p8:List Str:=["_law_script","_law_wide","_law_high","_law_shuts","_law_floor_here","_law_cells_here","_law_posts","_law_few","_law_lamp","_law_cell_here","_law_strength","_law_eyes"]
theorem zA2:zAp N_p8 ["_law_script"] (zAg s_p8):=fsc rfl (by decide +kernel)
def zG2:List Str:=["_law_shut"]
theorem zNQ:zG2.Nodup:=by decide +kernel
def zG3:List Str:=["_law_other","_law_lamp"]
theorem zNR:zG3.Nodup:=by decide +kernel
def zG4:List Str:=["_law_way","_law_cell_here"]
theorem zNS:zG4.Nodup:=by decide +kernel
def zG5:List Str:=["_law_cell_here","_law_floor_here","_law_eyes"]
theorem zNT:zG5.Nodup:=by decide +kernel
def glaw:Rho->Option Out:=
  (sSeq (sAsg (zAf zCH (zAc (eV 0) (zAc (eC (.int 0)) (zAc (eC (.int 4)) eNil)))) (uTup 3 (zAH (zAm 1) (zAH (zAm 2) (zAH (zAm 3) uNil)))))
  (sSeq (sSet 4 (eTup (zAc (eV 1) (zAc (zAf dMin (zAc (eC (.int 3)) (zAc (eV 2) eNil))) (zAc (zAf zCT (zAc (eLc (zAA (iSeq (eV 3)) (zAm 0) (eB (eOp dLt2 (eOp dIx (eV 0) (eC (.int 1))) (eC (.int 3)))) (eV 0) [none])) eNil)) eNil)))))
  (sSeq (sSet 4 (eOp zAx (eSl2 (eV 4) oNo (oE (eC (.int 2)))) (eTup (zAc (zAf zCT (zAc (zAf zBQ (zAc (eOp zAx (zAf zFr (zAc (eOp dIx (eV 4) (eC (.int 2))) eNil)) (eSl2 (zAf zCJ (zAc (eV 4) eNil)) (oE (eC (.int 9))) oNo)) eNil)) eNil)) eNil))))
  (sSeq (sSet 5 (zAf zCJ (zAc (eV 4) eNil)))
  (sSeq (sSet 6 (zAf zCI (zAc (eV 0) (zAc (eC (.int 60)) (zAc (zAf zDl (zAc (eV 4) eNil)) eNil)))))
  (sSeq (sSet 7 (zAf zCI (zAc (eV 0) (zAc (eC (.int 70)) (zAc (zAf zDs (zAc (eV 4) eNil)) eNil)))))
  (sSeq (sIf (eOr (eB (eOp dNe (zAf zCg (zAc (eV 4) (zAc (eV 6) eNil))) (eLst eNil))) (eB (eOp dNe (zAf zCg (zAc (eV 4) (zAc (eV 7) eNil))) (eLst eNil)))) (sRet (eC (.bool false))) zAL)
  (sSeq (sIf (eOr (eB (eOp dNe (zAf zCO (zAc (eV 4) (zAc (eV 6) (zAc (eTup (zAc (eC (.int 1)) (zAc (eC (.int 1000)) eNil))) eNil)))) (eV 5))) (eB (eOp dNe (zAf zCO (zAc (eV 4) (zAc (eV 7) (zAc (eTup (zAc (eC (.int 1)) (zAc (eC (.int 1000)) eNil))) eNil)))) (eV 5)))) (sRet (eC (.bool false))) zAL)
  (sSeq (sFor (iSeq (eV 6)) (zAm 8) (sIf (eB (eOp dEq (zAf zCg (zAc (eV 4) (zAc (eLc (zAA (iSeq (eV 6)) (zAm 0) (eB (eOp dNe (eOp dIx (eV 0) (eC (.int 0))) (eOp dIx (eV 1) (eC (.int 0))))) (eV 0) [none,some 8])) eNil))) (eLst eNil))) (sRet (eC (.bool false))) zAL))
  (sSeq (sFor (iSeq (eV 7)) (uTup 2 (zAH (zAm 9) (zAH (zAm 10) uNil))) (sIf (eB (eOp dNe (zAf zDr (zAc (eV 4) (zAc (eV 7) (zAc (eV 9) eNil)))) (eTup (zAc (eV 10) (zAc (eC (.int 1)) eNil))))) (sRet (eC (.bool false))) zAL))
  (sSeq (sSet 11 (eLst eNil))
  (sSeq (sFor (iSeq (eV 6)) (uTup 2 (zAH (zAm 9) (zAH (zAm 10) uNil))) (sSet 11 (eOp zAx (eV 11) (eLc (zAA (iStr (eC (.str "nesw"))) (zAm 0) eT (eTup (zAc (eV 1) (zAc (eV 0) (zAc (eC (.int 17)) eNil)))) [none,some 9])))))
  (sRet (eOp dEq (eLc (zAA (iSeq (eV 5)) (zAm 0) (eB (eOp dEq (zAf zDk (zAc (eV 1) (zAc (eV 2) (zAc (eV 0) eNil)))) (eLst eNil))) (eV 0) [none,some 4,some 11])) (eLst eNil)))))))))))))))
def Glaw:List D->Option D:=fnD 12 glaw
structure Txt(K:PySem.W.Frag)(mg:Str->Option Value)(a:Nat->Addr)(d:Nat->FuncData)(w:World)(ta:Nat->Addr):Prop where
 F_qt:Fo K mg "is_whole" s_qt ["thing"] (a 0) (d 0)
 F_qq:Fo K mg "all_cells" s_qq ["floor"] (a 1) (d 1)
 F_p6:Fo K mg "marked" s_p6 ["things"] (a 2) (d 2)
 F_p0:Fo K mg "crossed" s_p0 ["one","other"] (a 3) (d 3)
 F_q7:Fo K mg "couples_beside" s_q7 ["cells"] (a 4) (d 4)
 F_q9:Fo K mg "with_one_more" s_q9 ["choices","cells"] (a 5) (d 5)
 F_p2:Fo K mg "see_all" s_p2 ["fields","posts"] (a 6) (d 6)
 F_q6:Fo K mg "last_sees_none" s_q6 ["fields","chosen"] (a 7) (d 7)
 F_q5:Fo K mg "common_divisor" s_q5 ["one","other"] (a 8) (d 8)
 F_p4:Fo K mg "is_less" s_p4 ["one","other"] (a 9) (d 9)
 F_qc:Fo K mg "square_apart" s_qc ["one","other"] (a 10) (d 10)
 F_p5:Fo K mg "beside" s_p5 ["cell","word"] (a 11) (d 11)
 F_qr:Fo K mg "_law_cell" s_qr ["_law_script","_law_k"] (a 12) (d 12)
 F_qj:Fo K mg "_law_cells" s_qj ["_law_floor_here"] (a 13) (d 13)
 F_q2:Fo K mg "is_whole_couple" s_q2 ["thing"] (a 14) (d 14)
 F_qk:Fo K mg "open_cells" s_qk ["floor"] (a 15) (d 15)
 F_qy:Fo K mg "lets_see" s_qy ["solids","one","other"] (a 16) (d 16)
 F_qo:Fo K mg "shortened" s_qo ["top","under"] (a 17) (d 17)
 F_qv:Fo K mg "is_ahead" s_qv ["eye","cell"] (a 18) (d 18)
 F_qi:Fo K mg "_law_drawn" s_qi ["_law_script","_law_k","_law_many"] (a 19) (d 19)
 F_qp:Fo K mg "_law_open" s_qp ["_law_floor_here"] (a 20) (d 20)
 F_p3:Fo K mg "is_cell" s_p3 ["floor","thing"] (a 21) (d 21)
 F_q4:Fo K mg "see_each_other" s_q4 ["solids","one","other"] (a 22) (d 22)
 F_q3:Fo K mg "cells_to_choose" s_q3 ["floor"] (a 23) (d 23)
 F_p7:Fo K mg "added" s_p7 ["one","other"] (a 24) (d 24)
 F_qe:Fo K mg "_law_floor" s_qe ["_law_script","_law_at","_law_most"] (a 25) (d 25)
 F_qg:Fo K mg "_law_lamps" s_qg ["_law_script","_law_at","_law_some"] (a 26) (d 26)
 F_q0:Fo K mg "refuse_off_floor" s_q0 ["floor","cell"] (a 27) (d 27)
 F_qu:Fo K mg "light_in" s_qu ["solids","lamps","cell"] (a 28) (d 28)
 F_qs:Fo K mg "does_spot" s_qs ["solids","eye","cell"] (a 29) (d 29)
 F_qx:Fo K mg "is_solid" s_qx ["floor","cell"] (a 30) (d 30)
 F_qf:Fo K mg "numbers_on" s_qf ["solids","eyes","cell"] (a 31) (d 31)
 F_q1:Fo K mg "refuse_not_open" s_q1 ["floor","cell"] (a 32) (d 32)
 F_qz:Fo K mg "field_of" s_qz ["floor","cell"] (a 33) (d 33)
 F_qb:Fo K mg "refuse_lamps" s_qb ["floor","lamps"] (a 34) (d 34)
 F_qd:Fo K mg "refuse_eyes" s_qd ["floor","eyes"] (a 35) (d 35)
 F_q8:Fo K mg "fields_by_cell" s_q8 ["floor","cells"] (a 36) (d 36)
 F_qw:Fo K mg "light_at" s_qw ["floor","lamps","cell"] (a 37) (d 37)
 F_qm:Fo K mg "lights_of" s_qm ["floor","lamps"] (a 38) (d 38)
 F_p1:Fo K mg "eyes_on" s_p1 ["floor","eyes","cell"] (a 39) (d 39)
 F_qa:Fo K mg "fewest_posts" s_qa ["floor"] (a 40) (d 40)
 F_ql:Fo K mg "most_apart" s_ql ["floor"] (a 41) (d 41)
 F_qn:Fo K mg "lit_cells" s_qn ["floor","lamps","least"] (a 42) (d 42)
 F_qh:Fo K mg "dark_cells" s_qh ["floor","lamps"] (a 43) (d 43)
 F_p8:Fo K mg "law" s_p8 ["_law_script"] (a 44) (d 44)
 z_isinstance:mg "isinstance"=none
 z_int:mg "int"=none
 z_bool:mg "bool"=none
 z_range:mg "range"=none
 z_dict:mg "dict"=none
 z_abs:mg "abs"=none
 z_zip:mg "zip"=none
 z_sorted:mg "sorted"=none
 z_tuple:mg "tuple"=none
 z_any:mg "any"=none
 z_all:mg "all"=none
 z_len:mg "len"=none
 z_set:mg "set"=none
 z_enumerate:mg "enumerate"=none
 z_min:mg "min"=none
 z_list:mg "list"=none
 c_MOST_CELLS:∃ t,mg "MOST_CELLS"=some (.int 12 t)
 tm_STEPS:mg "STEPS"=some (.ref (ta 0))
 tt_STEPS:Tab K w (ta 0) zCG
section
variable {P:Program}{w:World}{K:PySem.W.Frag}{mg:Str->Option Value}{base:Heap}{a:Nat->Addr}{d:Nat->FuncData}{ta:Nat->Addr}(T:Txt K mg a d w ta)
include T
theorem ok_qt  : FnOk P w K mg base CX0 1 (a 0) (d 0) ["thing"] (spD K 1 zCM):=by
 refine zAt (g:=zIy) (G:=zCM) (N:=N_qt) (k:=0) rfl rfl rfl T.F_qt.F sc_qt fun cdv A outer s H E hr=>?_
 exact(zAk (zAq (zEf (zFu (T:="int") (.inr (.inr (.inl rfl))) rfl T.z_isinstance rfl T.z_int boot_int (by decide) (zAa 0)) (zEh (zHN (zFu (T:="bool") (.inr (.inr (.inr (.inl rfl)))) rfl T.z_isinstance rfl T.z_bool boot_bool (by decide) (zAa 0)))))))
theorem ok_qq  : FnOk P w K mg base CX0 1 (a 1) (d 1) ["floor"] (spD K 1 zDf):=by
 refine zAt (g:=zFS) (G:=zDf) (N:=N_qq) (k:=0) rfl rfl rfl T.F_qq.F zGO fun cdv A outer s H E hr=>?_
 exact(zAl (zDC (i:=1) zGO.nd zAd)
  (zAl (zBq Q6 rfl (zDz rfl T.z_range (dac (zAi ixd (zAa 0) zAe) zAd rfl)) (zAr (i:=2) zGO.nd) (zAk (zFx (i:=1) (zAS rfl (zAM (N':=zHk) (inner:=[none,some 2]) (zAg s_qq) N_qq rfl rfl (by decide +kernel)) (zAI 0) (zDz rfl T.z_range (dac (zAi ixd (zAa 0) zAe) zAd rfl)) (fun _ _ _ _ _=>(zAr (i:=0) zN4)) (fun _ _ _ _ _=>zBI) (fun _ _ _ _ _=>(dtp (dac (zAa 1) (dac (zAa 0) zAd rfl) rfl)))))))
  (zAk (zAq (zAa 1)))))
theorem ok_p6  : FnOk P w K mg base CX0 1 (a 2) (d 2) ["things"] (spD K 1 zAR):=by
 refine zAt (g:=zIC) (G:=zAR) (N:=N_p6) (k:=0) rfl rfl rfl T.F_p6.F sc_p6 fun cdv A outer s H E hr=>?_
 exact(zAk (zAq (zCs (zHz rfl (u66 hr)) rfl T.z_dict DC.boot_dict (dac (zAS rfl (zAM (N':=zG1) (inner:=[none]) (zAg s_p6) N_p6 rfl rfl (by decide +kernel)) (zAI 0) (zAJ (zAa 0)) (fun _ _ _ _ _=>(zAr (i:=0) zNP)) (fun _ _ _ _ _=>zBI) (fun _ _ _ _ _=>(dtp (dac (zAa 0) (dac zBy zAd rfl) rfl)))) zAd rfl))))
theorem ok_p0  : FnOk P w K mg base CX0 1 (a 3) (d 3) ["one","other"] (spD K 2 zDi):=by
 refine zAt (g:=zFX) (G:=zDi) (N:=N_p0) (k:=0) rfl rfl rfl T.F_p0.F zBu fun cdv A outer s H E hr=>?_
 exact(zAl (zAu (i:=2) zBu.nd (zBd zFn rfl T.z_abs boot_abs (dac (zAj zCA (zAi ixd (zAa 1) zAe) (zAi ixd (zAa 0) zAe)) zAd rfl)))
  (zAl (zAu (i:=3) zBu.nd (zBd zFn rfl T.z_abs boot_abs (dac (zAj zCA (zAi ixd (zAa 1) zAe) (zAi ixd (zAa 0) zAe)) zAd rfl)))
  (zAl (zAu (i:=4) zBu.nd (zHM (zAC zEI (zAi ixd (zAa 1) zAe) (zAi ixd (zAa 0) zAe) (zAD _)) zAe (zCU zDb zAe)))
  (zAl (zAu (i:=5) zBu.nd (zHM (zAC zEI (zAi ixd (zAa 1) zAe) (zAi ixd (zAa 0) zAe) (zAD _)) zAe (zCU zDb zAe)))
  (zAl (zAu (i:=6) zBu.nd zAe)
  (zAl (zAu (i:=7) zBu.nd zAe)
  (zAl (zDC (i:=8) zBu.nd (dac (zAa 0) zAd rfl))
  (zAl (zEj 900 Q6 (dw_t (zCX (zAC (zCz (u64 hr)) (zAa 6) (zAa 2) (zAD _)) (zCY (zAC (zCz (u64 hr)) (zAa 7) (zAa 3) (zAD _))))) (zAl (zAu (i:=9) zBu.nd (zAj zAK (zAj zAE (zAj zAK zAe (zAa 6)) zAe) (zAa 3)))
  (zAl (zAu (i:=10) zBu.nd (zAj zAK (zAj zAE (zAj zAK zAe (zAa 7)) zAe) (zAa 2)))
  (zAl (zAW (zAC zDS (zAa 9) (zAa 10) (zAD _)) (zAk (zAu (i:=6) zBu.nd (zAj zAE (zAa 6) zAe))) zAX)
  (zAl (zAW (zAC zDS (zAa 10) (zAa 9) (zAD _)) (zAk (zAu (i:=7) zBu.nd (zAj zAE (zAa 7) zAe))) zAX)
  (zAk (zHV (i:=8) (dtp (dac (zAj zAE (zAi ixd (zAa 0) zAe) (zAj zAK (zAa 4) (zAa 6))) (dac (zAj zAE (zAi ixd (zAa 0) zAe) (zAj zAK (zAa 5) (zAa 7))) zAd rfl) rfl)))))))))
  (zAk (zAq (zAa 8)))))))))))
theorem ok_q7  : FnOk P w K mg base CX0 1 (a 4) (d 4) ["cells"] (spD K 1 zCL):=by
 refine zAt (g:=zFW) (G:=zCL) (N:=N_q7) (k:=0) rfl rfl rfl T.F_q7.F zEU fun cdv A outer s H E hr=>?_
 exact(zAl (zDC (i:=1) zEU.nd zAd)
  (zAl (zBq Q6 rfl (zMc rfl T.z_zip (dac (zAa 0) (dac (zDy (zAa 0) (zDB zAe) zDA) zAd rfl) rfl)) (zBG rfl (zAN (zAr (i:=2) zEU.nd) (zAN (zAr (i:=3) zEU.nd) zBH))) (zAk (zAW (dw_t (zHX (zAC (zBC (u64 hr)) (zAi ixd (zAa 2) zAe) (zAi ixd (zAa 3) zAe) (zAD _)) (zHY (zAC (zBC (u64 hr)) (zAi ixd (zAa 2) zAe) (zAi ixd (zAa 3) zAe) (zAD _))))) (zAk (zHV (i:=1) (zCs zEa rfl T.z_tuple boot_tuple (dac (zBd (zHA (u66 hr)) rfl T.z_sorted boot_sorted (dac (@zAV _ _ _ _ (dac (dtp (dac (zAi ixd (zAa 2) zAe) (dac (zAi ixd (zAa 3) zAe) zAd rfl) rfl)) (dac (dtp (dac (zAi ixd (zAa 3) zAe) (dac (zAi ixd (zAa 2) zAe) zAd rfl) rfl)) zAd rfl) rfl)) zAd rfl)) zAd rfl)))) zAX)))
  (zAk (zAq (zAa 1)))))
theorem ok_q9  : FnOk P w K mg base CX0 1 (a 5) (d 5) ["choices","cells"] (spD K 2 zB2):=by
 refine zAt (g:=zF8) (G:=zB2) (N:=N_q9) (k:=0) rfl rfl rfl T.F_q9.F zGM fun cdv A outer s H E hr=>?_
 exact(zAl (zDC (i:=2) zGM.nd zAd)
  (zAl (zBq Q6 rfl (zAJ (zAa 0)) (zAr (i:=3) zGM.nd) (zAk (zFx (i:=2) (zAS rfl (zAM (N':=zG8) (inner:=[none,some 3]) (zAg s_q9) N_q9 rfl rfl (by decide +kernel)) (zAI 0) (zAJ (zAa 1)) (fun _ _ _ _ _=>(zAr (i:=0) zNW)) (fun _ _ _ _ _=>(zBe (dw_t (zCX (zAC (zCb (u64 hr)) (zAa 1) (@zAV _ _ _ _ zAd) (zAD _)) (zCY (zAC (zCz (u64 hr)) (zAi ixd (zAa 1) (zCU zDb zAe)) (zAa 0) (zAD _))))))) (fun _ _ _ _ _=>(zAj zAE (zAa 1) (@zAV _ _ _ _ (dac (zAa 0) zAd rfl))))))))
  (zAk (zAq (zAa 2)))))
theorem ok_p2  : FnOk P w K mg base CX0 1 (a 6) (d 6) ["fields","posts"] (spD K 2 zCn):=by
 refine zAt (g:=zIJ) (G:=zCn) (N:=N_p2) (k:=0) rfl rfl rfl T.F_p2.F sc_p2 fun cdv A outer s H E hr=>?_
 exact(zAk (zAq (zBd (zLF rfl) rfl T.z_all SL.boot_all (dac (zL2 rfl (zLM (N':=zFg) (inner:=[none,some 1,some 0]) (x0:="cell") (zAg s_p2) N_p2 rfl rfl (by decide +kernel) (fun _ _=>rfl) (fun _=>rfl)) (zAI 0) (zMa (zAa 0)) (fun _ _ _ _ _=>(zAr (i:=0) zNN)) (fun _ _ _ _ _=>zBI) (fun _ _ _ _ _=>(zBd (zHy rfl) rfl T.z_any SL.boot_any (dac (zAS rfl (zLN (N2:=zG0) (inner2:=[none,some 0,some 2]) (zAg s_p2) zFg rfl rfl (by decide +kernel)) (zAI 0) (zAJ (zAa 1)) (fun _ _ _ _ _=>(zAr (i:=0) zNO)) (fun _ _ _ _ _=>zBI) (fun _ _ _ _ _=>(zCt (zDR (u65 hr)) (zAa 1) (zAi (ixd2 (u65 hr)) (zAa 2) (zAa 0)) (by with_unfolding_all rfl)))) zAd rfl)))) zAd rfl))))
theorem ok_q6  : FnOk P w K mg base CX0 1 (a 7) (d 7) ["fields","chosen"] (spD K 2 zCN):=by
 refine zAt (g:=zIA) (G:=zCN) (N:=N_q6) (k:=0) rfl rfl rfl T.F_q6.F sc_q6 fun cdv A outer s H E hr=>?_
 exact(zAk (zAq (zHN (zBd (zHy rfl) rfl T.z_any SL.boot_any (dac (zAS rfl (zAM (N':=zG6) (inner:=[none,some 0,some 1]) (zAg s_q6) N_q6 rfl rfl (by decide +kernel)) (zAI 0) (zAJ (zDy (zAa 1) zDA (zDB (zCU zDb zAe)))) (fun _ _ _ _ _=>(zAr (i:=0) zNU)) (fun _ _ _ _ _=>zBI) (fun _ _ _ _ _=>(zCt (zDR (u65 hr)) (zAa 0) (zAi (ixd2 (u65 hr)) (zAa 1) (zAi ixd (zAa 2) (zCU zDb zAe))) (by with_unfolding_all rfl)))) zAd rfl)))))
theorem ok_q5  : FnOk P w K mg base CX0 1 (a 8) (d 8) ["one","other"] (spD K 2 zDh):=by
 refine zAt (g:=zFV) (G:=zDh) (N:=N_q5) (k:=0) rfl rfl rfl T.F_q5.F zET fun cdv A outer s H E hr=>?_
 exact(zAl (zEj 900 Q6 (zAC (zBC (u64 hr)) (zAa 1) zAe (zAD _)) (zAl (zAu (i:=2) zET.nd (zAj zCc (zAa 0) (zAa 1)))
  (zAl (zAu (i:=0) zET.nd (zAa 1))
  (zAk (zAu (i:=1) zET.nd (zAa 2))))))
  (zAk (zAq (zAa 0))))
theorem ok_p4  : FnOk P w K mg base CX0 1 (a 9) (d 9) ["one","other"] (spD K 2 zDo):=by
 refine zAt (g:=zIw) (G:=zDo) (N:=N_p4) (k:=0) rfl rfl rfl T.F_p4.F sc_p4 fun cdv A outer s H E hr=>?_
 exact(zAk (zAq (zCt (zCz (u64 hr)) (zAj zAK (zAi ixd (zAa 0) zAe) (zAi ixd (zAa 1) zAe)) (zAj zAK (zAi ixd (zAa 1) zAe) (zAi ixd (zAa 0) zAe)) (zAD _))))
theorem ok_qc  : FnOk P w K mg base CX0 1 (a 10) (d 10) ["one","other"] (spD K 2 zCp):=by
 refine zAt (g:=zIL) (G:=zCp) (N:=N_qc) (k:=0) rfl rfl rfl T.F_qc.F sc_qc fun cdv A outer s H E hr=>?_
 exact(zAk (zAq (zAj zAE (zAj zJJ (zAj zCA (zAi ixd (zAa 0) zAe) (zAi ixd (zAa 1) zAe)) zAe) (zAj zJJ (zAj zCA (zAi ixd (zAa 0) zAe) (zAi ixd (zAa 1) zAe)) zAe))))
theorem ok_p5  : FnOk P w K mg base CX0 1 (a 11) (d 11) ["cell","word"] (spD K 2 zDg):=by
 refine zAt (g:=zIp) (G:=zDg) (N:=N_p5) (k:=0) rfl rfl rfl T.F_p5.F sc_p5 fun cdv A outer s H E hr=>?_
 exact(zAk (zAq (dtp (dac (zAj zAE (zAi ixd (zAa 0) zAe) (zAi ixd (zHO rfl T.tm_STEPS T.tt_STEPS (zAa 1)) zAe)) (dac (zAj zAE (zAi ixd (zAa 0) zAe) (zAi ixd (zHO rfl T.tm_STEPS T.tt_STEPS (zAa 1)) zAe)) zAd rfl) rfl))))
theorem ok_qr  : FnOk P w K mg base CX0 1 (a 12) (d 12) ["_law_script","_law_k"] (spD K 2 zDd):=by
 refine zAt (g:=zIj) (G:=zDd) (N:=N_qr) (k:=0) rfl rfl rfl T.F_qr.F sc_qr fun cdv A outer s H E hr=>?_
 exact(zAl (zAW (zAC (zCb (u64 hr)) (zAa 0) (@zAV _ _ _ _ zAd) (zAD _)) (zAk (zAq (zAj zAK zAe (zAa 1)))) zAX)
  (zAk (zAq (zAj zAE (zAi ixd (zAa 0) (zAj zCc (zAa 1) (zBd zD9 rfl T.z_len PySem.boot_len (dac (zAa 0) zAd rfl)))) (zAj zAK zAe (zAj zCy (zAa 1) (zBd zD9 rfl T.z_len PySem.boot_len (dac (zAa 0) zAd rfl))))))))
theorem ok_qj  : FnOk P w K mg base CX0 1 (a 13) (d 13) ["_law_floor_here"] (spD K 1 zDe):=by
 refine zAt (g:=zIk) (G:=zDe) (N:=N_qj) (k:=0) rfl rfl rfl T.F_qj.F sc_qj fun cdv A outer s H E hr=>?_
 exact(zAk (zAq (zAS rfl (zAM (N':=zHf) (inner:=[none,some 0]) (zAg s_qj) N_qj rfl rfl (by decide +kernel)) (zAI 0) (zDz rfl T.z_range (dac (zAj zAK (zAi ixd (zAa 0) zAe) (zAi ixd (zAa 0) zAe)) zAd rfl)) (fun _ _ _ _ _=>(zAr (i:=0) zN0)) (fun _ _ _ _ _=>zBI) (fun _ _ _ _ _=>(dtp (dac (zAj zCy (zAa 0) (zAi ixd (zAa 1) zAe)) (dac (zAj zCc (zAa 0) (zAi ixd (zAa 1) zAe)) zAd rfl) rfl))))))
theorem ok_q2(G_qt:FnOk P w K mg base CX0 1 (a 0) (d 0) ["thing"] (spD K 1 zCM)):FnOk P w K mg base CX0 2 (a 14) (d 14) ["thing"] (spD K 1 zDq):=by
 refine zAt (g:=zIz) (G:=zDq) (N:=N_q2) (k:=1) rfl rfl rfl T.F_q2.F sc_q2 fun cdv A outer s H E hr=>?_
 exact(zAl (zAW (dw_t (zCX (zDD (zBr (zFu (T:="tuple") (.inr (.inl rfl)) rfl T.z_isinstance rfl T.z_tuple boot_tuple (by decide) (zAa 0)))) (zCY (zAC (zBC (u64 hr)) (zBd zD9 rfl T.z_len PySem.boot_len (dac (zAa 0) zAd rfl)) zAe (zAD _))))) (zAk (zAq zBy)) zAX)
  (zAk (zAq (zEf (dcl T.F_qt G_qt hr rfl (dac (zAi ixd (zAa 0) zAe) zAd rfl) ln1) (zEh (dcl T.F_qt G_qt hr rfl (dac (zAi ixd (zAa 0) zAe) zAd rfl) ln1))))))
theorem ok_qk(G_qq:FnOk P w K mg base CX0 1 (a 1) (d 1) ["floor"] (spD K 1 zDf)):FnOk P w K mg base CX0 2 (a 15) (d 15) ["floor"] (spD K 1 zBE):=by
 refine zAt (g:=zIF) (G:=zBE) (N:=N_qk) (k:=1) rfl rfl rfl T.F_qk.F sc_qk fun cdv A outer s H E hr=>?_
 exact(zAk (zAq (zL5 rfl (u66 hr) rfl T.z_sorted boot_sorted (zMn rfl (u66 hr) (zHW rfl (u64 hr) rfl T.z_set boot_set (dac (dcl T.F_qq G_qq hr rfl (dac (zAa 0) zAd rfl) ln1) zAd rfl)) (zHW rfl (u64 hr) rfl T.z_set boot_set (dac (zAi ixd (zAa 0) zAe) zAd rfl))))))
theorem ok_qy(G_p0:FnOk P w K mg base CX0 1 (a 3) (d 3) ["one","other"] (spD K 2 zDi))(G_q7:FnOk P w K mg base CX0 1 (a 4) (d 4) ["cells"] (spD K 1 zCL)):FnOk P w K mg base CX0 2 (a 16) (d 16) ["solids","one","other"] (spD K 3 zCj):=by
 refine zAt (g:=zF0) (G:=zCj) (N:=N_qy) (k:=1) rfl rfl rfl T.F_qy.F zD0 fun cdv A outer s H E hr=>?_
 exact(zAl (zAu (i:=3) zD0.nd (dcl T.F_p0 G_p0 hr rfl (dac (zAa 1) (dac (zAa 2) zAd rfl) rfl) ln2))
  (zAl (zBq Q6 rfl (zAJ (zDy (zAa 3) zDA (zDB (zCU zDb zAe)))) (zAr (i:=4) zD0.nd) (zAk (zAW (zAC (zDR (u65 hr)) (zAa 4) (zAa 0) (by with_unfolding_all rfl)) (zAk (zAq zBy)) zAX)))
  (zAl (zBq Q6 rfl (zAJ (dcl T.F_q7 G_q7 hr rfl (dac (zAa 3) zAd rfl) ln1)) (zBG rfl (zAN (zAr (i:=5) zD0.nd) (zAN (zAr (i:=6) zD0.nd) zBH))) (zAk (zAW (dw_t (zHX (zAC (zDR (u65 hr)) (zAa 5) (zAa 0) (by with_unfolding_all rfl)) (zHY (zAC (zDR (u65 hr)) (zAa 6) (zAa 0) (by with_unfolding_all rfl))))) (zAk (zAq zBy)) zAX)))
  (zAk (zAq zBy)))))
theorem ok_qo(G_q5:FnOk P w K mg base CX0 1 (a 8) (d 8) ["one","other"] (spD K 2 zDh)):FnOk P w K mg base CX0 2 (a 17) (d 17) ["top","under"] (spD K 2 zCP):=by
 refine zAt (g:=zF7) (G:=zCP) (N:=N_qo) (k:=1) rfl rfl rfl T.F_qo.F zKm fun cdv A outer s H E hr=>?_
 exact(zAl (zAu (i:=2) zKm.nd (dcl T.F_q5 G_q5 hr rfl (dac (zAa 0) (dac (zAa 1) zAd rfl) rfl) ln2))
  (zAk (zAq (dtp (dac (zAj zCy (zAa 0) (zAa 2)) (dac (zAj zCy (zAa 1) (zAa 2)) zAd rfl) rfl)))))
theorem ok_qv(G_p5:FnOk P w K mg base CX0 1 (a 11) (d 11) ["cell","word"] (spD K 2 zDg)):FnOk P w K mg base CX0 2 (a 18) (d 18) ["eye","cell"] (spD K 2 zDm):=by
 refine zAt (g:=zIu) (G:=zDm) (N:=N_qv) (k:=1) rfl rfl rfl T.F_qv.F zEV fun cdv A outer s H E hr=>?_
 exact(zAl (zAu (i:=2) zEV.nd (dcl T.F_p5 G_p5 hr rfl (dac (dtp (dac zAe (dac zAe zAd rfl) rfl)) (dac (zAi ixd (zAa 0) zAe) zAd rfl) rfl) ln2))
  (zAl (zAu (i:=3) zEV.nd (zAj zCA (zAi ixd (zAa 1) zAe) (zAi ixd (zAi ixd (zAa 0) zAe) zAe)))
  (zAl (zAu (i:=4) zEV.nd (zAj zCA (zAi ixd (zAa 1) zAe) (zAi ixd (zAi ixd (zAa 0) zAe) zAe)))
  (zAk (zAq (zCt zDS (zBd zFn rfl T.z_abs boot_abs (dac (zAj zCA (zAj zAK (zAa 3) (zAi ixd (zAa 2) zAe)) (zAj zAK (zAa 4) (zAi ixd (zAa 2) zAe))) zAd rfl)) (zAj zAE (zAj zAK (zAa 3) (zAi ixd (zAa 2) zAe)) (zAj zAK (zAa 4) (zAi ixd (zAa 2) zAe))) (zAD _)))))))
theorem ok_qi(G_qr:FnOk P w K mg base CX0 1 (a 12) (d 12) ["_law_script","_law_k"] (spD K 2 zDd)):FnOk P w K mg base CX0 2 (a 19) (d 19) ["_law_script","_law_k","_law_many"] (spD K 3 zBb):=by
 refine zAt (g:=zIl) (G:=zBb) (N:=N_qi) (k:=1) rfl rfl rfl T.F_qi.F zGN fun cdv A outer s H E hr=>?_
 exact(zAl (zAu (i:=3) zGN.nd (zAj zCc (zAj zAE (zAj zAK (zAj zCc (dcl T.F_qr G_qr hr rfl (dac (zAa 0) (dac (zAa 1) zAd rfl) rfl) ln2) zAe) zAe) (zAj zAK zAe (zAj zAE (zAa 1) zAe))) zAe))
  (zAl (zAu (i:=3) zGN.nd (zAj zCc (zAj zAE (zAj zAK (zAa 3) (zAa 3)) (zAj zCy (zAa 3) zAe)) zAe))
  (zAk (zAq (zAj zCc (zAj zCy (zAj zCc (zAj zAE (zAj zAK (zAa 3) (zAa 3)) (zAj zCy (zAa 3) zAe)) zAe) zAe) (zAa 2))))))
theorem ok_qp(G_qj:FnOk P w K mg base CX0 1 (a 13) (d 13) ["_law_floor_here"] (spD K 1 zDe)):FnOk P w K mg base CX0 2 (a 20) (d 20) ["_law_floor_here"] (spD K 1 zCJ):=by
 refine zAt (g:=zIn) (G:=zCJ) (N:=N_qp) (k:=1) rfl rfl rfl T.F_qp.F sc_qp fun cdv A outer s H E hr=>?_
 exact(zAk (zAq (zAS rfl (zAM (N':=zHj) (inner:=[none,some 0]) (zAg s_qp) N_qp rfl rfl (by decide +kernel)) (zAI 0) (zAJ (dcl T.F_qj G_qj hr rfl (dac (zAa 0) zAd rfl) ln1)) (fun _ _ _ _ _=>(zAr (i:=0) zN3)) (fun _ _ _ _ _=>(zBe (zAC (zGu (u65 hr)) (zAa 0) (zAi ixd (zAa 1) zAe) (by with_unfolding_all rfl)))) (fun _ _ _ _ _=>(zAa 0)))))
theorem ok_p3(G_q2:FnOk P w K mg base CX0 2 (a 14) (d 14) ["thing"] (spD K 1 zDq)):FnOk P w K mg base CX0 3 (a 21) (d 21) ["floor","thing"] (spD K 2 zDn):=by
 refine zAt (g:=zIv) (G:=zDn) (N:=N_p3) (k:=2) rfl rfl rfl T.F_p3.F sc_p3 fun cdv A outer s H E hr=>?_
 exact(zAl (zAW (zDD (zBr (dcl T.F_q2 G_q2 hr rfl (dac (zAa 1) zAd rfl) ln1))) (zAk (zAq zBy)) zAX)
  (zAk (zAq (zEf (zHL zDS (zCz (u64 hr)) zAe (zAi ixd (zAa 1) zAe) (zAi ixd (zAa 0) zAe)) (zEh (zHL zDS (zCz (u64 hr)) zAe (zAi ixd (zAa 1) zAe) (zAi ixd (zAa 0) zAe)))))))
theorem ok_q4(G_qy:FnOk P w K mg base CX0 2 (a 16) (d 16) ["solids","one","other"] (spD K 3 zCj)):FnOk P w K mg base CX0 3 (a 22) (d 22) ["solids","one","other"] (spD K 3 zCo):=by
 refine zAt (g:=zIK) (G:=zCo) (N:=N_q4) (k:=2) rfl rfl rfl T.F_q4.F sc_q4 fun cdv A outer s H E hr=>?_
 exact(zAk (zAq (zEf (zCt (zOw (u65 hr)) (zAa 2) (zAa 0) (by with_unfolding_all rfl)) (zEh (dcl T.F_qy G_qy hr rfl (dac (zAa 0) (dac (zAa 1) (dac (zAa 2) zAd rfl) rfl) rfl) ln3)))))
theorem ok_q3(G_qk:FnOk P w K mg base CX0 2 (a 15) (d 15) ["floor"] (spD K 1 zBE)):FnOk P w K mg base CX0 3 (a 23) (d 23) ["floor"] (spD K 1 zCf):=by
 refine zAt (g:=zFU) (G:=zCf) (N:=N_q3) (k:=2) rfl rfl rfl T.F_q3.F zKi fun cdv A outer s H E hr=>?_
 exact(zAl (zAu (i:=1) zKi.nd (dcl T.F_qk G_qk hr rfl (dac (zAa 0) zAd rfl) ln1))
  (zAl (zAW (zAC zEI (zBd zD9 rfl T.z_len PySem.boot_len (dac (zAa 1) zAd rfl)) (zL4 rfl T.c_MOST_CELLS) (zAD _)) (zAk zFy) zAX)
  (zAk (zAq (zAa 1)))))
theorem ok_p7(G_qo:FnOk P w K mg base CX0 2 (a 17) (d 17) ["top","under"] (spD K 2 zCP)):FnOk P w K mg base CX0 3 (a 24) (d 24) ["one","other"] (spD K 2 zCK):=by
 refine zAt (g:=zIo) (G:=zCK) (N:=N_p7) (k:=2) rfl rfl rfl T.F_p7.F sc_p7 fun cdv A outer s H E hr=>?_
 exact(zAk (zAq (dcl T.F_qo G_qo hr rfl (dac (zAj zAE (zAj zAK (zAi ixd (zAa 0) zAe) (zAi ixd (zAa 1) zAe)) (zAj zAK (zAi ixd (zAa 1) zAe) (zAi ixd (zAa 0) zAe))) (dac (zAj zAK (zAi ixd (zAa 0) zAe) (zAi ixd (zAa 1) zAe)) zAd rfl) rfl) ln2)))
theorem ok_qe(G_qi:FnOk P w K mg base CX0 2 (a 19) (d 19) ["_law_script","_law_k","_law_many"] (spD K 3 zBb)):FnOk P w K mg base CX0 3 (a 25) (d 25) ["_law_script","_law_at","_law_most"] (spD K 3 zCH):=by
 refine zAt (g:=zFR) (G:=zCH) (N:=N_qe) (k:=2) rfl rfl rfl T.F_qe.F zC9 fun cdv A outer s H E hr=>?_
 exact(zAl (zAu (i:=3) zC9.nd (zAj zAE zAe (dcl T.F_qi G_qi hr rfl (dac (zAa 0) (dac (zAa 1) (dac (zAa 2) zAd rfl) rfl) rfl) ln3)))
  (zAl (zAu (i:=4) zC9.nd (zAj zAE zAe (dcl T.F_qi G_qi hr rfl (dac (zAa 0) (dac (zAj zAE (zAa 1) zAe) (dac (zAa 2) zAd rfl) rfl) rfl) ln3)))
  (zAl (zAu (i:=5) zC9.nd (zAi ixd (@zAV _ _ _ _ (dac zAe (dac zAe (dac zAe (dac zAe (dac zAe zAd rfl) rfl) rfl) rfl) rfl)) (dcl T.F_qi G_qi hr rfl (dac (zAa 0) (dac (zAj zAE (zAa 1) zAe) (dac zAe zAd rfl) rfl) rfl) ln3)))
  (zAl (zDC (i:=6) zC9.nd zAd)
  (zAl (zBq Q6 rfl (zDz rfl T.z_range (dac (zAa 3) zAd rfl)) (zAr (i:=7) zC9.nd) (zAk (zFx (i:=6) (zAS rfl (zAM (N':=zHb) (inner:=[none,some 7,some 0,some 5,some 1]) (zAg s_qe) N_qe rfl rfl (by decide +kernel)) (zAI 0) (zDz rfl T.z_range (dac (zAa 4) zAd rfl)) (fun _ _ _ _ _=>(zAr (i:=0) zNZ)) (fun _ _ _ _ _=>(zBe (zAC (zCb (u64 hr)) (dcl T.F_qi G_qi hr rfl (dac (zAa 2) (dac (zAj zAE (zAj zAE (zAj zAE (zAa 4) zAe) (zAj zAK zAe (zAa 1))) (zAa 0)) (dac (zAa 3) zAd rfl) rfl) rfl) ln3) zAe (zAD _)))) (fun _ _ _ _ _=>(dtp (dac (zAa 1) (dac (zAa 0) zAd rfl) rfl)))))))
  (zAk (zAq (dtp (dac (zAa 3) (dac (zAa 4) (dac (zCs zEa rfl T.z_tuple boot_tuple (dac (zAa 6) zAd rfl)) zAd rfl) rfl) rfl)))))))))
theorem ok_qg(G_qi:FnOk P w K mg base CX0 2 (a 19) (d 19) ["_law_script","_law_k","_law_many"] (spD K 3 zBb)):FnOk P w K mg base CX0 3 (a 26) (d 26) ["_law_script","_law_at","_law_some"] (spD K 3 zCI):=by
 refine zAt (g:=zIm) (G:=zCI) (N:=N_qg) (k:=2) rfl rfl rfl T.F_qg.F sc_qg fun cdv A outer s H E hr=>?_
 exact(zAk (zAq (zAS rfl (zAM (N':=zHd) (inner:=[none,none,some 0,some 1]) (zAg s_qg) N_qg rfl rfl (by decide +kernel)) (zEs (zB7 (zAI 0) (zB7 (zAI 1) zEr))) (zHP rfl T.z_enumerate (dac (zAa 2) zAd rfl)) (fun _ _ _ _ _=>(zBG rfl (zAN (zAr (i:=0) zJu) (zAN (zAr (i:=1) zJu) zBH)))) (fun _ _ _ _ _=>zBI) (fun _ _ _ _ _=>(dtp (dac (zAa 1) (dac (zAj zAE zAe (dcl T.F_qi G_qi hr rfl (dac (zAa 2) (dac (zAj zAE (zAa 3) (zAa 0)) (dac zAe zAd rfl) rfl) rfl) ln3)) zAd rfl) rfl))))))
theorem ok_q0(G_p3:FnOk P w K mg base CX0 3 (a 21) (d 21) ["floor","thing"] (spD K 2 zDn)):FnOk P w K mg base CX0 4 (a 27) (d 27) ["floor","cell"] (spD K 2 zBO):=by
 refine zAt (g:=zII) (G:=zBO) (N:=N_q0) (k:=3) rfl rfl rfl T.F_q0.F sc_q0 fun cdv A outer s H E hr=>?_
 exact(zAk (zAW (zDD (zBr (dcl T.F_p3 G_p3 hr rfl (dac (zAa 0) (dac (zAa 1) zAd rfl) rfl) ln2))) (zAk zFy) zAX))
theorem ok_qu(G_q4:FnOk P w K mg base CX0 3 (a 22) (d 22) ["solids","one","other"] (spD K 3 zCo))(G_p7:FnOk P w K mg base CX0 3 (a 24) (d 24) ["one","other"] (spD K 2 zCK))(G_qc:FnOk P w K mg base CX0 1 (a 10) (d 10) ["one","other"] (spD K 2 zCp)):FnOk P w K mg base CX0 4 (a 28) (d 28) ["solids","lamps","cell"] (spD K 3 zCk):=by
 refine zAt (g:=zF2) (G:=zCk) (N:=N_qu) (k:=3) rfl rfl rfl T.F_qu.F zDZ fun cdv A outer s H E hr=>?_
 exact(zAl (zAu (i:=3) zDZ.nd (dtp (dac zAe (dac zAe zAd rfl) rfl)))
  (zAl (zBq Q6 rfl (zAJ (zAa 1)) (zBG rfl (zAN (zAr (i:=4) zDZ.nd) (zAN (zAr (i:=5) zDZ.nd) zBH))) (zAk (zAW (zBr (dcl T.F_q4 G_q4 hr rfl (dac (zAa 0) (dac (zAa 4) (dac (zAa 2) zAd rfl) rfl) rfl) ln3)) (zAk (zAu (i:=3) zDZ.nd (dcl T.F_p7 G_p7 hr rfl (dac (zAa 3) (dac (dtp (dac (zAa 5) (dac (zAj zAE zAe (dcl T.F_qc G_qc hr rfl (dac (zAa 4) (dac (zAa 2) zAd rfl) rfl) ln2)) zAd rfl) rfl)) zAd rfl) rfl) ln2))) zAX)))
  (zAk (zAq (zAa 3)))))
theorem ok_qs(G_q4:FnOk P w K mg base CX0 3 (a 22) (d 22) ["solids","one","other"] (spD K 3 zCo))(G_qv:FnOk P w K mg base CX0 2 (a 18) (d 18) ["eye","cell"] (spD K 2 zDm))(G_qc:FnOk P w K mg base CX0 1 (a 10) (d 10) ["one","other"] (spD K 2 zCp)):FnOk P w K mg base CX0 4 (a 29) (d 29) ["solids","eye","cell"] (spD K 3 zDj):=by
 refine zAt (g:=zIr) (G:=zDj) (N:=N_qs) (k:=3) rfl rfl rfl T.F_qs.F sc_qs fun cdv A outer s H E hr=>?_
 exact(zAl (zAW (dw_t (zCX (zDD (zBr (dcl T.F_qv G_qv hr rfl (dac (zAa 1) (dac (zAa 2) zAd rfl) rfl) ln2))) (zCY (zAC zEI (dcl T.F_qc G_qc hr rfl (dac (zAi ixd (zAa 1) zAe) (dac (zAa 2) zAd rfl) rfl) ln2) (zAj zAK (zAi ixd (zAa 1) zAe) (zAi ixd (zAa 1) zAe)) (zAD _))))) (zAk (zAq zBy)) zAX)
  (zAk (zAq (dcl T.F_q4 G_q4 hr rfl (dac (zAa 0) (dac (zAi ixd (zAa 1) zAe) (dac (zAa 2) zAd rfl) rfl) rfl) ln3))))
theorem ok_qx(G_q0:FnOk P w K mg base CX0 4 (a 27) (d 27) ["floor","cell"] (spD K 2 zBO)):FnOk P w K mg base CX0 5 (a 30) (d 30) ["floor","cell"] (spD K 2 zDp):=by
 refine zAt (g:=zIx) (G:=zDp) (N:=N_qx) (k:=4) rfl rfl rfl T.F_qx.F sc_qx fun cdv A outer s H E hr=>?_
 exact(zAl (zBR (dcl T.F_q0 G_q0 hr rfl (dac (zAa 0) (dac (zAa 1) zAd rfl) rfl) ln2))
  (zAk (zAq (zCt (zGt (u65 hr)) (zAa 1) (zAi ixd (zAa 0) zAe) (by with_unfolding_all rfl)))))
theorem ok_qf(G_qs:FnOk P w K mg base CX0 4 (a 29) (d 29) ["solids","eye","cell"] (spD K 3 zDj)):FnOk P w K mg base CX0 5 (a 31) (d 31) ["solids","eyes","cell"] (spD K 3 zDt):=by
 refine zAt (g:=zID) (G:=zDt) (N:=N_qf) (k:=4) rfl rfl rfl T.F_qf.F sc_qf fun cdv A outer s H E hr=>?_
 exact(zAk (zAq (zAS rfl (zAM (N':=zHc) (inner:=[none,none,some 0,some 2]) (zAg s_qf) N_qf rfl rfl (by decide +kernel)) (zEs (zB7 (zAI 0) (zB7 (zAI 1) zEr))) (zHP rfl T.z_enumerate (dac (zAa 1) zAd rfl)) (fun _ _ _ _ _=>(zBG rfl (zAN (zAr (i:=0) zJt) (zAN (zAr (i:=1) zJt) zBH)))) (fun _ _ _ _ _=>(zBe (zBr (dcl T.F_qs G_qs hr rfl (dac (zAa 2) (dac (zAa 1) (dac (zAa 3) zAd rfl) rfl) rfl) ln3)))) (fun _ _ _ _ _=>(zAa 0)))))
theorem ok_q1(G_qx:FnOk P w K mg base CX0 5 (a 30) (d 30) ["floor","cell"] (spD K 2 zDp)):FnOk P w K mg base CX0 6 (a 32) (d 32) ["floor","cell"] (spD K 2 zBx):=by
 refine zAt (g:=zIH) (G:=zBx) (N:=N_q1) (k:=5) rfl rfl rfl T.F_q1.F sc_q1 fun cdv A outer s H E hr=>?_
 exact(zAk (zAW (zBr (dcl T.F_qx G_qx hr rfl (dac (zAa 0) (dac (zAa 1) zAd rfl) rfl) ln2)) (zAk zFy) zAX))
theorem ok_qz(G_q1:FnOk P w K mg base CX0 6 (a 32) (d 32) ["floor","cell"] (spD K 2 zBx))(G_p6:FnOk P w K mg base CX0 1 (a 2) (d 2) ["things"] (spD K 1 zAR))(G_qk:FnOk P w K mg base CX0 2 (a 15) (d 15) ["floor"] (spD K 1 zBE))(G_qy:FnOk P w K mg base CX0 2 (a 16) (d 16) ["solids","one","other"] (spD K 3 zCj)):FnOk P w K mg base CX0 7 (a 33) (d 33) ["floor","cell"] (spD K 2 zCh):=by
 refine zAt (g:=zFZ) (G:=zCh) (N:=N_qz) (k:=6) rfl rfl rfl T.F_qz.F zKn fun cdv A outer s H E hr=>?_
 exact(zAl (zBR (dcl T.F_q1 G_q1 hr rfl (dac (zAa 0) (dac (zAa 1) zAd rfl) rfl) ln2))
  (zAl (zAu (i:=2) zKn.nd (dcl T.F_p6 G_p6 hr rfl (dac (zAi ixd (zAa 0) zAe) zAd rfl) ln1))
  (zAk (zAq (zAS rfl (zAM (N':=zHl) (inner:=[none,some 2,some 1]) (zAg s_qz) N_qz rfl rfl (by decide +kernel)) (zAI 0) (zAJ (dcl T.F_qk G_qk hr rfl (dac (zAa 0) zAd rfl) ln1)) (fun _ _ _ _ _=>(zAr (i:=0) zN5)) (fun _ _ _ _ _=>(zBe (zBr (dcl T.F_qy G_qy hr rfl (dac (zAa 1) (dac (zAa 2) (dac (zAa 0) zAd rfl) rfl) rfl) ln3)))) (fun _ _ _ _ _=>(zAa 0)))))))
theorem ok_qb(G_q1:FnOk P w K mg base CX0 6 (a 32) (d 32) ["floor","cell"] (spD K 2 zBx)):FnOk P w K mg base CX0 7 (a 34) (d 34) ["floor","lamps"] (spD K 2 zCm):=by
 refine zAt (g:=zDI) (G:=zCm) (N:=N_qb) (k:=6) rfl rfl rfl T.F_qb.F zKj fun cdv A outer s H E hr=>?_
 exact(zAk (zBq Q6 rfl (zAJ (zAa 1)) (zAr (i:=2) zKj.nd) (zAk (zBR (dcl T.F_q1 G_q1 hr rfl (dac (zAa 0) (dac (zAi ixd (zAa 2) zAe) zAd rfl) rfl) ln2)))))
theorem ok_qd(G_q1:FnOk P w K mg base CX0 6 (a 32) (d 32) ["floor","cell"] (spD K 2 zBx)):FnOk P w K mg base CX0 7 (a 35) (d 35) ["floor","eyes"] (spD K 2 zDu):=by
 refine zAt (g:=zIG) (G:=zDu) (N:=N_qd) (k:=6) rfl rfl rfl T.F_qd.F zKk fun cdv A outer s H E hr=>?_
 exact(zAk (zBq Q6 rfl (zAJ (zAa 1)) (zAr (i:=2) zKk.nd) (zAk (zBR (dcl T.F_q1 G_q1 hr rfl (dac (zAa 0) (dac (zAi ixd (zAa 2) zAe) zAd rfl) rfl) ln2)))))
theorem ok_q8(G_p6:FnOk P w K mg base CX0 1 (a 2) (d 2) ["things"] (spD K 1 zAR))(G_qz:FnOk P w K mg base CX0 7 (a 33) (d 33) ["floor","cell"] (spD K 2 zCh)):FnOk P w K mg base CX0 8 (a 36) (d 36) ["floor","cells"] (spD K 2 zCi):=by
 refine zAt (g:=zIt) (G:=zCi) (N:=N_q8) (k:=7) rfl rfl rfl T.F_q8.F sc_q8 fun cdv A outer s H E hr=>?_
 exact(zAk (zAq (zCs (zHz rfl (u66 hr)) rfl T.z_dict DC.boot_dict (dac (zAS rfl (zAM (N':=zG7) (inner:=[none,some 0]) (zAg s_q8) N_q8 rfl rfl (by decide +kernel)) (zAI 0) (zAJ (zAa 1)) (fun _ _ _ _ _=>(zAr (i:=0) zNV)) (fun _ _ _ _ _=>zBI) (fun _ _ _ _ _=>(dtp (dac (zAa 0) (dac (dcl T.F_p6 G_p6 hr rfl (dac (dcl T.F_qz G_qz hr rfl (dac (zAa 1) (dac (zAa 0) zAd rfl) rfl) ln2) zAd rfl) ln1) zAd rfl) rfl)))) zAd rfl))))
theorem ok_qw(G_qb:FnOk P w K mg base CX0 7 (a 34) (d 34) ["floor","lamps"] (spD K 2 zCm))(G_q0:FnOk P w K mg base CX0 4 (a 27) (d 27) ["floor","cell"] (spD K 2 zBO))(G_qu:FnOk P w K mg base CX0 4 (a 28) (d 28) ["solids","lamps","cell"] (spD K 3 zCk))(G_p6:FnOk P w K mg base CX0 1 (a 2) (d 2) ["things"] (spD K 1 zAR)):FnOk P w K mg base CX0 8 (a 37) (d 37) ["floor","lamps","cell"] (spD K 3 zDr):=by
 refine zAt (g:=zF1) (G:=zDr) (N:=N_qw) (k:=7) rfl rfl rfl T.F_qw.F sc_qw fun cdv A outer s H E hr=>?_
 exact(zAl (zBR (dcl T.F_qb G_qb hr rfl (dac (zAa 0) (dac (zAa 1) zAd rfl) rfl) ln2))
  (zAl (zBR (dcl T.F_q0 G_q0 hr rfl (dac (zAa 0) (dac (zAa 2) zAd rfl) rfl) ln2))
  (zAk (zAq (dcl T.F_qu G_qu hr rfl (dac (dcl T.F_p6 G_p6 hr rfl (dac (zAi ixd (zAa 0) zAe) zAd rfl) ln1) (dac (zAa 1) (dac (zAa 2) zAd rfl) rfl) rfl) ln3)))))
theorem ok_qm(G_qb:FnOk P w K mg base CX0 7 (a 34) (d 34) ["floor","lamps"] (spD K 2 zCm))(G_p6:FnOk P w K mg base CX0 1 (a 2) (d 2) ["things"] (spD K 1 zAR))(G_qu:FnOk P w K mg base CX0 4 (a 28) (d 28) ["solids","lamps","cell"] (spD K 3 zCk))(G_qk:FnOk P w K mg base CX0 2 (a 15) (d 15) ["floor"] (spD K 1 zBE)):FnOk P w K mg base CX0 8 (a 38) (d 38) ["floor","lamps"] (spD K 2 zCl):=by
 refine zAt (g:=zF3) (G:=zCl) (N:=N_qm) (k:=7) rfl rfl rfl T.F_qm.F zKl fun cdv A outer s H E hr=>?_
 exact(zAl (zBR (dcl T.F_qb G_qb hr rfl (dac (zAa 0) (dac (zAa 1) zAd rfl) rfl) ln2))
  (zAl (zAu (i:=2) zKl.nd (dcl T.F_p6 G_p6 hr rfl (dac (zAi ixd (zAa 0) zAe) zAd rfl) ln1))
  (zAk (zAq (zAS rfl (zAM (N':=zHh) (inner:=[none,some 2,some 1]) (zAg s_qm) N_qm rfl rfl (by decide +kernel)) (zAI 0) (zAJ (dcl T.F_qk G_qk hr rfl (dac (zAa 0) zAd rfl) ln1)) (fun _ _ _ _ _=>(zAr (i:=0) zN2)) (fun _ _ _ _ _=>zBI) (fun _ _ _ _ _=>(dtp (dac (zAa 0) (dac (dcl T.F_qu G_qu hr rfl (dac (zAa 1) (dac (zAa 2) (dac (zAa 0) zAd rfl) rfl) rfl) ln3) zAd rfl) rfl))))))))
theorem ok_p1(G_qd:FnOk P w K mg base CX0 7 (a 35) (d 35) ["floor","eyes"] (spD K 2 zDu))(G_q0:FnOk P w K mg base CX0 4 (a 27) (d 27) ["floor","cell"] (spD K 2 zBO))(G_qf:FnOk P w K mg base CX0 5 (a 31) (d 31) ["solids","eyes","cell"] (spD K 3 zDt))(G_p6:FnOk P w K mg base CX0 1 (a 2) (d 2) ["things"] (spD K 1 zAR)):FnOk P w K mg base CX0 8 (a 39) (d 39) ["floor","eyes","cell"] (spD K 3 zDk):=by
 refine zAt (g:=zIs) (G:=zDk) (N:=N_p1) (k:=7) rfl rfl rfl T.F_p1.F sc_p1 fun cdv A outer s H E hr=>?_
 exact(zAl (zBR (dcl T.F_qd G_qd hr rfl (dac (zAa 0) (dac (zAa 1) zAd rfl) rfl) ln2))
  (zAl (zBR (dcl T.F_q0 G_q0 hr rfl (dac (zAa 0) (dac (zAa 2) zAd rfl) rfl) ln2))
  (zAk (zAq (dcl T.F_qf G_qf hr rfl (dac (dcl T.F_p6 G_p6 hr rfl (dac (zAi ixd (zAa 0) zAe) zAd rfl) ln1) (dac (zAa 1) (dac (zAa 2) zAd rfl) rfl) rfl) ln3)))))
theorem ok_qa(G_q3:FnOk P w K mg base CX0 3 (a 23) (d 23) ["floor"] (spD K 1 zCf))(G_q8:FnOk P w K mg base CX0 8 (a 36) (d 36) ["floor","cells"] (spD K 2 zCi))(G_q9:FnOk P w K mg base CX0 1 (a 5) (d 5) ["choices","cells"] (spD K 2 zB2))(G_p2:FnOk P w K mg base CX0 1 (a 6) (d 6) ["fields","posts"] (spD K 2 zCn)):FnOk P w K mg base CX0 9 (a 40) (d 40) ["floor"] (spD K 1 zDl):=by
 refine zAt (g:=zFY) (G:=zDl) (N:=N_qa) (k:=8) rfl rfl rfl T.F_qa.F zCE fun cdv A outer s H E hr=>?_
 exact(zAl (zAu (i:=1) zCE.nd (dcl T.F_q3 G_q3 hr rfl (dac (zAa 0) zAd rfl) ln1))
  (zAl (zAu (i:=2) zCE.nd (dcl T.F_q8 G_q8 hr rfl (dac (zAa 0) (dac (zAa 1) zAd rfl) rfl) ln2))
  (zAl (zAu (i:=3) zCE.nd (@zAV _ _ _ _ (dac (@zAV _ _ _ _ zAd) zAd rfl)))
  (zAl (zFw (i:=4) zCE.nd rfl (zAM (N':=zG9) (inner:=[none,some 2]) (zAg s_qa) N_qa rfl rfl (by decide +kernel)) (zAI 0) (zAJ (zAa 3)) (fun _ _ _ _ _=>(zAr (i:=0) zNX)) (fun _ _ _ _ _=>(zBe (zBr (dcl T.F_p2 G_p2 hr rfl (dac (zAa 1) (dac (zAa 0) zAd rfl) rfl) ln2)))) (fun _ _ _ _ _=>(zAa 0)))
  (zAl (zEj 900 Q6 (zAC (zCb (u64 hr)) (zAa 4) (@zAV _ _ _ _ zAd) (zAD _)) (zAl (zAu (i:=3) zCE.nd (dcl T.F_q9 G_q9 hr rfl (dac (zAa 3) (dac (zAa 1) zAd rfl) rfl) ln2))
  (zAk (zFw (i:=4) zCE.nd rfl (zAM (N':=zHa) (inner:=[none,some 2]) (zAg s_qa) N_qa rfl rfl (by decide +kernel)) (zAI 0) (zAJ (zAa 3)) (fun _ _ _ _ _=>(zAr (i:=0) zNY)) (fun _ _ _ _ _=>(zBe (zBr (dcl T.F_p2 G_p2 hr rfl (dac (zAa 1) (dac (zAa 0) zAd rfl) rfl) ln2)))) (fun _ _ _ _ _=>(zAa 0))))))
  (zAk (zAq (zAi ixd (zAa 4) zAe))))))))
theorem ok_ql(G_q3:FnOk P w K mg base CX0 3 (a 23) (d 23) ["floor"] (spD K 1 zCf))(G_q8:FnOk P w K mg base CX0 8 (a 36) (d 36) ["floor","cells"] (spD K 2 zCi))(G_q9:FnOk P w K mg base CX0 1 (a 5) (d 5) ["choices","cells"] (spD K 2 zB2))(G_q6:FnOk P w K mg base CX0 1 (a 7) (d 7) ["fields","chosen"] (spD K 2 zCN)):FnOk P w K mg base CX0 9 (a 41) (d 41) ["floor"] (spD K 1 zDs):=by
 refine zAt (g:=zF4) (G:=zDs) (N:=N_ql) (k:=8) rfl rfl rfl T.F_ql.F zCF fun cdv A outer s H E hr=>?_
 exact(zAl (zAu (i:=1) zCF.nd (dcl T.F_q3 G_q3 hr rfl (dac (zAa 0) zAd rfl) ln1))
  (zAl (zAu (i:=2) zCF.nd (dcl T.F_q8 G_q8 hr rfl (dac (zAa 0) (dac (zAa 1) zAd rfl) rfl) ln2))
  (zAl (zAu (i:=3) zCF.nd (@zAV _ _ _ _ (dac (@zAV _ _ _ _ zAd) zAd rfl)))
  (zAl (zAu (i:=4) zCF.nd (zAa 3))
  (zAl (zEj 900 Q6 (zAC (zBC (u64 hr)) (zAa 4) (@zAV _ _ _ _ zAd) (zAD _)) (zAl (zAu (i:=3) zCF.nd (zAa 4))
  (zAk (zFw (i:=4) zCF.nd rfl (zAM (N':=zHg) (inner:=[none,some 2]) (zAg s_ql) N_ql rfl rfl (by decide +kernel)) (zAI 0) (zAJ (dcl T.F_q9 G_q9 hr rfl (dac (zAa 3) (dac (zAa 1) zAd rfl) rfl) ln2)) (fun _ _ _ _ _=>(zAr (i:=0) zN1)) (fun _ _ _ _ _=>(zBe (zBr (dcl T.F_q6 G_q6 hr rfl (dac (zAa 1) (dac (zAa 0) zAd rfl) rfl) ln2)))) (fun _ _ _ _ _=>(zAa 0))))))
  (zAk (zAq (zAi ixd (zAa 3) zAe))))))))
theorem ok_qn(G_qm:FnOk P w K mg base CX0 8 (a 38) (d 38) ["floor","lamps"] (spD K 2 zCl))(G_p4:FnOk P w K mg base CX0 1 (a 9) (d 9) ["one","other"] (spD K 2 zDo)):FnOk P w K mg base CX0 9 (a 42) (d 42) ["floor","lamps","least"] (spD K 3 zCO):=by
 refine zAt (g:=zIB) (G:=zCO) (N:=N_qn) (k:=8) rfl rfl rfl T.F_qn.F sc_qn fun cdv A outer s H E hr=>?_
 exact(zAk (zAq (zAS rfl (zAM (N':=zHi) (inner:=[none,none,some 2]) (zAg s_qn) N_qn rfl rfl (by decide +kernel)) (zEs (zB7 (zAI 0) (zB7 (zAI 1) zEr))) (zAJ (dcl T.F_qm G_qm hr rfl (dac (zAa 0) (dac (zAa 1) zAd rfl) rfl) ln2)) (fun _ _ _ _ _=>(zBG rfl (zAN (zAr (i:=0) zJw) (zAN (zAr (i:=1) zJw) zBH)))) (fun _ _ _ _ _=>(zBe (zDD (zBr (dcl T.F_p4 G_p4 hr rfl (dac (zAa 1) (dac (zAa 2) zAd rfl) rfl) ln2))))) (fun _ _ _ _ _=>(zAa 0)))))
theorem ok_qh(G_qm:FnOk P w K mg base CX0 8 (a 38) (d 38) ["floor","lamps"] (spD K 2 zCl)):FnOk P w K mg base CX0 9 (a 43) (d 43) ["floor","lamps"] (spD K 2 zCg):=by
 refine zAt (g:=zIq) (G:=zCg) (N:=N_qh) (k:=8) rfl rfl rfl T.F_qh.F sc_qh fun cdv A outer s H E hr=>?_
 exact(zAk (zAq (zAS rfl (zAM (N':=zHe) (inner:=[none,none]) (zAg s_qh) N_qh rfl rfl (by decide +kernel)) (zEs (zB7 (zAI 0) (zB7 (zAI 1) zEr))) (zAJ (dcl T.F_qm G_qm hr rfl (dac (zAa 0) (dac (zAa 1) zAd rfl) rfl) ln2)) (fun _ _ _ _ _=>(zBG rfl (zAN (zAr (i:=0) zJv) (zAN (zAr (i:=1) zJv) zBH)))) (fun _ _ _ _ _=>(zBe (zAC (zCb (u64 hr)) (zAa 1) (dtp (dac zAe (dac zAe zAd rfl) rfl)) (zAD _)))) (fun _ _ _ _ _=>(zAa 0)))))
theorem ok_p8(G_qe:FnOk P w K mg base CX0 3 (a 25) (d 25) ["_law_script","_law_at","_law_most"] (spD K 3 zCH))(G_qp:FnOk P w K mg base CX0 2 (a 20) (d 20) ["_law_floor_here"] (spD K 1 zCJ))(G_qg:FnOk P w K mg base CX0 3 (a 26) (d 26) ["_law_script","_law_at","_law_some"] (spD K 3 zCI))(G_qa:FnOk P w K mg base CX0 9 (a 40) (d 40) ["floor"] (spD K 1 zDl))(G_ql:FnOk P w K mg base CX0 9 (a 41) (d 41) ["floor"] (spD K 1 zDs))(G_qh:FnOk P w K mg base CX0 9 (a 43) (d 43) ["floor","lamps"] (spD K 2 zCg))(G_qn:FnOk P w K mg base CX0 9 (a 42) (d 42) ["floor","lamps","least"] (spD K 3 zCO))(G_qw:FnOk P w K mg base CX0 8 (a 37) (d 37) ["floor","lamps","cell"] (spD K 3 zDr))(G_p1:FnOk P w K mg base CX0 8 (a 39) (d 39) ["floor","eyes","cell"] (spD K 3 zDk)):FnOk P w K mg base CX0 10 (a 44) (d 44) ["_law_script"] (spD K 1 Glaw):=by
 refine zAt (g:=glaw) (G:=Glaw) (N:=N_p8) (k:=9) rfl rfl rfl T.F_p8.F zA2 fun cdv A outer s H E hr=>?_
 exact(zAl (zMm (dcl T.F_qe G_qe hr rfl (dac (zAa 0) (dac zAe (dac zAe zAd rfl) rfl) rfl) ln3) (zBG rfl (zAN (zAr (i:=1) zA2.nd) (zAN (zAr (i:=2) zA2.nd) (zAN (zAr (i:=3) zA2.nd) zBH)))))
  (zAl (zAu (i:=4) zA2.nd (dtp (dac (zAa 1) (dac (zBd (zLH rfl) rfl T.z_min boot_min (dac zAe (dac (zAa 2) zAd rfl) rfl)) (dac (zCs zEa rfl T.z_tuple boot_tuple (dac (zAS rfl (zAM (N':=zG2) (inner:=[none]) (zAg s_p8) N_p8 rfl rfl (by decide +kernel)) (zAI 0) (zAJ (zAa 3)) (fun _ _ _ _ _=>(zAr (i:=0) zNQ)) (fun _ _ _ _ _=>(zBe (zAC (zCz (u64 hr)) (zAi ixd (zAa 0) zAe) zAe (zAD _)))) (fun _ _ _ _ _=>(zAa 0))) zAd rfl)) zAd rfl) rfl) rfl)))
  (zAl (zAu (i:=4) zA2.nd (zAj zAE (zDy (zAa 4) zDA (zDB zAe)) (dtp (dac (zCs zEa rfl T.z_tuple boot_tuple (dac (zBd (zHA (u66 hr)) rfl T.z_sorted boot_sorted (dac (zAj zAE (zCs zLG rfl T.z_list boot_list (dac (zAi ixd (zAa 4) zAe) zAd rfl)) (zDy (dcl T.F_qp G_qp hr rfl (dac (zAa 4) zAd rfl) ln1) (zDB zAe) zDA)) zAd rfl)) zAd rfl)) zAd rfl))))
  (zAl (zAu (i:=5) zA2.nd (dcl T.F_qp G_qp hr rfl (dac (zAa 4) zAd rfl) ln1))
  (zAl (zAu (i:=6) zA2.nd (dcl T.F_qg G_qg hr rfl (dac (zAa 0) (dac zAe (dac (dcl T.F_qa G_qa hr rfl (dac (zAa 4) zAd rfl) ln1) zAd rfl) rfl) rfl) ln3))
  (zAl (zAu (i:=7) zA2.nd (dcl T.F_qg G_qg hr rfl (dac (zAa 0) (dac zAe (dac (dcl T.F_ql G_ql hr rfl (dac (zAa 4) zAd rfl) ln1) zAd rfl) rfl) rfl) ln3))
  (zAl (zAW (dw_t (zCX (zAC (zBC (u64 hr)) (dcl T.F_qh G_qh hr rfl (dac (zAa 4) (dac (zAa 6) zAd rfl) rfl) ln2) (@zAV _ _ _ _ zAd) (zAD _)) (zCY (zAC (zBC (u64 hr)) (dcl T.F_qh G_qh hr rfl (dac (zAa 4) (dac (zAa 7) zAd rfl) rfl) ln2) (@zAV _ _ _ _ zAd) (zAD _))))) (zAk (zAq zBy)) zAX)
  (zAl (zAW (dw_t (zCX (zAC (zBC (u64 hr)) (dcl T.F_qn G_qn hr rfl (dac (zAa 4) (dac (zAa 6) (dac (dtp (dac zAe (dac zAe zAd rfl) rfl)) zAd rfl) rfl) rfl) ln3) (zAa 5) (zAD _)) (zCY (zAC (zBC (u64 hr)) (dcl T.F_qn G_qn hr rfl (dac (zAa 4) (dac (zAa 7) (dac (dtp (dac zAe (dac zAe zAd rfl) rfl)) zAd rfl) rfl) rfl) ln3) (zAa 5) (zAD _))))) (zAk (zAq zBy)) zAX)
  (zAl (zBq Q6 rfl (zAJ (zAa 6)) (zAr (i:=8) zA2.nd) (zAk (zAW (zAC (zCb (u64 hr)) (dcl T.F_qh G_qh hr rfl (dac (zAa 4) (dac (zAS rfl (zAM (N':=zG3) (inner:=[none,some 8]) (zAg s_p8) N_p8 rfl rfl (by decide +kernel)) (zAI 0) (zAJ (zAa 6)) (fun _ _ _ _ _=>(zAr (i:=0) zNR)) (fun _ _ _ _ _=>(zBe (zAC (zBC (u64 hr)) (zAi ixd (zAa 0) zAe) (zAi ixd (zAa 1) zAe) (zAD _)))) (fun _ _ _ _ _=>(zAa 0))) zAd rfl) rfl) ln2) (@zAV _ _ _ _ zAd) (zAD _)) (zAk (zAq zBy)) zAX)))
  (zAl (zBq Q6 rfl (zAJ (zAa 7)) (zBG rfl (zAN (zAr (i:=9) zA2.nd) (zAN (zAr (i:=10) zA2.nd) zBH))) (zAk (zAW (zAC (zBC (u64 hr)) (dcl T.F_qw G_qw hr rfl (dac (zAa 4) (dac (zAa 7) (dac (zAa 9) zAd rfl) rfl) rfl) ln3) (dtp (dac (zAa 10) (dac zAe zAd rfl) rfl)) (zAD _)) (zAk (zAq zBy)) zAX)))
  (zAl (zAu (i:=11) zA2.nd (@zAV _ _ _ _ zAd))
  (zAl (zBq Q6 rfl (zAJ (zAa 6)) (zBG rfl (zAN (zAr (i:=9) zA2.nd) (zAN (zAr (i:=10) zA2.nd) zBH))) (zAk (zAu (i:=11) zA2.nd (zAj zAE (zAa 11) (zAS rfl (zAM (N':=zG4) (inner:=[none,some 9]) (zAg s_p8) N_p8 rfl rfl (by decide +kernel)) (zAI 0) (zMb zL6) (fun _ _ _ _ _=>(zAr (i:=0) zNS)) (fun _ _ _ _ _=>zBI) (fun _ _ _ _ _=>(dtp (dac (zAa 1) (dac (zAa 0) (dac zAe zAd rfl) rfl) rfl))))))))
  (zAk (zAq (zCt (zCb (u64 hr)) (zAS rfl (zAM (N':=zG5) (inner:=[none,some 4,some 11]) (zAg s_p8) N_p8 rfl rfl (by decide +kernel)) (zAI 0) (zAJ (zAa 5)) (fun _ _ _ _ _=>(zAr (i:=0) zNT)) (fun _ _ _ _ _=>(zBe (zAC (zCb (u64 hr)) (dcl T.F_p1 G_p1 hr rfl (dac (zAa 1) (dac (zAa 2) (dac (zAa 0) zAd rfl) rfl) rfl) ln3) (@zAV _ _ _ _ zAd) (zAD _)))) (fun _ _ _ _ _=>(zAa 0))) (@zAV _ _ _ _ zAd) (zAD _))))))))))))))))
end
end My
namespace My
open PySem PySem.SeqAt L2 DL SD SL EL DC
abbrev C:=Int × Int
def zAb(c:C):D:=.tuple [.int c.1,.int c.2]
theorem ne_i(i j:Int):dNe (.int i) (.int j)=some (.bool (!(i == j))):=id rfl
theorem zBi{i j:Int}(h:zBY i j=true):zAy (.int i) (.int j)=some (.int (i * j)):=by
 show(if zBY i j=true then _ else _)=_
 rw [if_pos h]
theorem zEn{i j:Int}(h:zC6 i j=true):zBo (.int i) (.int j)=some (.int (i / j)):=by
 show(if zC6 i j=true then _ else _)=_
 rw [if_pos h]
theorem zB9{i j:Int}(h:0<j):dMod (.int i) (.int j)=some (.int (i % j)):=by
 show(if decide (0<j)=true then _ else _)=_
 rw [if_pos (decide_eq_true h)]
theorem okS{i j:Int}(h1:-18446744073709551616<i)(h2:i<18446744073709551616):zBY i j=true:=by
 unfold zBY
 rw [decide_eq_true h1,decide_eq_true h2]
 rfl
theorem okT{i j:Int}(h1:-18446744073709551616<j)(h2:j<18446744073709551616):zBY i j=true:=by
 unfold zBY
 rw [decide_eq_true h1,decide_eq_true h2]
 simp
theorem okD{i j:Int}(h1:0<j)(h2:j<1073741824):zC6 i j=true:=by
 unfold zC6
 rw [decide_eq_true h1,decide_eq_true h2]
 rfl
section
variable {α β:Type}
theorem zDx{s:D->Rho->Option Rho}{t:Rho->Option Bool}{ge:Rho->Option D}(item:α->D)(p:α->Bool)(f:α->D)(I:Rho->Prop):∀{xs:List α}{ρ:Rho},I ρ->
  (∀ a∈xs,∀ ρ,I ρ->∃ ρ',s (item a) ρ=some ρ'/\I ρ'/\t ρ'=some (p a)/\(p a=true->ge ρ'=some (f a)))->zCS s t ge (xs.map item) ρ=some ((xs.filter p).map f)
 | [],_,_,_=>rfl
 | x::xs,ρ,h0,h=>by
  obtain⟨ρ',e1,i1,e2,e3⟩:=h x Qe ρ h0
  have ih:=zDx item p f I i1 fun y hy=>h y (Qd _ hy)
  rw [Qm]
  unfold zCS
  rw [e1,Qr,e2,Qr]
  cases q:p x with
  | true=>rw [if_pos rfl,e3 q,Qr,ih,List.filter_cons_of_pos q];rfl
  | false=>rw [if_neg Qu,ih,List.filter_cons_of_neg (by rw [q];exact Qu)]
theorem zI7{gi:Rho->Option (List D)}{s:D->Rho->Option Rho}{t:Rho->Option Bool}{ge:Rho->Option D}{inner:List (Option Nat)}{ρ:Rho}{xs:List α}(item:α->D)(p:α->Bool)(f:α->D)(I:Rho->Prop)(h1:gi ρ=some (xs.map item))(hl:xs.length<=1000)(h0:I (zBU inner ρ))
  (h:∀ a∈xs,∀ ρ,I ρ->∃ ρ',s (item a) ρ=some ρ'/\I ρ'/\t ρ'=some (p a)/\(p a=true->ge ρ'=some (f a))):eLc (zAA gi s t ge inner) ρ=some (.list ((xs.filter p).map f)):=by
 have q:=zDx item p f I h0 h
 unfold eLc zAA
 rw [h1,Qr,q,Qr,if_pos (by rw [Qj];exact Ql (QR _ _) hl)]
 rfl
theorem zAP{gi:Rho->Option (List D)}{s:D->Rho->Option Rho}{t:Rho->Option Bool}{ge:Rho->Option D}{inner:List (Option Nat)}{ρ:Rho}{xs:List α}{out:List D}(item:α->D)(p:α->Bool)(f:α->D)(I:Rho->Prop)(h1:gi ρ=some (xs.map item))(hl:xs.length<=1000)(h0:I (zBU inner ρ))
  (h:∀ a∈xs,∀ ρ,I ρ->∃ ρ',s (item a) ρ=some ρ'/\I ρ'/\t ρ'=some (p a)/\(p a=true->ge ρ'=some (f a))) (ho:(xs.filter p).map f=out):eLc (zAA gi s t ge inner) ρ=some (.list out):=by
 rw [<- ho]
 exact zI7 item p f I h1 hl h0 h
theorem zBJ(l:List α):l.filter (fun _=>true)=l:=by induction l with
 | nil=>rfl
 | cons a l ih=>simp [ih]
theorem zC1{s:D->Rho->Option Rho}{g:Rho->Option Out}(item:α->D)(env:β->Rho)(step:β->α->β)(P:Nat->β->Prop)(n:Nat):∀(xs:List α) (i:Nat) (b:β),i+xs.length<=n->P i b->
  (∀ a∈xs,∀ i b,i<n->P i b->(∃ ρ1,s (item a) (env b)=some ρ1/\g ρ1=some (.nx (env (step b a))))/\P (i+1) (step b a))->forN s g (xs.map item) (env b)=some (.nx (env (xs.foldl step b)))
 | [],_,b,_,_,_=>rfl
 | x::xs,i,b,hi,hp,h=>by
  rw [QL]at hi
  obtain⟨⟨ρ1,e1,e2⟩,p2⟩:=h x Qe i b (by lia) hp
  rw [Qm]
  unfold forN
  rw [e1,Qr,e2,Qr]
  exact zC1 item env step P n xs (i+1) _ (by lia) p2 fun a ha=>h a (Qd _ ha)
theorem zFP{s:D->Rho->Option Rho}{g:Rho->Option Out}(item:α->D)(I:Rho->Prop)(p:α->Bool)(d:D):∀(xs:List α) (ρ:Rho),I ρ->
  (∀ a∈xs,∀ ρ,I ρ->∃ ρ1,s (item a) ρ=some ρ1/\if p a=true then g ρ1=some (.rt d)else ∃ ρ2,g ρ1=some (.nx ρ2)/\I ρ2)->
  if xs.any p=true then forN s g (xs.map item) ρ=some (.rt d)else ∃ ρ',forN s g (xs.map item) ρ=some (.nx ρ')/\I ρ'
 | [],ρ,h0,_=>by rw [if_neg (by simp)];exact⟨ρ,rfl,h0⟩
 | x::xs,ρ,h0,h=>by
  obtain⟨ρ1,e1,e2⟩:=h x Qe ρ h0
  rw [Qm,Jq]
  unfold forN
  rw [e1,Qr]
  cases q:p x with
  | true=>
   rw [q,if_pos rfl]at e2
   rw [Bool.true_or,if_pos rfl,e2]
   rfl
  | false=>
   rw [q,if_neg Qu]at e2
   obtain⟨ρ2,e2,i2⟩:=e2
   rw [Bool.false_or,e2,Qr]
   exact zFP item I p d xs ρ2 i2 fun a ha=>h a (Qd _ ha)
theorem zEo{s:D->Rho->Option Rho}{g:Rho->Option Out}(item:α->D)(I:Rho->Prop):∀(xs:List α) (ρ:Rho),I ρ->
  (∀ a∈xs,∀ ρ,I ρ->∃ ρ1 ρ2,s (item a) ρ=some ρ1/\g ρ1=some (.nx ρ2)/\I ρ2)->∃ ρ',forN s g (xs.map item) ρ=some (.nx ρ')/\I ρ'
 | [],ρ,h0,_=>⟨ρ,rfl,h0⟩
 | x::xs,ρ,h0,h=>by
  obtain⟨ρ1,ρ2,e1,e2,i2⟩:=h x Qe ρ h0
  rw [Qm]
  unfold forN
  rw [e1,Qr,e2,Qr]
  exact zEo item I xs ρ2 i2 fun a ha=>h a (Qd _ ha)
end
theorem zKa(h:Nat)(h2:h<1000):rng1 [.int h]=some ((List.range h).map fun(k:Nat)=>.int (k:Int)):=by
 show(if -4611686018427387904<=(h:Int)/\(h:Int)<4611686018427387904 then some ((List.range (h:Int).toNat).map fun(k:Nat)=>PyData.int (0+(k:Int)))else none)=_
 rw [if_pos ⟨by lia,by lia⟩,YS]
 congr 2
 funext k
 rw [Int.zero_add]
section
variable {g g1 g2:Rho->Option Out}{t u:Rho->Option Bool}{ga gb gc:Rho->Option D}{gr:Rho->Option (List D)}{ρ:Rho}{d:D}
theorem ap_op(f:D->D->Option D):eOp f ga gb ρ=(ga ρ).bind fun x=>(gb ρ).bind fun y=>f x y:=id rfl
theorem ap_B:eB ga ρ=(ga ρ).bind asB:=id rfl
theorem zLf:zDE ga ρ=(ga ρ).bind fun x=>(asB x).bind fun c=>some (.bool (!c)):=id rfl
theorem ap_fn(n:Nat)(ds:List D):fnD n g ds=match g (zAG n ds)with | some (.rt d)=>some d | some (.nx _)=>some .none | _=>none:=id rfl
theorem asB_b(b:Bool):asB (.bool b)=some b:=id rfl
end
section
variable {α β:Type}(a:α)(l m:List α)(n:Nat)(f:α->β)
theorem O_bs(k:α->Option β):(some a).bind k=k a:=id rfl
end
def zBg{β:Type}(cond:β->Bool)(step:β->β):Nat->β->Option β
 | 0,_=>none
 | n+1,b=>if cond b=true then zBg cond step n (step b)else some b
theorem zD4{β:Type}{t:Rho->Option Bool}{g:Rho->Option Out}(env:β->Rho)(cond:β->Bool)(step:β->β)(P:Nat->β->Prop)(hT:∀ n b,P n b->t ((env b).map frz)=some (cond b))
  (hB:∀ n b,P (n+1) b->cond b=true->g (env b)=some (.nx (env (step b)))/\P n (step b)):∀ n b b',P n b->zBg cond step n b=some b'->zBD t g n (env b)=some (.nx (env b'))
 | 0,_,_,_,h=>by cases h
 | n+1,b,b',p,h=>by
  unfold zBg at h
  unfold zBD
  rw [hT _ b p,Qr]
  by_cases c:cond b=true
  ·rw [if_pos c]at h ⊢
   obtain⟨h1,h2⟩:=hB n b p c
   rw [h1,Qr]
   exact zD4 env cond step P hT hB n _ b' h2 h
  ·rw [if_neg c]at h ⊢
   cases h
   rfl
theorem zAn{g1 g2:Rho->Option Out}{ρ ρ':Rho}{r:Option Out}(h:g1 ρ=some (.nx ρ'))(h2:g2 ρ'=r):sSeq g1 g2 ρ=r:=by
 unfold sSeq
 rw [h]
 exact h2
theorem zER{g1 g2:Rho->Option Out}{ρ:Rho}{d:D}(h:g1 ρ=some (.rt d)):sSeq g1 g2 ρ=some (.rt d):=by
 unfold sSeq
 rw [h]
 rfl
theorem zAw{n:Nat}{g:Rho->Option Out}{ds:List D}{d:D}(h:g (zAG n ds)=some (.rt d)):fnD n g ds=some d:=by
 unfold fnD
 rw [h]
theorem zBL{gi:Rho->Option (List D)}{s:D->Rho->Option Rho}{g:Rho->Option Out}{ρ:Rho}{xs:List D}{r:Option Out}(h1:gi ρ=some xs)(h2:forN s g xs ρ=r):sFor gi s g ρ=r:=by
 unfold sFor
 rw [h1]
 exact h2
theorem zCe{t:Rho->Option Bool}{g1 g2:Rho->Option Out}{ρ:Rho}{b:Bool}{r:Option Out}(h:t (ρ.map frz)=some b)(h1:b=true->g1 ρ=r)(h2:b=false->g2 ρ=r):sIf t g1 g2 ρ=r:=by
 unfold sIf
 rw [h]
 cases b with
 | true=>exact h1 rfl
 | false=>exact h2 rfl
theorem zAv{ga:Rho->Option D}{ρ:Rho}{d:D}(h:ga (ρ.map frz)=some d):sRet ga ρ=some (.rt d):=by
 unfold sRet
 rw [h]
 rfl
theorem zAz{i:Nat}{ga:Rho->Option D}{ρ:Rho}{d:D}(h:ga ρ=some d):sSet i ga ρ=some (.nx (ρ.set i (.dat d))):=by
 unfold sSet
 rw [h]
 rfl
theorem zAh{G:List D->Option D}{gr:Rho->Option (List D)}{ρ:Rho}{ds:List D}{r:Option D}(h:gr ρ=some ds)(h2:G ds=r):zAf G gr ρ=r:=by
 unfold zAf
 rw [h]
 exact h2
theorem zKg{gr:Rho->Option (List D)}{s:D->Rho->Option Rho}{g:Rho->Option Out}{ρ:Rho}{n:Nat}{r:Option Out}(h1:gr ρ=some [.int (n:Nat)])(hn:n<1000)(h2:forN s g ((List.range n).map fun(k:Nat)=>.int (k:Int)) ρ=r):sFor (zBA gr) s g ρ=r:=by
 show((gr ρ).bind rng1).bind (fun xs=>forN s g xs ρ)=r
 rw [h1,Qr,zKa n hn,Qr]
 exact h2
theorem zGg{gr:Rho->Option (List D)}{ρ:Rho}{n:Nat}(h1:gr ρ=some [.int (n:Nat)])(hn:n<1000):zBA gr ρ=some ((List.range n).map fun(k:Nat)=>.int (k:Int)):=by
 show(gr ρ).bind rng1=_
 rw [h1,Qr,zKa n hn]
theorem oo{f:D->D->Option D}{ga gb:Rho->Option D}{ρ:Rho}{x y:D}{r:Option D}(h1:ga ρ=some x)(h2:gb ρ=some y)(h3:f x y=r):eOp f ga gb ρ=r:=by
 unfold eOp
 rw [h1,Qr,h2]
 exact h3
theorem oB{ga:Rho->Option D}{ρ:Rho}{b:Bool}(h:ga ρ=some (.bool b)):eB ga ρ=some b:=by
 unfold eB
 rw [h]
 rfl
theorem zKe{i:Nat}{ga:Rho->Option D}{ρ:Rho}{ds:List D}{d:D}(h1:ρ[i]?=some (.own ds))(h2:ga ρ=some d)(h3:ds.length<1000):sApp i ga ρ=some (.nx (ρ.set i (.own (ds++[d])))):=by
 unfold sApp
 rw [h1]
 show(ga ρ).bind _=_
 rw [h2,Qr,if_pos h3]
theorem zBZ{ga:Rho->Option D}{ρ:Rho}{d:D}(h:ga ρ=some d):zBa ga ρ=some (.nx ρ):=by
 unfold zBa
 rw [h]
 rfl
theorem zAB{ga:Rho->Option D}{gr:Rho->Option (List D)}{ρ:Rho}{d:D}{ds:List D}(h:ga ρ=some d)(h2:gr ρ=some ds):zAc ga gr ρ=some (d::ds):=by
 unfold zAc
 rw [h,Qr,h2]
 rfl
theorem zBk{t:Rho->Option Bool}{g1:Rho->Option Out}{ρ:Rho}(h:t (ρ.map frz)=some false):sIf t g1 zAL ρ=some (.nx ρ):=by
 unfold sIf
 rw [h]
 rfl
theorem oN{t:Rho->Option Bool}{ρ:Rho}{b:Bool}(h:t ρ=some b):eNot t ρ=some (!b):=by
 unfold eNot
 rw [h]
 rfl
theorem oA1{t u:Rho->Option Bool}{ρ:Rho}{r:Option Bool}(h:t ρ=some true)(h2:u ρ=r):eAnd t u ρ=r:=by
 unfold eAnd
 rw [h]
 exact h2
theorem oA0{t u:Rho->Option Bool}{ρ:Rho}(h:t ρ=some false):eAnd t u ρ=some false:=by
 unfold eAnd
 rw [h]
 rfl
theorem zFK{n:Nat}{g:Rho->Option Out}{ds:List D}{ρ:Rho}(h:g (zAG n ds)=some (.nx ρ)):fnD n g ds=some .none:=by
 unfold fnD
 rw [h]
theorem oAV{ga gb:Rho->Option D}{ρ:Rho}{r:Option D}(h:ga ρ=some (.bool true))(h2:gb ρ=r):zBS ga gb ρ=r:=by
 unfold zBS
 rw [h]
 exact h2
theorem oT2{ga gb:Rho->Option D}{ρ:Rho}{x y:D}(h1:ga ρ=some x)(h2:gb ρ=some y):eTup (zAc ga (zAc gb eNil)) ρ=some (.tuple [x,y]):=by
 unfold eTup
 rw [zAB h1 (zAB h2 rfl)]
 rfl
theorem oT1{ga:Rho->Option D}{ρ:Rho}{x:D}(h1:ga ρ=some x):eTup (zAc ga eNil) ρ=some (.tuple [x]):=by
 unfold eTup
 rw [zAB h1 rfl]
 rfl
theorem oT3{ga gb gc:Rho->Option D}{ρ:Rho}{x y z:D}(h1:ga ρ=some x)(h2:gb ρ=some y)(h3:gc ρ=some z):eTup (zAc ga (zAc gb (zAc gc eNil))) ρ=some (.tuple [x,y,z]):=by
 unfold eTup
 rw [zAB h1 (zAB h2 (zAB h3 rfl))]
 rfl
theorem oO0{t u:Rho->Option Bool}{ρ:Rho}{r:Option Bool}(h:t ρ=some false)(h2:u ρ=r):eOr t u ρ=r:=by
 unfold eOr
 rw [h]
 exact h2
theorem zPE{ga:Rho->Option D}{s:D->Rho->Option Rho}{ρ ρ':Rho}{d:D}(h:ga ρ=some d)(h2:s d ρ=some ρ'):sAsg ga s ρ=some (.nx ρ'):=by
 unfold sAsg
 rw [h,Qr,h2]
 rfl
theorem oS{ga:Rho->Option D}{gl gh:Rho->Option (Option Int)}{ρ:Rho}{d:D}{l u:Option Int}{r:Option D}(h:ga ρ=some d)(h1:gl ρ=some l)(h2:gh ρ=some u)(h3:dSl2 d l u=r):eSl2 ga gl gh ρ=r:=by
 unfold eSl2
 rw [h,Qr,h1,Qr,h2]
 exact h3
theorem oAV0{ga gb:Rho->Option D}{ρ:Rho}(h:ga ρ=some (.bool false)):zBS ga gb ρ=some (.bool false):=by
 unfold zBS
 rw [h]
 rfl
theorem zAO{ga:Rho->Option D}{ρ:Rho}{d:D}{l:List D}(h1:ga ρ=some d)(h2:seqD d=some l):iSeq ga ρ=some l:=by
 show(ga ρ).bind seqD=_
 rw [h1,Qr,h2]
theorem zPG{ga:Rho->Option D}{s:D->Rho->Option Rho}{g:Rho->Option Out}{ρ:Rho}{d:D}{l:List D}{r:Option Out}(h1:ga ρ=some d)(h0:seqD d=some l)(h2:forN s g l ρ=r):sFor (iSeq ga) s g ρ=r:=by
 show((ga ρ).bind seqD).bind (fun xs=>forN s g xs ρ)=r
 rw [h1,Qr,h0,Qr]
 exact h2
end My
namespace My
open PySem PySem.SeqAt L2 DL SD SL EL DC
abbrev Row:=List Int
def insL(p:Row):List Row->List Row
 | []=>[p]
 | q::r=>if HT.lexLt q p=true then q::insL p r else p::q::r
def zBl:List Row->List Row
 | []=>[]
 | p::r=>insL p (zBl r)
def fK(k:Row):KD:=(k,tupI k)
theorem zIT(p:Row):∀ l:List Row,insK (fK p) (l.map fK)=(insL p l).map fK
 | []=>rfl
 | q::r=>by
  show(if HT.lexLt q p=true then fK q::insK (fK p) (r.map fK)else fK p::fK q::r.map fK)=(if HT.lexLt q p=true then q::insL p r else p::q::r).map fK
  split
  ·rw [zIT p r];rfl
  ·rfl
theorem zGR:∀ l:List Row,zAZ (l.map fK)=(zBl l).map fK
 | []=>rfl
 | p::r=>by
  show insK (fK p) (zAZ (r.map fK))=(insL p (zBl r)).map fK
  rw [zGR r,zIT]
theorem zIU(p:Row):∀ l:List Row,(insL p l).Perm (p::l)
 | []=>.refl _
 | q::r=>by
  unfold insL
  split
  ·exact((zIU p r).cons q).trans (.swap _ _ _)
  ·exact .refl _
theorem zE3:∀ l:List Row,(zBl l).Perm l
 | []=>.refl _
 | p::r=>(zIU p (zBl r)).trans ((zE3 r).cons p)
theorem zPW(l:List Row):(zBl l).Pairwise fun a b=>HT.lexLt b a=false:=by
 have:=zD1 (l.map fK)
 rw [zGR,Q1]at this
 exact this
theorem zHK:∀ l:List Row,l.Nodup->dd l=l
 | [],_=>rfl
 | k::r,h=>by
  obtain⟨h1,h2⟩:=Yl.mp h
  unfold dd
  rw [if_neg h1,zHK r h2]
theorem zJf:∀{k m:Row},k.length=m.length->zA7 (k.map PyData.int) (m.map PyData.int)=true
 | [],[],_=>rfl
 | x::k,y::m,h=>by
  show(zBh (.int x) (.int y) && zA7 (k.map PyData.int) (m.map PyData.int))=true
  rw [zJf (by simpa using h)]
  rfl
 | [],_::_,h=>by cases h
 | _::_,[],h=>by cases h
theorem zIc:∀ k:Row,zBs (k.map PyData.int)=some k
 | []=>rfl
 | x::k=>by
  have:=zIc k
  show(some [x]).bind (fun a=>(zBs (k.map PyData.int)).bind fun b=>some (a++b))=_
  rw [this]
  rfl
theorem zKd{d0:Row}(h0:d0≠[]):∀{l:List Row},(∀ k∈l,k.length=d0.length)->zA1 (d0.map PyData.int) (l.map tupI)=some (l.map fK)
 | [],_=>rfl
 | k::l,h=>by
  have hk:=h k Qe
  have e1:rowK (d0.map PyData.int) (tupI k)=some k:=by
   cases k with
   | nil=>exact absurd (Yy hk.symm) h0
   | cons x k=>
    show(if zA7 (d0.map PyData.int) ((x::k).map PyData.int)=true then zBs ((x::k).map PyData.int)else none)=_
    rw [if_pos (zJf hk.symm),zIc]
  show(rowK (d0.map PyData.int) (tupI k)).bind _=_
  rw [e1,Qr,zKd h0 fun k hk=>h k (Qd _ hk)]
  rfl
theorem zD2{l:List Row}(h:∀ k∈l,k.length=2)(hl:l.length<=63):zBQ [.list (l.map tupI)]=some (.list ((zBl l).map tupI)):=by
 cases l with
 | nil=>rfl
 | cons k0 kr=>
  have h0:k0.length=2:=h k0 Qe
  have e2:=zKd (d0:=k0) (fun q=>by rw [q]at h0;cases h0) (l:=k0::kr) fun k hk=>(h k hk).trans h0.symm
  show(if(kr.map tupI).length<63 then(zA1 (k0.map PyData.int) ((k0::kr).map tupI)).bind fun l=>some (PyData.list ((zAZ l).map (·.2)))else none)=_
  rw [if_pos (by rw [Qj];simp only [QL]at hl;lia),e2]
  show some (PyData.list ((zAZ ((k0::kr).map fK)).map (·.2)))=_
  rw [zGR,Q7]
  rfl
def row(c:C):Row:=[c.1,c.2]
def ltC(a b:C):Bool:=HT.lexLt (row a) (row b)
theorem zBX(a b:C):ltC a b=true ↔ a.1<b.1 ∨ (a.1=b.1/\a.2<b.2):=by
 unfold ltC row
 rw [HT.lexLt_cons]
 by_cases h:a.1=b.1
 ·rw [if_pos h,HT.lexLt_cons]
  by_cases h':a.2=b.2
  ·rw [if_pos h'];simp [HT.lexLt];lia
  ·rw [if_neg h'];simp;lia
 ·rw [if_neg h];simp;lia
def Up(l:List C):Prop:=l.Pairwise fun a b=>ltC a b=true
theorem zD3:∀{l m:List C},Up l->Up m->(∀ c,c∈l ↔ c∈m)->l=m
 | [],[],_,_,_=>rfl
 | [],b::m,_,_,h=>nomatch (h b).mpr Qe
 | a::l,[],_,_,h=>nomatch (h a).mp Qe
 | a::l,b::m,h1,h2,h=>by
  obtain⟨a1,a2⟩:=Yc.mp h1
  obtain⟨b1,b2⟩:=Yc.mp h2
  have irr:∀ c:C,ltC c c=true->False:=fun c q=>by rw [zBX]at q;lia
  have e:a=b:=by
   rcases Qi.mp ((h a).mp Qe)with q | q
   ·exact q
   ·rcases Qi.mp ((h b).mpr Qe)with r | r
    ·exact r.symm
    ·have x:=b1 a q
     have y:=a1 b r
     rw [zBX]at x y
     lia
  subst e
  congr 1
  refine zD3 a2 b2 fun c=>⟨fun q=>?_,fun q=>?_⟩
  ·rcases Qi.mp ((h c).mp (Qd _ q))with r | r
   ·subst r;exact(irr _ (a1 _ q)).elim
   ·exact r
  ·rcases Qi.mp ((h c).mpr (Qd _ q))with r | r
   ·subst r;exact(irr _ (b1 _ q)).elim
   ·exact r
theorem zBN{l:List C}(h:Up l):l.Nodup:=h.imp fun{a b} q e=>by subst e;rw [zBX]at q;lia
theorem zKD{l:List C}(hn:l.Nodup):∃ m:List C,zBl (l.map row)=m.map row/\Up m/\∀ c,c∈m ↔ c∈l:=by
 obtain⟨m,hm⟩:∃ m:List C,m=(zBl (l.map row)).map fun r=>(r.getD 0 0,r.getD 1 0):=⟨_,rfl⟩
 have mem:∀ r,r∈zBl (l.map row) ↔ r∈l.map row:=fun r=>(zE3 _).mem_iff
 have e:zBl (l.map row)=m.map row:=by
  rw [hm,Q7]
  conv=>lhs;rw [<- List.map_id (zBl (l.map row))]
  refine JH fun r hr=>?_
  obtain⟨c,_,rfl⟩:=QJ.mp ((mem r).mp hr)
  rfl
 have inj:∀ a b:C,row a=row b->a=b:=fun a b q=>by
  unfold row at q
  injection q with q1 q2
  injection q2 with q2 _
  exact YW q1 q2
 have mm:∀ c,c∈m ↔ c∈l:=fun c=>by
  constructor
  ·intro h
   have:row c∈l.map row:=(mem _).mp (by rw [e];exact YI h)
   obtain⟨d,hd,q⟩:=QJ.mp this
   rw [<- inj _ _ q];exact hd
  ·intro h
   have:row c∈m.map row:=by rw [<- e];exact(mem _).mpr (YI h)
   obtain⟨d,hd,q⟩:=QJ.mp this
   rw [<- inj _ _ q];exact hd
 refine⟨m,e,?_,mm⟩
 have s:=zPW (l.map row)
 have n:(zBl (l.map row)).Nodup:=(zE3 _).nodup_iff.mpr (by
  rw [List.Nodup,Q1]
  exact hn.imp fun{a b} q r=>q (inj _ _ r))
 rw [e]at s n
 rw [Q1]at s
 rw [List.Nodup,Q1]at n
 refine(s.and n).imp fun{a b} h=>?_
 cases q:ltC a b with
 | true=>rfl
 | false=>exact absurd (zDM _ _ q h.1) h.2
theorem zGK(l:List C):(l.map row).map tupI=l.map zAb:=by rw [Q7];rfl
theorem zKG{l m:List C}(hn:l.Nodup)(hl:l.length<=63)(hm:Up m)(h:∀ c,c∈m ↔ c∈l):zBQ [.list (l.map zAb)]=some (.list (m.map zAb)):=by
 rw [<- zGK l,zD2 (fun k hk=>by obtain⟨c,_,rfl⟩:=QJ.mp hk;rfl) (by rw [Qj];exact hl)]
 obtain⟨m',e1,e2,e3⟩:=zKD hn
 rw [e1,zGK,zD3 e2 hm fun c=>(e3 c).trans (h c).symm]
def cells(w h:Nat):List C:=(List.range w).flatMap fun(x:Nat)=>(List.range h).map fun(y:Nat)=>((x:Int),(y:Int))
def inR(w h:Nat)(c:C):Bool:=decide (0<=c.1) && decide (c.1<w) && decide (0<=c.2) && decide (c.2<h)
theorem zBK{w h:Nat}{c:C}:inR w h c=true ↔ 0<=c.1/\c.1<w/\0<=c.2/\c.2<h:=by
 unfold inR
 simp only [QH,decide_eq_true_eq]
 constructor
 ·intro q;exact⟨q.1.1.1,q.1.1.2,q.1.2,q.2⟩
 ·intro q;exact⟨⟨⟨q.1,q.2.1⟩,q.2.2.1⟩,q.2.2.2⟩
theorem zBt{w h:Nat}{c:C}:c∈cells w h ↔ inR w h c=true:=by
 unfold cells
 rw [List.mem_flatMap,zBK]
 constructor
 ·rintro⟨x,hx,hc⟩
  obtain⟨y,hy,rfl⟩:=QJ.mp hc
  exact⟨Y3 _,Y1.mpr (QE.mp hx),Y3 _,Y1.mpr (QE.mp hy)⟩
 ·rintro⟨q1,q2,q3,q4⟩
  exact⟨c.1.toNat,QE.mpr ((Int.toNat_lt q1).mpr q2),QJ.mpr ⟨c.2.toNat,QE.mpr ((Int.toNat_lt q3).mpr q4),YW (YY q1) (YY q3)⟩⟩
theorem zQt(h:Nat)(x:Nat):Up ((List.range h).map fun(y:Nat)=>((x:Int),(y:Int))):=by
 unfold Up
 rw [Q1]
 refine List.pairwise_lt_range.imp fun{a b} q=>?_
 rw [zBX]
 dsimp only
 lia
theorem zBM(w h:Nat):Up (cells w h):=by
 unfold Up cells
 rw [List.pairwise_flatMap]
 refine⟨fun x _=>zQt h x,List.pairwise_lt_range.imp fun{a b} q c hc d hd=>?_⟩
 obtain⟨y,_,rfl⟩:=QJ.mp hc
 obtain⟨z,_,rfl⟩:=QJ.mp hd
 rw [zBX]
 dsimp only
 lia
theorem zBv{l:List C}(h:Up l)(p:C->Bool):Up (l.filter p):=List.Pairwise.filter p h
theorem zKM(h:Nat):∀ l:List Nat,(l.map fun _=>h).sum=l.length * h
 | []=>by simp
 | _::l=>by rw [Qm,Jr,zKM h l,QL,Nat.succ_mul,Nat.add_comm]
theorem zBF(w h:Nat):(cells w h).length=w * h:=by
 unfold cells
 rw [List.length_flatMap]
 simp only [Qj,Ya]
 rw [zKM,Ya]
end My
namespace My
open PySem PySem.SeqAt L2 DL SD SL EL DC
def zFe(fx fy:Int):Nat->Int->Int->Option (List C)
 | 0,_,_=>none
 | n+1,gx,gy=>if gx<fx ∨ gy<fy then
   (zFe fx fy n (if(2 * gx+1) * fy<=(2 * gy+1) * fx then gx+1 else gx) (if(2 * gy+1) * fx<=(2 * gx+1) * fy then gy+1 else gy)).bind fun r=>
    some ((if(2 * gx+1) * fy<=(2 * gy+1) * fx then gx+1 else gx,if(2 * gy+1) * fx<=(2 * gx+1) * fy then gy+1 else gy)::r)
  else some []
def iabs(i:Int):Int:=if i<0 then -i else i
def sgn(a:Int):Int:=if 0<a then 1 else -1
def rel(a b:Int):Option (List C):=(zFe (iabs a) (iabs b) 900 0 0).bind fun st=>some ((0,0)::st.map fun g=>(sgn a * g.1,sgn b * g.2))
def relT(a b:Int):List C:=(rel a b).getD []
def sub(d:C)(g:C):C:=(g.1-d.1,g.2-d.2)
def add(d:C)(g:C):C:=(d.1+g.1,d.2+g.2)
def eqL:List C->List C->Bool
 | [],[]=>true
 | a::l,b::m=>a.1 == b.1 && a.2 == b.2 && eqL l m
 | _,_=>false
theorem zCZ:∀{l m:List C},eqL l m=true->l=m
 | [],[],_=>rfl
 | a::l,b::m,h=>by
  unfold eqL at h
  simp only [QH,beq_iff_eq]at h
  rw [zCZ h.2,YW h.1.1 h.1.2]
 | [],_::_,h=>by cases h
 | _::_,[],h=>by cases h
def chk(a b:Int):Bool:=match rel a b with
 | some ((0,0)::st)=>decide (st.length<=8) && eqL (relT (-a) (-b)) ((((0,0)::st).reverse).map (sub (a,b))) && eqL (relT (-a) b) (((0,0)::st).map fun g=>(-g.1,g.2)) && eqL (relT b a) (((0,0)::st).map fun g=>(g.2,g.1))
   && eqL ((((0,0)::st).dropLast++[(a,b)])) ((0,0)::st) && ((0,0)::st).all (fun g=>decide (0<=sgn a * g.1) && decide (sgn a * g.1<=iabs a) && decide (0<=sgn b * g.2) && decide (sgn b * g.2<=iabs b))
 | _=>false
def rng4:List Int:=[-4,-3,-2,-1,0,1,2,3,4]
theorem zLK:(rng4.all fun a=>rng4.all fun b=>chk a b)=true:=by decide +kernel
theorem zJp{a:Int}(h:-4<=a)(h':a<=4):a∈rng4:=by
 have k:∀ n:Fin 9,((n.val:Int)-4)∈rng4:=by decide
 have e:(((a+4).toNat:Nat):Int)-4=a:=by lia
 have:=k ⟨(a+4).toNat,by lia⟩
 rw [e]at this
 exact this
structure zGZ(a b:Int):Prop where
 some:rel a b=some (relT a b)
 len:(relT a b).length<=9
 first:∃ st,relT a b=(0,0)::st
 back:relT (-a) (-b)=(relT a b).reverse.map (sub (a,b))
 mir:relT (-a) b=(relT a b).map fun g=>(-g.1,g.2)
 flip:relT b a=(relT a b).map fun g=>(g.2,g.1)
 last:(relT a b).dropLast++[(a,b)]=relT a b
 box:∀ g∈relT a b,0<=sgn a * g.1/\sgn a * g.1<=iabs a/\0<=sgn b * g.2/\sgn b * g.2<=iabs b
theorem zNA{a b:Int}(ha:-4<=a)(ha':a<=4)(hb:-4<=b)(hb':b<=4):zGZ a b:=by
 have c:=QG.mp (QG.mp zLK a (zJp ha ha')) b (zJp hb hb')
 unfold chk at c
 split at c
 ·rename_i st e
  have r:relT a b=(0,0)::st:=by unfold relT;rw [e];rfl
  simp only [QH,decide_eq_true_eq]at c
  obtain⟨⟨⟨⟨⟨c1,c2⟩,c3⟩,c4⟩,c5⟩,c6⟩:=c
  refine⟨by rw [e,r],by rw [r,QL];lia,⟨st,r⟩,by rw [r];exact zCZ c2,by rw [r];exact zCZ c3,by rw [r];exact zCZ c4,by rw [r];exact zCZ c5,fun g hg=>?_⟩
  rw [r]at hg
  have:=QG.mp c6 g hg
  simp only [QH,decide_eq_true_eq]at this
  exact⟨this.1.1.1,this.1.1.2,this.1.2,this.2⟩
 ·cases c
def diag(g h:C):Bool := !(g.1 == h.1) && !(g.2 == h.2)
def zA6(S:C->Bool):List C->Bool
 | g::h::r=>(!diag g h || !(S (g.1,h.2) && S (h.1,g.2))) && zA6 S (h::r)
 | _=>true
theorem zEM(S:C->Bool)(g h:C)(r:List C):zA6 S (g::h::r)=((!diag g h || !(S (g.1,h.2) && S (h.1,g.2))) && zA6 S (h::r)):=rfl
theorem zJY(S:C->Bool):∀(l:List C) (g h:C),zA6 S (l++[g,h])=(zA6 S (l++[g]) && zA6 S [g,h])
 | [],g,h=>by simp [zA6]
 | [a],g,h=>by simp [zA6]
 | a::b::l,g,h=>by
  have ih:=zJY S (b::l) g h
  rw [YM,YM]at ih
  rw [YM,YM,YM,YM,zEM,zEM,ih,Bool.and_assoc]
theorem zMf(g h:C):diag g h=diag h g:=by
 unfold diag
 rw [Yu]
 simp only [QH,Bool.not_eq_true',beq_eq_false_iff_ne,ne_eq]
 constructor <;> (rintro⟨a,b⟩;exact⟨fun q=>a q.symm,fun q=>b q.symm⟩)
theorem zJZ(S:C->Bool):∀ l:List C,zA6 S l.reverse=zA6 S l
 | []=>rfl
 | [a]=>rfl
 | a::b::l=>by
  have ih:=zJZ S (b::l)
  rw [List.reverse_cons]at ih
  rw [List.reverse_cons,List.reverse_cons,Q9,List.singleton_append,zJY,ih,zEM,JJ]
  congr 1
  show((!diag b a || !(S (b.1,a.2) && S (a.1,b.2))) && true)=_
  rw [Bool.and_true,zMf b a,JJ (S (b.1,a.2))]
def line(a b:C):List C:=(relT (b.1-a.1) (b.2-a.2)).map (add a)
def clear(S:C->Bool)(a b:C):Bool:=(line a b).dropLast.all (fun c => !S c) && zA6 S (line a b)
def seeB(S:C->Bool)(a b:C):Bool := !S b && clear S a b
structure Near(a b:C):Prop where
 x0:-4<=b.1-a.1
 x1:b.1-a.1<=4
 y0:-4<=b.2-a.2
 y1:b.2-a.2<=4
theorem Near.ok{a b:C}(n:Near a b):zGZ (b.1-a.1) (b.2-a.2):=zNA n.x0 n.x1 n.y0 n.y1
theorem Near.symm{a b:C}(n:Near a b):Near b a:=by
 obtain⟨h1,h2,h3,h4⟩:=n
 exact⟨by lia,by lia,by lia,by lia⟩
theorem zJg{a b:C}(n:Near a b):(line a b).dropLast++[b]=line a b:=by
 have:=n.ok.last
 unfold line
 conv=>rhs;rw [<- this,Yh]
 rw [List.map_dropLast.symm]
 congr 1
 show [b]=[(a.1+(b.1-a.1),a.2+(b.2-a.2))]
 congr 1
 exact YW (by dsimp only;lia) (by dsimp only;lia)
theorem zKp{S:C->Bool}{a b:C}(n:Near a b):seeB S a b=((line a b).all (fun c => !S c) && zA6 S (line a b)):=by
 unfold seeB clear
 conv=>rhs;rw [<- zJg n,List.all_append,zJg n]
 simp only [List.all_cons,List.all_nil,Bool.and_true]
 rw [<- Bool.and_assoc,JJ (!S b)]
theorem zNB{a b:C}(n:Near a b):line b a=(line a b).reverse:=by
 unfold line
 have e1:a.1-b.1=-(b.1-a.1):=by lia
 have e2:a.2-b.2=-(b.2-a.2):=by lia
 rw [e1,e2,n.ok.back,Q7,List.map_reverse]
 congr 1
 refine JH fun g _=>?_
 exact YW (by show b.1+(g.1-(b.1-a.1))=a.1+g.1;lia) (by show b.2+(g.2-(b.2-a.2))=a.2+g.2;lia)
theorem zPK{S:C->Bool}{a b:C}(n:Near a b):seeB S a b=seeB S b a:=by
 rw [zKp n,zKp n.symm,zNB n,zJZ,List.all_reverse]
def zEG:List C:=[(0,0),(1,0),(-1,0),(0,1),(0,-1)]
theorem zN7:(zEG.all fun d=>(relT d.1 d.2).dropLast.all (fun g=>g.1 == 0 && g.2 == 0) && eqL (relT d.1 d.2) (if d.1 == 0 && d.2 == 0 then [(0,0)]else [(0,0),d]))=true:=by decide +kernel
theorem zLL{S:C->Bool}{a b:C}(h:iabs (b.1-a.1)+iabs (b.2-a.2)<2)(hs:S a=false):clear S a b=true:=by
 have hd:((b.1-a.1,b.2-a.2):C)∈zEG:=by
  unfold iabs at h
  have:(b.1-a.1=0/\b.2-a.2=0) ∨ (b.1-a.1=1/\b.2-a.2=0) ∨ (b.1-a.1=-1/\b.2-a.2=0) ∨ (b.1-a.1=0/\b.2-a.2=1) ∨ (b.1-a.1=0/\b.2-a.2=-1):=by
   split at h <;> split at h <;> lia
  unfold zEG
  rcases this with⟨p,q⟩ | ⟨p,q⟩ | ⟨p,q⟩ | ⟨p,q⟩ | ⟨p,q⟩ <;> rw [p,q] <;> decide
 have c:=QG.mp zN7 _ hd
 rw [QH]at c
 have e:=zCZ c.2
 have c1:=c.1
 have add0:add a (0,0)=a:=YW (by show a.1+0=a.1;lia) (by show a.2+0=a.2;lia)
 unfold clear line
 dsimp only at e
 by_cases z:((b.1-a.1 == 0) && (b.2-a.2 == 0))=true
 ·rw [if_pos z]at e
  rw [e]
  simp [zA6]
 ·rw [if_neg z]at e
  rw [e]
  have nd:diag (add a (0,0)) (add a (b.1-a.1,b.2-a.2))=false:=by
   rw [add0]
   unfold diag add
   dsimp only
   have hm:=hd
   unfold zEG at hm
   simp only [Qi,JB,or_false,Prod.mk.injEq]at hm
   rcases hm with⟨p,q⟩ | ⟨p,q⟩ | ⟨p,q⟩ | ⟨p,q⟩ | ⟨p,q⟩ <;> rw [p,q] <;> simp
  rw [add0]at nd
  simp only [Qm,List.map_nil,List.dropLast,zA6,add0]
  simp [hs,nd]
end My
namespace My
open PySem PySem.SeqAt L2 DL SD SL EL DC
def scr(ns:List Int):D:=.list (ns.map PyData.int)
theorem zEv:∀ ns:List Int,PyData.canLayAll0 (ns.map PyData.int)=true/\PyData.depthAll (ns.map PyData.int)=0
 | []=>⟨rfl,rfl⟩
 | _::r=>⟨by simp [PyData.canLayAll0,PyData.canLay0,(zEv r).1],by simp [PyData.depthAll,PyData.depth,(zEv r).2]⟩
theorem zKu(ns:List Int):SeqAt.shaped (scr ns)=true:=by
 simp [SeqAt.shaped,scr,PyData.canLay0,PyData.depth,(zEv ns).1,(zEv ns).2]
theorem zLi{ns:List Int}{i:Int}(h0:0<=i)(h1:i<ns.length):∃ r,dIx (scr ns) (.int i)=some (.int r):=by
 show ∃ r,L2.atI (ns.map PyData.int) i=some (.int r)
 unfold L2.atI L2.ixN
 rw [Qj,if_pos h0,if_pos h1]
 have:i.toNat<ns.length:=by lia
 exact⟨ns[i.toNat],by simp [this]⟩
theorem zLJ(ns:List Int)(hn:ns.length<=63)(k:Int):∃ r,zDd [scr ns,.int k]=some (.int r):=by
 cases ns with
 | nil=>
  have e:dEq (scr []) (.list [])=some (.bool true):=rfl
  have m:zAy (.int 7) (.int k)=some (.int (7 * k)):=zBi (okS (by decide) (by decide))
  exact⟨7 * k,zAw (zER (zCe (b:=true) rfl (fun _=>zAv (oo rfl rfl m)) fun z=>by cases z))⟩
 | cons n ns=>
  have hl:(0:Int)<((n::ns).length:Int):=by rw [QL];lia
  have e:dEq (scr (n::ns)) (.list [])=some (.bool false):=by
   unfold dEq
   rw [zKu]
   rfl
  have ln:dLen [scr (n::ns)]=some (.int ((n::ns).length:Int)):=by
   show some (PyData.int (((n::ns).map PyData.int).length:Int))=_
   rw [Qj]
  obtain⟨r,hr⟩:=zLi (ns:=n::ns) (i:=k % ((n::ns).length:Int)) (Int.emod_nonneg _ (by lia)) (Jn _ hl)
  have hl':((n::ns).length:Int)<1073741824:=by lia
  generalize ((n::ns).length:Int)=L at *
  generalize scr (n::ns)=S at *
  have m1:=zB9 (i:=k) hl
  have m2:=zEn (i:=k) (okD hl hl')
  have m3:zAy (.int 6553) (.int (k / L))=some (.int (6553 * (k / L))):=zBi (okS (by decide) (by decide))
  exact⟨r+6553 * (k / L),zAw (zAn (zBk (oB (oo rfl rfl e))) (zAv (oo (oo rfl (oo rfl (zAh rfl ln) m1) hr) (oo rfl (oo rfl (zAh rfl ln) m2) m3) rfl)))⟩
def dr(ns:List Int)(k m:Int):Int:=match zBb [scr ns,.int k,.int m]with
 | some (.int r)=>r
 | _=>0
theorem zCW(ns:List Int)(hn:ns.length<=63)(k m:Int)(hm:0<m):zBb [scr ns,.int k,.int m]=some (.int (dr ns k m))/\0<=dr ns k m/\dr ns k m<m:=by
 have key:∃ r,zBb [scr ns,.int k,.int m]=some (.int r)/\0<=r/\r<m:=by
  obtain⟨c,hc⟩:=zLJ ns hn k
  obtain⟨u,hu⟩:∃ u,u=((c % 2147483563) * 69069+104723 * (k+1)) % 2147483563:=⟨_,rfl⟩
  have u0:0<=u:=by rw [hu];exact Int.emod_nonneg _ (by decide)
  have u1:u<2147483563:=by rw [hu];exact Jn _ (by decide)
  obtain⟨v,hv⟩:∃ v,v=(u * u+u / 3) % 2147483399:=⟨_,rfl⟩
  have v0:0<=v:=by rw [hv];exact Int.emod_nonneg _ (by decide)
  have v1:v<2147483399:=by rw [hv];exact Jn _ (by decide)
  have a1:dMod (.int ((c % 2147483563) * 69069+104723 * (k+1))) (.int 2147483563)=some (.int u):=by rw [hu];exact zB9 (by decide)
  have a0:dMod (.int c) (.int 2147483563)=some (.int (c % 2147483563)):=zB9 (by decide)
  have a2:zAy (.int (c % 2147483563)) (.int 69069)=some (.int (c % 2147483563 * 69069)):=zBi (okT (by decide) (by decide))
  have a3:zAy (.int 104723) (.int (k+1))=some (.int (104723 * (k+1))):=zBi (okS (by decide) (by decide))
  have a4:zAy (.int u) (.int u)=some (.int (u * u)):=zBi (okS (Int.lt_of_lt_of_le (by decide) u0) (Int.lt_trans u1 (by decide)))
  have a5:∀ i j:Int,0<j->j<1073741824->zBo (.int i) (.int j)=some (.int (i / j)):=fun i j h h2=>zEn (okD h h2)
  have a6:dMod (.int (u * u+u / 3)) (.int 2147483399)=some (.int v):=by rw [hv];exact zB9 (by decide)
  have a7:zAy (.int v) (.int v)=some (.int (v * v)):=zBi (okS (Int.lt_of_lt_of_le (by decide) v0) (Int.lt_trans v1 (by decide)))
  refine⟨(v * v+v / 7) % 2147483647 / 11 % m,?_,Int.emod_nonneg _ (Int.ne_of_gt hm),Jn _ hm⟩
  exact zAw (zAn (zAz (oo (oo (oo (oo (zAh rfl hc) rfl a0) rfl a2) (oo rfl rfl a3) rfl) rfl a1)) (zAn (zAz (oo (oo (oo rfl rfl a4) (oo rfl rfl (a5 _ _ (by decide) (by decide))) rfl) rfl a6)) (zAv (oo (oo (oo (oo (oo rfl rfl a7) (oo rfl rfl (a5 _ _ (by decide) (by decide))) rfl) rfl (zB9 (by decide))) rfl (a5 _ _ (by decide) (by decide))) rfl (zB9 hm)))))
 obtain⟨r,h1,h2,h3⟩:=key
 have:dr ns k m=r:=by unfold dr;rw [h1]
 rw [this]
 exact⟨h1,h2,h3⟩
def zAT(w h:Nat)(W:C->Bool):D:=.tuple (((cells w h).filter W).map zAb)
def flD(w h:Nat)(W:C->Bool):D:=.tuple [.int w,.int h,zAT w h W]
theorem zME(w h:Nat)(p:Nat->Nat->Bool):((List.range w).flatMap fun(x:Nat)=>((List.range h).filter (p x)).map fun(y:Nat)=>((x:Int),(y:Int)))=(cells w h).filter fun c=>p c.1.toNat c.2.toNat:=by
 unfold cells
 rw [List.filter_flatMap]
 congr 1
 funext x
 rw [List.filter_map]
 rfl
theorem zFF{i:Nat}{ga:Rho->Option D}{ρ:Rho}{ds es:List D}(h1:ρ[i]?=some (.own ds))(h2:ga ρ=some (.list es))(h3:ds.length+es.length<=1000):sExt i ga ρ=some (.nx (ρ.set i (.own (ds++es)))):=by
 unfold sExt
 rw [h1]
 show(ga ρ).bind _=_
 rw [h2]
 show(if ds.length+es.length<=1000 then _ else _)=_
 rw [if_pos h3]
theorem zFM{α:Type}(f:Nat->List α):∀(l:List Nat) (acc:List α),l.foldl (fun a x=>a++f x) acc=acc++l.flatMap f
 | [],acc=>by simp
 | x::l,acc=>by rw [Q5,zFM f l,List.flatMap_cons,Q9]
theorem zFO{α:Type}(f:Nat->List α)(g:Nat->Sl):∀(l:List Nat) (acc:List α) (s:Sl),l.foldl (fun(b:List α × Sl) x=>(b.1++f x,g x)) (acc,s)=(l.foldl (fun a x=>a++f x) acc,l.foldl (fun _ x=>g x) s)
 | [],acc,s=>rfl
 | x::l,acc,s=>by rw [Q5,Q5,Q5];exact zFO f g l _ _
def zGD(q:Int):Int:=if q=0 then 2 else if q=1 then 3 else if q=2 then 3 else if q=3 then 5 else 9
theorem zPs(q:Int)(h0:0<=q)(h1:q<5):dIx (.list [.int 2,.int 3,.int 3,.int 5,.int 9]) (.int q)=some (.int (zGD q))/\0<zGD q:=by
 obtain⟨n,rfl⟩:=Int.eq_ofNat_of_zero_le h0
 rcases n with _ | _ | _ | _ | _ | n
 ·exact⟨rfl,by decide⟩
 ·exact⟨rfl,by decide⟩
 ·exact⟨rfl,by decide⟩
 ·exact⟨rfl,by decide⟩
 ·exact⟨rfl,by decide⟩
 ·exact absurd h1 (by lia)
theorem zMH(ns:List Int)(hn:ns.length<=63)(at':Int)(m:Nat)(hm:0<m)(hm':m<=5):∃(w h:Nat) (W:C->Bool),zCH [scr ns,.int at',.int m]=some (flD w h W)/\1<=w/\w<=m/\1<=h/\h<=m:=by
 have mp:(0:Int)<m:=Y1.mpr hm
 obtain⟨e1,w0,w1⟩:=zCW ns hn at' m mp
 obtain⟨e2,h0,h1⟩:=zCW ns hn (at'+1) m mp
 obtain⟨e3,q0,q1⟩:=zCW ns hn (at'+2) 5 (by decide)
 obtain⟨e4,r0⟩:=zPs _ q0 q1
 generalize dr ns at' m=dw at *
 generalize dr ns (at'+1) m=dh at *
 generalize zGD (dr ns (at'+2) 5)=rate at *
 have one:∀{x:Int},0<=x->x<m->∃ w:Nat,1+x=w/\1<=w/\w<=m:=fun{x} g1 g2=>⟨(1+x).toNat,by lia,by lia,by lia⟩
 obtain⟨w,hw,w2,w3⟩:=one w0 w1
 obtain⟨h,hh,h2,h3⟩:=one h0 h1
 clear one
 have w5:w<=5:=Ql w3 hm'
 have h5:h<=5:=Ql h3 hm'
 refine⟨w,h,fun c=>dr ns (at'+3+8 * (c.1.toNat:Int)+(c.2.toNat:Int)) rate == 0,?_,w2,w3,h2,h3⟩
 refine zAw ?_
 unfold zFR
 rw [show zAG 8 [scr ns,.int at',.int m]=[.dat (scr ns),.dat (.int at'),.dat (.int m),.no,.no,.no,.no,.no]from rfl]
 refine zAn (zAz (d:=.int (w:Int)) (oo rfl (zAh rfl e1) (by rw [<- hw];rfl))) (zAn (zAz (d:=.int (h:Int)) (oo rfl (zAh rfl e2) (by rw [<- hh];rfl))) (zAn (zAz (oo rfl (zAh rfl e3) e4)) (zAn (ρ':=[.dat (scr ns),.dat (.int at'),.dat (.int m),.dat (.int w),.dat (.int h),.dat (.int rate),.own [],.no]) rfl ?_)))
 obtain⟨f,hf⟩:∃ f:Nat->List C,f=fun(x:Nat)=>((List.range h).filter fun(y:Nat)=>dr ns (at'+3+8 * (x:Int)+(y:Int)) rate == 0).map fun(y:Nat)=>((x:Int),(y:Int)):=⟨_,rfl⟩
 have fl:∀ x,(f x).length<=5:=fun x=>by
  rw [hf,Qj]
  refine Ql (QR _ _) ?_
  rw [Ya];exact h5
 refine zAn (zKg (n:=w) rfl (QX w5 (by decide)) (zC1 (fun(k:Nat)=>.int (k:Int)) (fun(b:List C × Sl)=>[.dat (scr ns),.dat (.int at'),.dat (.int m),.dat (.int w),.dat (.int h),.dat (.int rate),.own (b.1.map zAb),b.2])
  (fun b x=>(b.1++f x,.dat (.int (x:Int)))) (fun i b=>b.1.length<=5 * i) 5 (List.range w) 0 ([],.no) (by rw [Ya,YG];exact w5) (Qh _) fun x hx i b hi hp=>?_)) ?_
 ·obtain⟨acc,s7⟩:=b
  have hp':acc.length<=5 * i:=hp
  have hfx:=fl x
  refine⟨⟨[.dat (scr ns),.dat (.int at'),.dat (.int m),.dat (.int w),.dat (.int h),.dat (.int rate),.own (acc.map zAb),.dat (.int (x:Int))],rfl,?_⟩,by show(acc++f x).length<=5 * (i+1);rw [Qp];lia⟩
  refine(zFF (ds:=acc.map zAb) (es:=(f x).map zAb) rfl ?_ (by rw [Qj,Qj];lia)).trans ?_
  ·have:=zI7 (gi:=zBA (zAc (eV 4) eNil)) (s:=zAm 0) (t:=eB (eOp dEq (zAf zBb (zAc (eV 2) (zAc (eOp zAx (eOp zAx (eOp zAx (eV 4) (eC (.int 3))) (eOp zAy (eC (.int 8)) (eV 1))) (eV 0)) (zAc (eV 3) eNil)))) (eC (.int 0))))
    (ge:=eTup (zAc (eV 1) (zAc (eV 0) eNil))) (inner:=[none,some 7,some 0,some 5,some 1]) (xs:=List.range h) (ρ:=[.dat (scr ns),.dat (.int at'),.dat (.int m),.dat (.int w),.dat (.int h),.dat (.int rate),.own (acc.map zAb),.dat (.int (x:Int))])
    (fun(k:Nat)=>.int (k:Int)) (fun(y:Nat)=>dr ns (at'+3+8 * (x:Int)+(y:Int)) rate == 0) (fun(y:Nat)=>zAb ((x:Int),(y:Int)))
    (fun ρ=>∃ s0,ρ=[s0,.dat (.int (x:Int)),.dat (scr ns),.dat (.int rate),.dat (.int at')]) (zGg (n:=h) rfl (QX h5 (by decide))) (by rw [Ya];exact Ql h5 (by decide)) ⟨.no,rfl⟩ (by
     rintro y hy ρ ⟨s0,rfl⟩
     have e:=(zCW ns hn (at'+3+8 * (x:Int)+(y:Int)) rate r0).1
     have m8:zAy (.int 8) (.int (x:Int))=some (.int (8 * (x:Int))):=zBi (okS (by decide) (by decide))
     exact⟨[.dat (.int (y:Int)),.dat (.int (x:Int)),.dat (scr ns),.dat (.int rate),.dat (.int at')],rfl,⟨_,rfl⟩,oB (oo (zAh (zAB rfl (zAB (oo (oo rfl (oo rfl rfl m8) rfl) rfl rfl) rfl)) e) rfl rfl),fun _=>rfl⟩)
   refine this.trans ?_
   rw [hf,Q7]
   rfl
  ·show some (Out.nx _)=some (Out.nx _)
   rw [Yh]
   rfl
 ·refine zAv ?_
  rw [zFO,zFM]
  have ff:(List.range w).flatMap f=(cells w h).filter fun c=>dr ns (at'+3+8 * (c.1.toNat:Int)+(c.2.toNat:Int)) rate == 0:=by
   rw [hf]
   exact zME w h fun x y=>dr ns (at'+3+8 * (x:Int)+(y:Int)) rate == 0
  rw [JN,ff]
  rfl
end My
namespace My
open PySem PySem.SeqAt L2 DL SD SL EL DC
theorem zEu:∀ l:List C,PyData.canLayAll0 (l.map zAb)=true/\PyData.depthAll (l.map zAb)<=1
 | []=>⟨rfl,QZ _⟩
 | c::l=>by
  obtain⟨h1,h2⟩:=zEu l
  refine⟨by rw [Qm,PyData.canLayAll0,h1];rfl,?_⟩
  rw [Qm,PyData.depthAll]
  exact Nat.max_le.mpr ⟨Qh _,h2⟩
theorem zEW(l:List C):SeqAt.shaped (.list (l.map zAb))=true:=by
 obtain⟨h1,h2⟩:=zEu l
 have:PyData.depth (.list (l.map zAb))<=64:=by show PyData.depthAll (l.map zAb)+1<=64;lia
 simp [SeqAt.shaped,PyData.canLay0,h1,this]
theorem zPM(l:List C):SeqAt.shaped (.tuple (l.map zAb))=true:=by
 obtain⟨h1,h2⟩:=zEu l
 have:PyData.depth (.tuple (l.map zAb))<=64:=by show PyData.depthAll (l.map zAb)+1<=64;lia
 simp [SeqAt.shaped,PyData.canLay0,h1,this]
theorem zGP(c:C):SeqAt.shaped (zAb c)=true:=id rfl
theorem zFC(a b:C):PyData.eqv (zAb a) (zAb b)=(a == b):=by
 show((a.1 == b.1) && ((a.2 == b.2) && true))=_
 rw [Bool.and_true]
 obtain⟨x,y⟩:=a
 obtain⟨u,v⟩:=b
 rfl
theorem zFD:∀ l m:List C,PyData.eqvAll (l.map zAb) (m.map zAb)=decide (l=m)
 | [],[]=>rfl
 | [],_::_=>rfl
 | _::_,[]=>rfl
 | a::l,b::m=>by
  show(PyData.eqv (zAb a) (zAb b) && PyData.eqvAll (l.map zAb) (m.map zAb))=_
  rw [zFD l m,zFC]
  by_cases h1:a=b <;> by_cases h2:l=m <;> simp [h1,h2]
theorem zH2(l m:List C):dEq (.list (l.map zAb)) (.list (m.map zAb))=some (.bool (decide (l=m))):=by
 unfold dEq
 rw [zEW,zEW]
 show some (PyData.bool (PyData.eqvAll (l.map zAb) (m.map zAb)))=_
 rw [zFD]
theorem ne_Ls(l m:List C):dNe (.list (l.map zAb)) (.list (m.map zAb))=some (.bool (!decide (l=m))):=by
 unfold dNe
 rw [zEW,zEW]
 show some (PyData.bool (!PyData.eqvAll (l.map zAb) (m.map zAb)))=_
 rw [zFD]
theorem any_c(l:List C)(c:C):((l.map zAb).any fun y=>PyData.eqv y (zAb c))=l.contains c:=by
 induction l with
 | nil=>rfl
 | cons a l ih=>rw [Qm,Jq,ih,zFC,List.contains_cons,Bool.beq_comm]
theorem in_T(neg:Bool)(c:C)(l:List C):dIn neg (zAb c) (.tuple (l.map zAb))=some (.bool (if neg then !l.contains c else l.contains c)):=by
 show(if(SeqAt.shaped (zAb c) && SeqAt.shaped (.tuple (l.map zAb)))=true then _ else _)=_
 rw [zGP,zPM,Bool.and_self,if_pos rfl,any_c]
def sol(w h:Nat)(W:C->Bool)(c:C):Bool:=inR w h c && W c
theorem zGa(w h:Nat)(W:C->Bool)(c:C):((cells w h).filter W).contains c=sol w h W c:=by
 rw [Yu,Yj,QB,zBt]
 unfold sol
 rw [QH]
theorem in_W(neg:Bool)(c:C)(w h:Nat)(W:C->Bool):dIn neg (zAb c) (zAT w h W)=some (.bool (if neg then !sol w h W c else sol w h W c)):=by
 unfold zAT
 rw [in_T,zGa]
theorem zK6(i:Int):zCM [.int i]=some (.bool true):=zAw (zAv rfl)
theorem zLQ(c:C):zDq [zAb c]=some (.bool true):=zAw (zAn (zBk rfl) (zAv (oAV (zAh rfl (zK6 c.1)) (zAh rfl (zK6 c.2)))))
theorem zLI(w h:Nat)(W:C->Bool)(c:C):zDn [flD w h W,zAb c]=some (.bool (inR w h c)):=by
 refine zAw (zAn (zBk (oN (oB (zAh rfl (zLQ c))))) (zAv ?_))
 show((if decide (0<=c.1)=true then some (PyData.bool (decide (c.1<w)))else some (.bool false)).bind fun x=>(asB x).bind fun k=>if k=true then(if decide (0<=c.2)=true then some (PyData.bool (decide (c.2<h)))else some (.bool false))else some (.bool false))=_
 unfold inR
 cases decide (0<=c.1) <;> cases decide (c.1<w) <;> cases decide (0<=c.2) <;> cases decide (c.2<h) <;> rfl
theorem zGF{w h:Nat}{W:C->Bool}{c:C}(hc:inR w h c=true):zBO [flD w h W,zAb c]=some .none:=by
 have q:=zLI w h W c
 rw [hc]at q
 exact zFK (zBk (oN (oB (zAh rfl q))))
theorem zPT{w h:Nat}{W:C->Bool}{c:C}(hc:inR w h c=true):zDp [flD w h W,zAb c]=some (.bool (W c)):=by
 have q:=in_W false c w h W
 unfold sol at q
 rw [hc,JI]at q
 exact zAw (zAn (zBZ (zAh rfl (zGF hc))) (zAv (oo rfl rfl q)))
theorem zGw{w h:Nat}{W:C->Bool}{c:C}(hc:inR w h c=true)(ho:W c=false):zBx [flD w h W,zAb c]=some .none:=by
 have q:=zPT (W:=W) hc
 rw [ho]at q
 exact zFK (zBk (oB (zAh rfl q)))
end My
namespace My
open PySem PySem.SeqAt L2 DL SD SL EL DC
theorem zPq(w h:Nat)(hh:0<h):((List.range (w * h)).map fun(i:Nat)=>(((i / h:Nat):Int),((i % h:Nat):Int)))=cells w h:=by
 refine zD3 ?_ (zBM w h) fun c=>?_
 ·unfold Up
  rw [Q1]
  refine List.pairwise_lt_range.imp fun{a b} q=>?_
  rw [zBX]
  dsimp only
  have h1:a / h<=b / h:=Nat.div_le_div_right (YA q)
  rcases Nat.lt_or_eq_of_le h1 with h2 | h2
  ·exact .inl (Y1.mpr h2)
  ·right
   have ea:=Nat.div_add_mod a h
   have eb:=Nat.div_add_mod b h
   rw [h2]at ea
   exact⟨by rw [h2],Y1.mpr (by lia)⟩
 ·rw [zBt,zBK,QJ]
  constructor
  ·rintro⟨i,hi,rfl⟩
   have:=QE.mp hi
   have h1:i / h<w:=(Nat.div_lt_iff_lt_mul hh).mpr this
   have h2:i % h<h:=Nat.mod_lt _ hh
   exact⟨Y3 _,Y1.mpr h1,Y3 _,Y1.mpr h2⟩
  ·rintro⟨q1,q2,q3,q4⟩
   refine⟨c.1.toNat * h+c.2.toNat,QE.mpr ?_,?_⟩
   ·have this:c.1.toNat+1<=w:=(Int.toNat_lt q1).mpr q2
    have h3:=Nat.mul_le_mul_right h this
    rw [Nat.succ_mul]at h3
    exact Qz (Nat.add_lt_add_left ((Int.toNat_lt q3).mpr q4) _) h3
   ·have h2:c.2.toNat<h:=(Int.toNat_lt q3).mpr q4
    have d:(c.1.toNat * h+c.2.toNat) / h=c.1.toNat:=by
     rw [JE,Nat.mul_add_div hh,Nat.div_eq_of_lt h2,Nat.add_zero]
    have m:(c.1.toNat * h+c.2.toNat) % h=c.2.toNat:=by
     rw [JE,Nat.mul_add_mod,Nat.mod_eq_of_lt h2]
    rw [d,m]
    exact YW (YY q1) (YY q3)
theorem zNr{w h:Nat}{W:C->Bool}(hw:w<=5)(hh:0<h)(hh':h<=5):zDe [flD w h W]=some (.list ((cells w h).map zAb)):=by
 have hwh:w * h<=25:=Ys hw hh'
 have m:zAy (.int w) (.int h)=some (.int ((w * h:Nat):Int)):=by rw [zBi (okS (Int.lt_of_lt_of_le (by decide) (Y3 _)) (Int.lt_of_le_of_lt (Int.ofNat_le.mpr hw) (by decide)))];rfl
 refine zAw (zAv (zAP (xs:=List.range (w * h)) (fun(k:Nat)=>.int (k:Int)) (fun _=>true) (fun(i:Nat)=>zAb (((i / h:Nat):Int),((i % h:Nat):Int))) (fun ρ=>∃ s0,ρ=[s0,.dat (flD w h W)]) (zGg (n:=w * h) ?_ (QX hwh (by decide))) (by rw [Ya];exact Ql hwh (by decide)) ⟨_,rfl⟩ ?_ ?_))
 ·exact zAB (oo rfl rfl m) rfl
 ·rintro i _ ρ ⟨s0,rfl⟩
  have d:zBo (.int (i:Int)) (.int h)=some (.int ((i / h:Nat):Int)):=by rw [zEn (okD (Y1.mpr hh) (Int.lt_of_le_of_lt (Int.ofNat_le.mpr hh') (by decide)))];rfl
  have q:dMod (.int (i:Int)) (.int h)=some (.int ((i % h:Nat):Int)):=by rw [zB9 (Y1.mpr hh)];rfl
  exact⟨[.dat (.int (i:Int)),.dat (flD w h W)],rfl,⟨_,rfl⟩,rfl,fun _=>oT2 (oo rfl rfl d) (oo rfl rfl q)⟩
 ·rw [zBJ,<- zPq w h hh,Q7]
  rfl
theorem zLc{w h:Nat}{W:C->Bool}(hw:w<=5)(hh':h<=5):zDf [flD w h W]=some (.list ((cells w h).map zAb)):=by
 obtain⟨f,hf⟩:∃ f:Nat->List C,f=fun(x:Nat)=>(List.range h).map fun(y:Nat)=>((x:Int),(y:Int)):=⟨_,rfl⟩
 refine zAw ?_
 unfold zFS
 rw [show zAG 3 [flD w h W]=[.dat (flD w h W),.no,.no]from rfl]
 refine zAn (ρ':=[.dat (flD w h W),.own [],.no]) rfl ?_
 refine zAn (zKg (n:=w) rfl (QX hw (by decide)) (zC1 (fun(k:Nat)=>.int (k:Int)) (fun(b:List C × Sl)=>[.dat (flD w h W),.own (b.1.map zAb),b.2])
  (fun b x=>(b.1++f x,.dat (.int (x:Int)))) (fun i b=>b.1.length<=5 * i) 5 (List.range w) 0 ([],.no) (by rw [Ya,YG];exact hw) (Qh _) fun x hx i b hi hp=>?_)) ?_
 ·obtain⟨acc,s7⟩:=b
  have hp':acc.length<=5 * i:=hp
  have hfx:(f x).length<=5:=by rw [hf,Qj,Ya];exact hh'
  refine⟨⟨[.dat (flD w h W),.own (acc.map zAb),.dat (.int (x:Int))],rfl,?_⟩,by show(acc++f x).length<=5 * (i+1);rw [Qp];exact Nat.add_le_add hp' hfx⟩
  refine(zFF (ds:=acc.map zAb) (es:=(f x).map zAb) rfl (zAP (xs:=List.range h) (fun(k:Nat)=>.int (k:Int)) (fun _=>true) (fun(y:Nat)=>zAb ((x:Int),(y:Int))) (fun ρ=>∃ s0,ρ=[s0,.dat (.int (x:Int))]) (zGg (n:=h) rfl (QX hh' (by decide))) (by rw [Ya];exact Ql hh' (by decide)) ⟨.no,rfl⟩ ?_ ?_) (by rw [Qj,Qj];lia)).trans ?_
  ·rintro y hy ρ ⟨s0,rfl⟩
   exact⟨[.dat (.int (y:Int)),.dat (.int (x:Int))],rfl,⟨_,rfl⟩,rfl,fun _=>rfl⟩
  ·rw [zBJ,hf,Q7]
   rfl
  ·show some (Out.nx _)=some (Out.nx _)
   rw [Yh]
   rfl
 ·refine zAv ?_
  rw [zFO,zFM,JN,hf]
  rfl
theorem zGJ:∀ l:List C,zC8 (l.map zAb)=some (l.map row)
 | []=>rfl
 | c::l=>by
  show(zBB [.int c.1,.int c.2]).bind (fun is=>(zC8 (l.map zAb)).bind fun rs=>some (is::rs))=_
  rw [zGJ l]
  rfl
theorem zCC{a b:C}(q:row a=row b):a=b:=by
 unfold row at q
 injection q with q1 q2
 injection q2 with q2 _
 exact YW q1 q2
theorem zOg{l:List C}(h:l.Nodup):(l.map row).Nodup:=by
 rw [List.Nodup,Q1]
 exact h.imp fun{a b} q r=>q (zCC r)
theorem zMQ(l:List C)(c:C):(l.map row).contains (row c)=l.contains c:=by
 rw [Yu,Yj,Yj,QJ]
 constructor
 ·rintro⟨d,hd,e⟩;rw [<- zCC e];exact hd
 ·intro h;exact⟨c,h,rfl⟩
theorem zGv{w h:Nat}{W:C->Bool}(hw:w<=5)(hh':h<=5):zBE [flD w h W]=some (.list (((cells w h).filter fun c => !W c).map zAb)):=by
 have hwh:(cells w h).length<=25:=by rw [zBF];exact Ys hw hh'
 have lf:=QR W (cells w h)
 have lg:=QR (fun c => !W c) (cells w h)
 have s1:setD [.list ((cells w h).map zAb)]=some ((cells w h).map row):=by
  show(if _ then _ else _)=_
  rw [if_pos (by rw [Qj];lia),zGJ]
 have s2:setD [zAT w h W]=some (((cells w h).filter W).map row):=by
  show(if _ then _ else _)=_
  rw [if_pos (by rw [Qj];lia),zGJ]
 have fe:((cells w h).map row).filter (fun k => !(((cells w h).filter W).map row).contains k)=((cells w h).filter fun c => !W c).map row:=by
  rw [List.filter_map]
  congr 1
  refine Ju fun c hc=>?_
  show(!(((cells w h).filter W).map row).contains (row c))=_
  rw [zMQ,zGa]
  unfold sol
  rw [zBt.mp hc,JI]
 have up:=zBv (zBM w h) fun c => !W c
 refine zAw (zAv ?_)
 unfold zFA zFz eSet
 rw [zAB (zAh rfl (zLc (W:=W) hw hh')) rfl,Qr,s1,Qr,show zAc (eOp dIx (eV 0) (eC (.int 2))) eNil (List.map frz (zAG 1 [flD w h W]))=some [zAT w h W]from rfl,Qr,s2,Qr]
 rw [if_pos (by rw [Qj];lia),Qr,fe,zHK _ (zOg (zBN up)),zGK]
 exact zKG (zBN up) (by lia) up fun c=>Iff.rfl
def mkD(l:List C):D:=.dict (l.map fun c=>(zAb c,.bool true))
theorem zEi(c:C):decT (zAb c)=some (row c):=id rfl
theorem zIM(l:List C)(c:C):hasD (l.map fun c=>(zAb c,PyData.bool true)) (row c)=l.contains c:=by
 unfold hasD
 rw [List.any_map]
 induction l with
 | nil=>rfl
 | cons a l ih=>
  rw [Jq,ih,List.contains_cons]
  congr 1
  show(decT (zAb a) == some (row c))=_
  rw [zEi,Yu,beq_iff_eq,beq_iff_eq]
  constructor
  ·intro q;exact(zCC (QF q)).symm
  ·intro q;rw [q]
theorem zMF(l:List C):zA4 (l.map fun c=>(zAb c,PyData.bool true))=true:=by
 unfold zA4
 rw [List.all_map,QG]
 intro c _
 rfl
theorem zIQ(neg:Bool)(c:C)(l:List C):dIn2 neg (zAb c) (mkD l)=some (.bool (if neg then !l.contains c else l.contains c)):=by
 show(decT (zAb c)).bind (fun k=>if zA4 (l.map fun c=>(zAb c,PyData.bool true))=true then some (PyData.bool (if neg then !hasD (l.map fun c=>(zAb c,PyData.bool true)) k else hasD (l.map fun c=>(zAb c,PyData.bool true)) k))else none)=_
 rw [zEi,Qr,zMF,if_pos rfl,zIM]
theorem zJO:∀ l:List C,zCd (l.map fun c=>PyData.tuple [zAb c,.bool true])=some (l.map fun c=>(row c,.bool true))
 | []=>rfl
 | c::l=>by
  show(zDV (.tuple [zAb c,.bool true])).bind (fun p=>(zCd (l.map fun c=>PyData.tuple [zAb c,.bool true])).bind fun ps=>some (p::ps))=_
  rw [zJO l]
  rfl
theorem zPh(l:List C)(c:C)(h:c∉l):putD (l.map fun c=>(zAb c,PyData.bool true)) (row c) (.bool true)=(l++[c]).map fun c=>(zAb c,PyData.bool true):=by
 unfold putD
 rw [zIM,if_neg (by rw [Yj];exact h),Yh]
 rfl
theorem zHS:∀(l acc:List C),(acc++l).Nodup->(l.map fun c=>(row c,PyData.bool true)).foldl (fun kvs p=>putD kvs p.1 p.2) (acc.map fun c=>(zAb c,PyData.bool true))=(acc++l).map fun c=>(zAb c,PyData.bool true)
 | [],acc,_=>by rw [Yk];rfl
 | c::l,acc,h=>by
  have hc:c∉acc:=by
   rw [List.nodup_append]at h
   exact fun q=>h.2.2 c q c Qe rfl
  rw [Qm,Q5]
  show(l.map _).foldl _ (putD _ (row c) (.bool true))=_
  rw [zPh acc c hc,zHS l (acc++[c]) (by rw [Q9];exact h),Q9]
  rfl
theorem zJm{l:List C}{d:D}(hd:seqD d=some (l.map zAb))(hl:l.length<=1000)(hn:l.Nodup):zAR [d]=some (mkD l):=by
 refine zAw (zAv (zAh (ds:=[.list (l.map fun c=>PyData.tuple [zAb c,.bool true])]) ?_ ?_))
 ·have lc:=zAP (gi:=iSeq (eV 0)) (s:=zAm 0) (t:=eT) (ge:=eTup (zAc (eV 0) (zAc (eC (.bool true)) eNil))) (inner:=[none]) (ρ:=(zAG 1 [d]).map frz) (xs:=l) zAb (fun _=>true) (fun c=>PyData.tuple [zAb c,.bool true]) (fun ρ=>∃ s0,ρ=[s0]) (zAO rfl hd) hl ⟨_,rfl⟩ (by
   rintro c _ ρ ⟨s0,rfl⟩
   exact⟨[.dat (zAb c)],rfl,⟨_,rfl⟩,rfl,fun _=>rfl⟩) (by rw [zBJ])
  exact zAB lc rfl
 ·show(if _ then _ else _)=_
  rw [if_pos (by rw [Qj];exact hl),zJO,Qr]
  have:=zHS l [] (by simpa using hn)
  rw [JN]at this
  unfold zCV mkD
  rw [<- this]
  rfl
theorem zED{w h:Nat}{W:C->Bool}(hw:w<=5)(hh':h<=5):zAR [zAT w h W]=some (mkD ((cells w h).filter W)):=by
 have hwh:(cells w h).length<=25:=by rw [zBF];exact Ys hw hh'
 have lf:=QR W (cells w h)
 exact zJm rfl (by lia) (zBN (zBv (zBM w h) W))
def solD(w h:Nat)(W:C->Bool):D:=mkD ((cells w h).filter W)
theorem zIR(neg:Bool)(c:C)(w h:Nat)(W:C->Bool):dIn2 neg (zAb c) (solD w h W)=some (.bool (if neg then !sol w h W c else sol w h W c)):=by
 unfold solD
 rw [zIQ,zGa]
end My
namespace My
open PySem PySem.SeqAt L2 DL SD SL EL DC
structure WS where
 gx:Int
 gy:Int
 cs:List C
 s9:Sl
 s10:Sl
def envC(a b:C)(fx fy wx wy:Int)(s:WS):Rho:=[.dat (zAb a),.dat (zAb b),.dat (.int fx),.dat (.int fy),.dat (.int wx),.dat (.int wy),.dat (.int s.gx),.dat (.int s.gy),.own (s.cs.map zAb),s.s9,s.s10]
def zEb(fx fy:Int)(s:WS):Bool:=decide (s.gx<fx) || decide (s.gy<fy)
def nxX(fx fy:Int)(s:WS):Int:=if(2 * s.gx+1) * fy<=(2 * s.gy+1) * fx then s.gx+1 else s.gx
def nxY(fx fy:Int)(s:WS):Int:=if(2 * s.gy+1) * fx<=(2 * s.gx+1) * fy then s.gy+1 else s.gy
def zE5(a:C)(fx fy wx wy:Int)(s:WS):WS:=⟨nxX fx fy s,nxY fx fy s,s.cs++[(a.1+wx * nxX fx fy s,a.2+wy * nxY fx fy s)],.dat (.int ((2 * s.gx+1) * fy)),.dat (.int ((2 * s.gy+1) * fx))⟩
theorem zIY(a:C)(fx fy wx wy:Int):∀(n:Nat) (s:WS) (st:List C),zFe fx fy n s.gx s.gy=some st->∃ s',zBg (zEb fx fy) (zE5 a fx fy wx wy) n s=some s'/\s'.cs=s.cs++st.map fun g=>(a.1+wx * g.1,a.2+wy * g.2)
 | 0,_,_,h=>by cases h
 | n+1,s,st,h=>by
  unfold zFe at h
  unfold zBg
  by_cases c:s.gx<fx ∨ s.gy<fy
  ·rw [if_pos c]at h
   obtain⟨r,e,h⟩:=bnd h
   cases h
   rw [if_pos (by unfold zEb;rw [Bool.or_eq_true,decide_eq_true_eq,decide_eq_true_eq];exact c)]
   obtain⟨s',e1,e2⟩:=zIY a fx fy wx wy n (zE5 a fx fy wx wy s) r e
   refine⟨s',e1,?_⟩
   rw [e2]
   show(s.cs++[_])++_=_
   rw [Q9]
   rfl
  ·rw [if_neg c]at h
   cases h
   rw [if_neg (by unfold zEb;rw [Bool.or_eq_true,decide_eq_true_eq,decide_eq_true_eq];exact c)]
   exact⟨s,rfl,by simp⟩
theorem zLS{a b:C}(n:Near a b):zDi [zAb a,zAb b]=some (.list ((line a b).map zAb)):=by
 have O:=n.ok
 obtain⟨st,e,h⟩:=bnd O.some
 have sg:∀ x,-100<sgn x/\sgn x<100:=fun x=>by unfold sgn;split <;> decide
 have sa:=sg (b.1-a.1)
 have sb:=sg (b.2-a.2)
 clear sg
 obtain⟨n1,n2,n3,n4⟩:=n
 have ab:∀ x,-4<=x->x<=4->0<=iabs x/\iabs x<100:=fun x h h2=>by unfold iabs;split <;> lia
 have ia:=ab _ n1 n2
 have ib:=ab _ n3 n4
 clear ab
 have hlen:st.length<=8:=by
  have:=O.len
  rw [<- QF h,QL,Qj]at this
  lia
 have ii:∀ x y:Int,(if decide (x<y)=true then some (PyData.int 1)else some (.int (-1)))=some (.int (sgn (y-x))):=fun x y=>by
  unfold sgn
  by_cases c:x<y
  ·rw [if_pos (decide_eq_true c),if_pos (by lia)]
  ·rw [if_neg (by simpa using c),if_neg (by lia)]
 have i1:=ii a.1 b.1
 have i2:=ii a.2 b.2
 clear ii
 obtain⟨s',it,cs'⟩:=zIY a (iabs (b.1-a.1)) (iabs (b.2-a.2)) (sgn (b.1-a.1)) (sgn (b.2-a.2)) 900 ⟨0,0,[a],.no,.no⟩ st e
 have hline:line a b=s'.cs:=by
  rw [cs']
  unfold line
  rw [<- QF h,Qm,Q7]
  show _::_=_::_
  congr 1
  exact YW (by show a.1+0=a.1;lia) (by show a.2+0=a.2;lia)
 rw [hline]
 refine zAw ?_
 unfold zFX
 refine zAn (zAz (d:=.int (iabs (b.1-a.1))) rfl) (zAn (zAz (d:=.int (iabs (b.2-a.2))) rfl) (zAn (zAz i1) (zAn (zAz i2) (zAn (zAz rfl) (zAn (zAz rfl) (zAn (ρ':=envC a b (iabs (b.1-a.1)) (iabs (b.2-a.2)) (sgn (b.1-a.1)) (sgn (b.2-a.2)) ⟨0,0,[a],.no,.no⟩) rfl ?_))))))
 generalize iabs (b.1-a.1)=fx at *
 generalize iabs (b.2-a.2)=fy at *
 generalize sgn (b.1-a.1)=wx at *
 generalize sgn (b.2-a.2)=wy at *
 clear i1 i2
 have mS:∀ k,-100<k/\k<100->∀ i:Int,zAy (.int k) (.int i)=some (.int (k * i)):=fun k h i=>zBi (okS (by lia) (by lia))
 have mT:∀ k,0<=k/\k<100->∀ i:Int,zAy (.int i) (.int k)=some (.int (i * k)):=fun k h i=>zBi (okT (by lia) (by lia))
 refine zAn (zD4 (envC a b fx fy wx wy) (zEb fx fy) (zE5 a fx fy wx wy) (fun n s=>s.cs.length+n<=901) (fun n s hp=>?_) (fun n s hp hc=>⟨?_,?_⟩) 900 ⟨0,0,[a],.no,.no⟩ s' (by show 1+900<=901;decide) it) (zAv rfl)
 ·show(if decide (s.gx<fx)=true then some true else some (decide (s.gy<fy)))=some (decide (s.gx<fx) || decide (s.gy<fy))
  cases decide (s.gx<fx) <;> rfl
 ·have hl:(s.cs.map zAb).length<1000:=by rw [Qj];lia
  refine zAn (zAz (oo (oo (oo rfl rfl (mS 2 (by decide) s.gx)) rfl rfl) rfl (mT fy ib _))) (zAn (zAz (oo (oo (oo rfl rfl (mS 2 (by decide) s.gy)) rfl rfl) rfl (mT fx ia _))) ?_)
  refine zAn (ρ':=[.dat (zAb a),.dat (zAb b),.dat (.int fx),.dat (.int fy),.dat (.int wx),.dat (.int wy),.dat (.int (nxX fx fy s)),.dat (.int s.gy),.own (s.cs.map zAb),.dat (.int ((2 * s.gx+1) * fy)),.dat (.int ((2 * s.gy+1) * fx))]) ?_ ?_
  ·unfold nxX
   by_cases c:(2 * s.gx+1) * fy<=(2 * s.gy+1) * fx
   ·rw [if_pos c]
    exact zCe (b:=true) (congrArg some (decide_eq_true c)) (fun _=>rfl) fun z=>by cases z
   ·rw [if_neg c]
    exact zBk (congrArg some (decide_eq_false c))
  refine zAn (ρ':=[.dat (zAb a),.dat (zAb b),.dat (.int fx),.dat (.int fy),.dat (.int wx),.dat (.int wy),.dat (.int (nxX fx fy s)),.dat (.int (nxY fx fy s)),.own (s.cs.map zAb),.dat (.int ((2 * s.gx+1) * fy)),.dat (.int ((2 * s.gy+1) * fx))]) ?_ ?_
  ·unfold nxY
   by_cases c:(2 * s.gy+1) * fx<=(2 * s.gx+1) * fy
   ·rw [if_pos c]
    exact zCe (b:=true) (congrArg some (decide_eq_true c)) (fun _=>rfl) fun z=>by cases z
   ·rw [if_neg c]
    exact zBk (congrArg some (decide_eq_false c))
  refine(zKe (ds:=s.cs.map zAb) (d:=zAb (a.1+wx * nxX fx fy s,a.2+wy * nxY fx fy s)) rfl ?_ hl).trans ?_
  ·unfold eTup
   rw [zAB (oo rfl (oo rfl rfl (mS wx sa _)) rfl) (zAB (oo rfl (oo rfl rfl (mS wy sb _)) rfl) rfl)]
   rfl
  ·unfold envC zE5
   rw [Yh]
   rfl
 ·show(s.cs++[_]).length+n<=901
  rw [Qp,Yd]
  lia
end My
namespace My
open PySem PySem.SeqAt L2 DL SD SL EL DC
abbrev Cp:=C × C
def cpD(p:Cp):D:=.tuple [zAb p.1,zAb p.2]
def two(p q:C):Cp:=if ltC q p=true then(q,p)else(p,q)
def pinC(p:Cp):Cp:=two (p.1.1,p.2.2) (p.2.1,p.1.2)
def prs(l:List C):List Cp:=((l.zip l.tail).filter fun p=>diag p.1 p.2).map pinC
theorem zQn(S:C->Bool)(p q:C):(S (two p q).1 && S (two p q).2)=(S p && S q):=by
 unfold two
 split
 ·exact JJ _ _
 ·rfl
theorem zJ3(S:C->Bool):∀ l:List C,(prs l).all (fun p => !(S p.1 && S p.2))=zA6 S l
 | []=>rfl
 | [a]=>rfl
 | a::b::l=>by
  have ih:=zJ3 S (b::l)
  unfold prs at ih ⊢
  rw [zEM]
  show((((a,b)::(b::l).zip (b::l).tail).filter fun p=>diag p.1 p.2).map pinC).all _=_
  rw [List.filter_cons]
  dsimp only
  cases diag a b with
  | true=>
   rw [if_pos rfl,Qm,List.all_cons,ih]
   congr 1
   show(!(S (two (a.1,b.2) (b.1,a.2)).1 && S (two (a.1,b.2) (b.1,a.2)).2))=_
   rw [zQn]
   rfl
  | false=>rw [if_neg Qu,ih];rfl
theorem zPY(p q:C):zBQ [.list [zAb p,zAb q]]=some (.list [zAb (two p q).1,zAb (two p q).2]):=by
 have:=zD2 (l:=[row p,row q]) (by intro k hk;rcases Qi.mp hk with rfl | hk;rfl;rcases Qi.mp hk with rfl | hk;rfl;cases hk) (by show 2<=63;decide)
 refine this.trans ?_
 show some (PyData.list ((if HT.lexLt (row q) (row p)=true then [row q,row p]else [row p,row q]).map tupI))=_
 unfold two ltC
 split <;> rfl
theorem zK7:∀ l m:List C,List.zipWith (fun x y=>PyData.tuple [x,y]) (l.map zAb) (m.map zAb)=(l.zip m).map cpD
 | [],_=>rfl
 | _::_,[]=>rfl
 | a::l,b::m=>by rw [Qm,Qm,List.zipWith_cons_cons,zK7 l m];rfl
theorem zLV(l:List C):cutD (l.map zAb) (some 1) none=l.tail.map zAb:=by
 cases l with
 | nil=>rfl
 | cons a l=>
  unfold DL.cutD
  have e1:HT.sIx ((a::l).map zAb).length 0 (some 1)=1:=by
   have:=HT.sIx_nat ((a::l).map zAb).length 0 1
   rw [show((1:Nat):Int)=1 from rfl]at this
   rw [this,Qj,QL]
   lia
  rw [e1,HT.sIx_none]
  simp
  exact Jp (by simp)
theorem zHI(l:List C):cutD (l.map zAb) none (some (-1))=l.dropLast.map zAb:=by
 unfold DL.cutD
 rw [HT.sIx_none]
 have e1:HT.sIx (l.map zAb).length (l.map zAb).length (some (-1))=l.length-1:=by
  unfold HT.sIx
  simp
  lia
 rw [e1,List.drop_zero,Nat.sub_zero,List.dropLast_eq_take,List.map_take]
theorem zLl(l:List C)(hl:l.length<=500):zCL [.list (l.map zAb)]=some (.list ((prs l).map cpD)):=by
 have hz:(l.zip l.tail).length<=500:=by rw [List.length_zip];lia
 refine zAw ?_
 unfold zFW
 rw [show zAG 4 [.list (l.map zAb)]=[.dat (.list (l.map zAb)),.no,.no,.no]from rfl]
 refine zAn (ρ':=[.dat (.list (l.map zAb)),.own [],.no,.no]) rfl ?_
 have it:iZip (zAc (eV 0) (zAc (eSl2 (eV 0) (oE (eC (.int 1))) oNo) eNil)) [.dat (.list (l.map zAb)),.own [],.no,.no]=some ((l.zip l.tail).map cpD):=by
  show some (List.zipWith (fun x y=>PyData.tuple [x,y]) (l.map zAb) (cutD (l.map zAb) (some 1) none))=_
  rw [zLV,zK7]
 refine zAn (zBL it (zC1 cpD (fun(b:List Cp × Sl × Sl)=>[.dat (.list (l.map zAb)),.own (b.1.map cpD),b.2.1,b.2.2]) (fun b p=>(if diag p.1 p.2=true then b.1++[pinC p]else b.1,.dat (zAb p.1),.dat (zAb p.2))) (fun i b=>b.1.length<=i) 500 (l.zip l.tail) 0 ([],.no,.no) (by lia) (Qh _) fun p _ i b hi hp=>?_)) ?_
 ·obtain⟨acc,s2,s3⟩:=b
  have hp':acc.length<=i:=hp
  have hlt:(acc.map cpD).length<1000:=by rw [Qj];lia
  refine⟨⟨[.dat (.list (l.map zAb)),.own (acc.map cpD),.dat (zAb p.1),.dat (zAb p.2)],rfl,?_⟩,?_⟩
  ·have t:eAnd (eB (eOp dNe (eOp dIx (eV 2) (eC (.int 0))) (eOp dIx (eV 3) (eC (.int 0))))) (eB (eOp dNe (eOp dIx (eV 2) (eC (.int 1))) (eOp dIx (eV 3) (eC (.int 1))))) [.dat (.list (l.map zAb)),.dat (.list (acc.map cpD)),.dat (zAb p.1),.dat (zAb p.2)]=some (diag p.1 p.2):=by
    show(if(!(p.1.1 == p.2.1))=true then some (!(p.1.2 == p.2.2))else some false)=some (!(p.1.1 == p.2.1) && !(p.1.2 == p.2.2))
    cases p.1.1 == p.2.1 <;> rfl
   dsimp only
   cases q:diag p.1 p.2 with
   | true=>
    rw [q]at t
    refine(zCe (b:=true) t (fun _=>zKe (ds:=acc.map cpD) (d:=cpD (pinC p)) rfl (zAh (zAB (zAh rfl (zPY (p.1.1,p.2.2) (p.2.1,p.1.2))) rfl) rfl) hlt) fun z=>by cases z).trans ?_
    rw [if_pos rfl,Yh]
    rfl
   | false=>
    rw [q]at t
    exact zBk t
  ·show(if diag p.1 p.2=true then acc++[pinC p]else acc).length<=i+1
   split
   ·rw [Qp,Yd];lia
   ·lia
 ·have fold:∀(zs:List Cp) (b:List Cp × Sl × Sl),(zs.foldl (fun(b:List Cp × Sl × Sl) p=>(if diag p.1 p.2=true then b.1++[pinC p]else b.1,Sl.dat (zAb p.1),Sl.dat (zAb p.2))) b).1=b.1++(zs.filter fun p=>diag p.1 p.2).map pinC:=by
   intro zs
   induction zs with
   | nil=>intro b;simp
   | cons z zs ih=>
    intro b
    rw [Q5,ih,List.filter_cons]
    dsimp only
    cases diag z.1 z.2 with
    | true=>rw [if_pos rfl,if_pos rfl,Qm,Q9];rfl
    | false=>rw [if_neg Qu,if_neg Qu]
  refine zAv ?_
  show some (PyData.list (((l.zip l.tail).foldl (fun(b:List Cp × Sl × Sl) p=>(if diag p.1 p.2=true then b.1++[pinC p]else b.1,Sl.dat (zAb p.1),Sl.dat (zAb p.2))) ([],.no,.no)).1.map cpD))=_
  rw [fold]
  rfl
theorem zKs{w h:Nat}{W:C->Bool}{a b:C}(n:Near a b):zCj [solD w h W,zAb a,zAb b]=some (.bool (clear (sol w h W) a b)):=by
 have ll:(line a b).length<=9:=by unfold line;rw [Qj];exact n.ok.len
 have ld:(line a b).dropLast.length<=9:=by rw [List.length_dropLast];lia
 refine zAw ?_
 unfold zF0
 rw [show zAG 7 [solD w h W,zAb a,zAb b]=[.dat (solD w h W),.dat (zAb a),.dat (zAb b),.no,.no,.no,.no]from rfl]
 refine zAn (zAz (zAh rfl (zLS n))) ?_
 have is:∀ c,dIn2 false (zAb c) (solD w h W)=some (.bool (sol w h W c)):=fun c=>zIR false c w h W
 have l1:=zFP (s:=zAm 4) (g:=sIf (eB (eOp (dIn2 false) (eV 4) (eV 0))) (sRet (eC (.bool false))) zAL) zAb (fun ρ=>∃ s4,ρ=[.dat (solD w h W),.dat (zAb a),.dat (zAb b),.dat (.list ((line a b).map zAb)),s4,.no,.no]) (sol w h W) (.bool false) (line a b).dropLast [.dat (solD w h W),.dat (zAb a),.dat (zAb b),.dat (.list ((line a b).map zAb)),.no,.no,.no] ⟨_,rfl⟩ (by
  rintro c _ ρ ⟨s4,rfl⟩
  refine⟨[.dat (solD w h W),.dat (zAb a),.dat (zAb b),.dat (.list ((line a b).map zAb)),.dat (zAb c),.no,.no],rfl,?_⟩
  cases q:sol w h W c with
  | true=>rw [if_pos rfl];exact zCe (b:=true) (oB (oo rfl rfl (by rw [is,q]))) (fun _=>rfl) fun z=>by cases z
  | false=>rw [if_neg Qu];exact⟨_,zBk (oB (oo rfl rfl (by rw [is,q]))),⟨_,rfl⟩⟩)
 have i1:iSeq (eSl2 (eV 3) oNo (oE (eUn dNeg (eC (.int 1))))) [.dat (solD w h W),.dat (zAb a),.dat (zAb b),.dat (.list ((line a b).map zAb)),.no,.no,.no]=some ((line a b).dropLast.map zAb):=by
  show some (cutD ((line a b).map zAb) none (some (-1)))=_
  rw [zHI]
 unfold clear
 by_cases c1:(line a b).dropLast.any (sol w h W)=true
 ·rw [if_pos c1]at l1
  refine(zER (zBL i1 l1)).trans ?_
  have:(line a b).dropLast.all (fun c => !sol w h W c)=false:=by
   rw [Jl]
   simp only [Bool.not_not]
   rw [c1];rfl
  rw [this]
  rfl
 ·rw [if_neg c1]at l1
  obtain⟨ρ',e1,s4,rfl⟩:=l1
  refine zAn (zBL i1 e1) ?_
  have a1:(line a b).dropLast.all (fun c => !sol w h W c)=true:=by
   rw [Jl]
   simp only [Bool.not_not]
   rw [Bool.not_eq_true]at c1
   rw [c1];rfl
  rw [a1,JI,<- zJ3]
  have l2:=zFP (s:=uTup 2 (zAH (zAm 5) (zAH (zAm 6) uNil))) (g:=sIf (eAnd (eB (eOp (dIn2 false) (eV 5) (eV 0))) (eB (eOp (dIn2 false) (eV 6) (eV 0)))) (sRet (eC (.bool false))) zAL) cpD (fun ρ=>∃ s5 s6,ρ=[.dat (solD w h W),.dat (zAb a),.dat (zAb b),.dat (.list ((line a b).map zAb)),s4,s5,s6]) (fun p=>sol w h W p.1 && sol w h W p.2) (.bool false) (prs (line a b)) [.dat (solD w h W),.dat (zAb a),.dat (zAb b),.dat (.list ((line a b).map zAb)),s4,.no,.no] ⟨_,_,rfl⟩ (by
   rintro p _ ρ ⟨s5,s6,rfl⟩
   refine⟨[.dat (solD w h W),.dat (zAb a),.dat (zAb b),.dat (.list ((line a b).map zAb)),s4,.dat (zAb p.1),.dat (zAb p.2)],rfl,?_⟩
   cases q1:sol w h W p.1 <;> cases q2:sol w h W p.2
   ·exact⟨_,zBk (oA0 (oB (oo rfl rfl (by rw [is,q1])))),⟨_,_,rfl⟩⟩
   ·exact⟨_,zBk (oA0 (oB (oo rfl rfl (by rw [is,q1])))),⟨_,_,rfl⟩⟩
   ·exact⟨_,zBk (oA1 (oB (oo rfl rfl (by rw [is,q1]))) (oB (oo rfl rfl (by rw [is,q2])))),⟨_,_,rfl⟩⟩
   ·show sIf _ _ _ _=_
    exact zCe (b:=true) (oA1 (oB (oo rfl rfl (by rw [is,q1]))) (oB (oo rfl rfl (by rw [is,q2])))) (fun _=>rfl) fun z=>by cases z)
  have i2:iSeq (zAf zCL (zAc (eV 3) eNil)) [.dat (solD w h W),.dat (zAb a),.dat (zAb b),.dat (.list ((line a b).map zAb)),s4,.no,.no]=some ((prs (line a b)).map cpD):=
   zAO (zAh rfl (zLl _ (by lia))) rfl
  by_cases c2:(prs (line a b)).any (fun p=>sol w h W p.1 && sol w h W p.2)=true
  ·rw [if_pos c2]at l2
   refine(zER (zBL i2 l2)).trans ?_
   have:(prs (line a b)).all (fun p => !(sol w h W p.1 && sol w h W p.2))=false:=by
    rw [Jl]
    simp only [Bool.not_not]
    rw [c2];rfl
   rw [this]
  ·rw [if_neg c2]at l2
   obtain⟨ρ',e2,s5,s6,rfl⟩:=l2
   refine zAn (zBL i2 e2) ?_
   have:(prs (line a b)).all (fun p => !(sol w h W p.1 && sol w h W p.2))=true:=by
    rw [Jl]
    simp only [Bool.not_not]
    rw [Bool.not_eq_true]at c2
    rw [c2];rfl
   rw [this]
   exact zAv rfl
theorem zDP{w h:Nat}(hw:w<=5)(hh:h<=5){a b:C}(ha:inR w h a=true)(hb:inR w h b=true):Near a b:=by
 obtain⟨a1,a2,a3,a4⟩:=zBK.mp ha
 obtain⟨b1,b2,b3,b4⟩:=zBK.mp hb
 have d:∀{n:Nat}{x y:Int},n<=5->0<=x->x<n->0<=y->y<n->-4<=y-x/\y-x<=4:=fun h1 h2 h3 h4 h5=>by lia
 have p:=d hw a1 a2 b1 b2
 have q:=d hh a3 a4 b3 b4
 exact⟨p.1,p.2,q.1,q.2⟩
section
variable {w h:Nat}{W:C->Bool}(hw:w<=5)(hh:h<=5)
include hw hh
theorem zE2{c:C}(hc:inR w h c=true):sol w h W c=W c:=by unfold sol;rw [hc,JI]
theorem zMA{a:C}(ha:inR w h a=true)(ho:W a=false):zCh [flD w h W,zAb a]=some (.list (((cells w h).filter fun b=>seeB (sol w h W) a b).map zAb)):=by
 have m:zAR [zAT w h W]=some (solD w h W):=zED hw hh
 refine zAw ?_
 unfold zFZ
 rw [show zAG 3 [flD w h W,zAb a]=[.dat (flD w h W),.dat (zAb a),.no]from rfl]
 refine zAn (zBZ (zAh rfl (zGw ha ho))) (zAn (zAz (zAh rfl m)) ?_)
 refine zAv (zAP (xs:=(cells w h).filter fun c => !W c) zAb (fun b=>clear (sol w h W) a b) zAb (fun ρ=>∃ s0,ρ=[s0,.dat (solD w h W),.dat (zAb a)]) (zAO (zAh rfl (zGv hw hh)) rfl) (Ql (QR _ _) (by rw [zBF];exact Ql (Ys hw hh) (by decide))) ⟨_,rfl⟩ ?_ ?_)
 ·rintro b hb ρ ⟨s0,rfl⟩
  have e:=zKs (w:=w) (h:=h) (W:=W) (zDP hw hh ha (zBt.mp (QB.mp hb).1))
  exact⟨[.dat (zAb b),.dat (solD w h W),.dat (zAb a)],rfl,⟨_,rfl⟩,oB (zAh rfl e),fun _=>rfl⟩
 ·rw [List.filter_filter]
  congr 1
  refine Ju fun b hb=>?_
  unfold seeB
  rw [zE2 hw hh (zBt.mp hb),JJ]
theorem zHZ{a b:C}(ha:inR w h a=true)(hb:inR w h b=true):zCo [solD w h W,zAb a,zAb b]=some (.bool (seeB (sol w h W) a b)):=by
 have e:=zKs (w:=w) (h:=h) (W:=W) (zDP hw hh ha hb)
 have i:=zIR true b w h W
 unfold seeB
 cases q:sol w h W b with
 | true=>rw [q]at i;exact zAw (zAv (oAV0 (oo rfl rfl i)))
 | false=>rw [q]at i;exact zAw (zAv (oAV (oo rfl rfl i) (zAh rfl e)))
end
end My
namespace My
open PySem PySem.SeqAt L2 DL SD SL EL DC
theorem ne_c(a b:C):dNe (zAb a) (zAb b)=some (.bool (!(a == b))):=by
 unfold dNe
 rw [zGP,zGP,zFC]
 rfl
theorem zGX{w h:Nat}(hw:w<=5)(hh:h<=5)(W:C->Bool):((cells w h).filter W).length<=25:=
 Ql (QR _ _) (by rw [zBF];exact Ys hw hh)
theorem zE7{ga gb:Rho->Option D}{ρ:Rho}{l m:List C}(h1:ga ρ=some (.list (l.map zAb)))(h2:gb ρ=some (.list (m.map zAb)))(e:l=m):eB (eOp dNe ga gb) ρ=some false:=by
 subst e
 simp only [ap_B,ap_op,h1,h2,O_bs,ne_Ls,decide_true,YQ,asB_b]
theorem zDY{t:Rho->Option Bool}{g1:Rho->Option Out}{ρ:Rho}(h:t (ρ.map frz)=some false):sIf t g1 zAL ρ=some (.nx ρ):=by
 unfold sIf
 rw [h]
 rfl
def Nx(g:Rho->Option Out)(ρ:Rho)(I:Rho->Prop):Prop:=∃ ρ2,g ρ=some (.nx ρ2)/\I ρ2
section
variable {g g1 g2 rest:Rho->Option Out}{ρ ρ':Rho}{I:Rho->Prop}{t:Rho->Option Bool}
theorem zJG(h:t (ρ.map frz)=some false)(i:I ρ):Nx (sIf t g1 zAL) ρ I:=⟨ρ,zDY h,i⟩
theorem zKf{α:Type}{gi:Rho->Option (List D)}{s:D->Rho->Option Rho}{r:Option Out}(item:α->D)(J:Rho->Prop)(xs:List α)(hi:gi ρ=some (xs.map item))(h0:J ρ)
  (h:∀ a∈xs,∀ ρ,J ρ->∃ ρ1,s (item a) ρ=some ρ1/\Nx g ρ1 J) (hr:∀ ρ',J ρ'->rest ρ'=r):sSeq (sFor gi s g) rest ρ=r:=by
 obtain⟨ρ',e,i⟩:=zEo item J xs ρ h0 fun a ha ρ hρ=>by
  obtain⟨ρ1,e1,ρ2,e2,i2⟩:=h a ha ρ hρ
  exact⟨ρ1,ρ2,e1,e2,i2⟩
 exact zAn (zBL hi e) (hr ρ' i)
end
theorem zFG{p:C->Bool}{l:List C}(h:∀ c∈l,p c=false):l.filter p=[]:=by
 rw [List.filter_eq_nil_iff]
 intro c hc
 rw [h c hc]
 exact Qu
theorem zEC(ρ:Rho):eLst eNil ρ=some (.list (([]:List C).map zAb)):=rfl
theorem zEc{ga:Rho->Option D}{ρ:Rho}{d:D}(h:ga ρ=some d):zAc ga eNil ρ=some [d]:=by
 unfold zAc
 rw [h]
 rfl
end My
namespace My
open PySem PySem.SeqAt L2 DL SD SL EL DC
def opn(w h:Nat)(W:C->Bool):List C:=(cells w h).filter fun c => !W c
theorem zA8{w h:Nat}{W:C->Bool}{c:C}:c∈opn w h W ↔ inR w h c=true/\W c=false:=by
 unfold opn
 rw [QB,zBt,Bool.not_eq_true']
theorem zFc(w h:Nat)(W:C->Bool):Up (opn w h W):=zBv (zBM w h) _
theorem zEJ{w h:Nat}(hw:w<=5)(hh:h<=5)(W:C->Bool):(opn w h W).length<=25:=
 Ql (QR _ _) (by rw [zBF];exact Ys hw hh)
theorem zJj{w h:Nat}{W:C->Bool}(hw:w<=5)(h0:0<h)(hh:h<=5):zCJ [flD w h W]=some (.list ((opn w h W).map zAb)):=by
 refine zAw (zAv (zAP (xs:=cells w h) zAb (fun c => !sol w h W c) zAb (fun ρ=>∃ s0,ρ=[s0,.dat (flD w h W)]) (zAO (zAh rfl (zNr hw h0 hh)) rfl) (by rw [zBF];exact Ql (Ys hw hh) (by decide)) ⟨_,rfl⟩ ?_ ?_))
 ·rintro c _ ρ ⟨s0,rfl⟩
  exact⟨[.dat (zAb c),.dat (flD w h W)],rfl,⟨_,rfl⟩,oB (oo rfl rfl (in_W true c w h W)),fun _=>rfl⟩
 ·unfold opn
  congr 1
  refine Ju fun c hc=>?_
  rw [zE2 hw hh (zBt.mp hc)]
def fdD(l:List C)(f:C->D):List (D × D):=l.map fun c=>(zAb c,f c)
theorem zI0(a c:C):(decT (zAb a) == some (row c))=(a == c):=by
 rw [zEi,Yu,beq_iff_eq,beq_iff_eq]
 exact⟨fun q=>zCC (QF q),fun q=>by rw [q]⟩
theorem zMP(l:List C)(f:C->D)(c:C):hasD (fdD l f) (row c)=l.contains c:=by
 unfold hasD fdD
 rw [List.any_map]
 induction l with
 | nil=>rfl
 | cons a l ih=>
  rw [Jq,ih,List.contains_cons]
  congr 1
  show(decT (zAb a) == some (row c))=_
  rw [zI0,Yu,beq_iff_eq,beq_iff_eq]
  exact⟨Eq.symm,Eq.symm⟩
theorem zMD(l:List C)(f:C->D):zA4 (fdD l f)=true:=by
 unfold zA4 fdD
 rw [List.all_map,QG]
 intro c _
 rfl
theorem zMK{l:List C}(f:C->D){c:C}(h:c∈l):getD (fdD l f) (row c)=some (f c):=by
 unfold getD fdD
 induction l with
 | nil=>cases h
 | cons a l ih=>
  rw [Qm,YV,zI0]
  by_cases e:a=c
  ·subst e;simp
  ·rw [beq_eq_false_iff_ne.mpr e]
   exact ih ((Qi.mp h).resolve_left fun z=>e z.symm)
theorem zJN(f:C->D):∀ l:List C,zCd (l.map fun c=>PyData.tuple [zAb c,f c])=some (l.map fun c=>(row c,f c))
 | []=>rfl
 | c::l=>by
  show(zDV (.tuple [zAb c,f c])).bind (fun p=>(zCd (l.map fun c=>PyData.tuple [zAb c,f c])).bind fun ps=>some (p::ps))=_
  rw [zJN f l]
  rfl
theorem zPi(l:List C)(f:C->D)(c:C)(h:c∉l):putD (fdD l f) (row c) (f c)=fdD (l++[c]) f:=by
 unfold putD
 rw [zMP,if_neg (by rw [Yj];exact h)]
 unfold fdD
 rw [Yh]
 rfl
theorem zHR(f:C->D):∀(l acc:List C),(acc++l).Nodup->(l.map fun c=>(row c,f c)).foldl (fun kvs p=>putD kvs p.1 p.2) (fdD acc f)=fdD (acc++l) f
 | [],acc,_=>by rw [Yk];rfl
 | c::l,acc,h=>by
  have hc:c∉acc:=by
   rw [List.nodup_append]at h
   exact fun q=>h.2.2 c q c Qe rfl
  rw [Qm,Q5]
  show(l.map _).foldl _ (putD _ (row c) (f c))=_
  rw [zPi acc f c hc,zHR f l (acc++[c]) (by rw [Q9];exact h),Q9]
  rfl
theorem zNj(l:List C)(f:C->D):seqK (.dict (fdD l f))=some (l.map zAb):=by
 show(if((fdD l f).all fun e=>isTp e.1)=true then some ((fdD l f).map (·.1))else none)=_
 unfold fdD
 rw [if_pos (by rw [List.all_map,QG];intro c _;rfl),Q7]
 rfl
theorem ix_ct{l:List C}(f:C->D){c:C}(h:c∈l):dIx2 (.dict (fdD l f)) (zAb c)=some (f c):=by
 show((decT (zAb c)).bind fun k=>if zA4 (fdD l f)=true then getD (fdD l f) k else none)=_
 rw [zEi,Qr,zMD,if_pos rfl,zMK f h]
theorem zM2{ga:Rho->Option D}{ρ:Rho}{d:D}{l:List D}(h1:ga ρ=some d)(h2:seqK d=some l):iKey ga ρ=some l:=by
 unfold iKey
 rw [h1]
 exact h2
section
variable (fld:C->List C)
end
end My
namespace My
open PySem PySem.SeqAt L2 DL SD SL EL DC
theorem zLU(l:List C)(k:Nat):cutD (l.map zAb) (some ((k:Nat):Int)) none=(l.drop k).map zAb:=by
 unfold cutD
 rw [HT.sIx_nat,HT.sIx_none,Qj]
 by_cases c:k<=l.length
 ·rw [Nat.min_eq_left c,List.map_drop]
  exact Jp (by simp)
 ·rw [Jz (by lia),List.drop_eq_nil_of_le (show l.length<=k by lia)]
  simp
end My
namespace My
open PySem PySem.SeqAt L2 DL SD SL EL DC
theorem zHo(l m:List C)(h:l.length+m.length<=1000):zAx (.list (l.map zAb)) (.list (m.map zAb))=some (.list ((l++m).map zAb)):=by
 show(if(l.map zAb).length+(m.map zAb).length<=1000 then some (PyData.list (l.map zAb++m.map zAb))else none)=_
 rw [if_pos (by rw [Qj,Qj];exact h),Yh]
section
variable {w h:Nat}{W:C->Bool}(hw:w<=5)(hh:h<=5)
include hw hh
theorem zKq{a b:C}(ha:a∈opn w h W)(hb:b∈opn w h W):seeB (sol w h W) a b=clear (sol w h W) a b:=by
 unfold seeB
 rw [zE2 hw hh (zA8.mp hb).1,(zA8.mp hb).2]
 rfl
theorem zKr{a:C}(ha:a∈opn w h W):seeB (sol w h W) a a=true:=by
 rw [zKq hw hh ha ha]
 unfold clear line
 rw [Int.sub_self,Int.sub_self,show relT 0 0=[(0,0)] by decide +kernel]
 rfl
end
end My
namespace My
theorem zJl{a b c:C}(h1:ltC a b=true)(h2:ltC b c=true):ltC a c=true:=by
 rw [zBX]at *
 lia
theorem zJk(a:C):ltC a a=false:=by
 cases q:ltC a a with
 | false=>rfl
 | true=>rw [zBX]at q;lia
theorem zEH(l:List C):l=[] ∨ ∃ d b,l=d++[b]:=by
 rcases List.eq_nil_or_concat l with h | ⟨d,b,h⟩
 ·exact .inl h
 ·exact .inr ⟨d,b,by rw [h,List.concat_eq_append]⟩
def okC(ch:List C)(c:C):Bool:=match ch.getLast? with
 | none=>true
 | some l=>ltC l c
theorem zGr(l:List C)(a:C):okC (l++[a])=ltC a:=by
 funext c
 unfold okC
 rw [List.getLast?_concat]
def more(O:List C)(L:List (List C)):List (List C):=L.flatMap fun ch=>(O.filter (okC ch)).map fun c=>ch++[c]
theorem zFd{l:List C}{c:C}:Up (l++[c]) ↔ Up l/\okC l c=true:=by
 unfold Up
 rw [Jc]
 rcases zEH l with rfl | ⟨d,b,rfl⟩
 ·simp [okC]
 ·rw [zGr]
  constructor
  ·rintro⟨h1,_,h3⟩
   exact⟨h1,h3 b (by simp) c (by simp)⟩
  ·rintro⟨h1,h2⟩
   refine⟨h1,List.pairwise_singleton _ _,fun x hx y hy=>?_⟩
   rw [Qv.mp hy]
   rcases QC.mp hx with hx | hx
   ·exact zJl ((Jc.mp h1).2.2 x hx b (by simp)) h2
   ·rw [Qv.mp hx];exact h2
theorem zGn{O:List C}{L:List (List C)}{ch:List C}:ch∈more O L ↔ ∃ d c,ch=d++[c]/\d∈L/\c∈O/\okC d c=true:=by
 unfold more
 rw [List.mem_flatMap]
 constructor
 ·rintro⟨d,hd,hc⟩
  obtain⟨c,hc',rfl⟩:=QJ.mp hc
  obtain⟨c1,c2⟩:=QB.mp hc'
  exact⟨d,c,rfl,hd,c1,c2⟩
 ·rintro⟨d,c,rfl,hd,c1,c2⟩
  exact⟨d,hd,QJ.mpr ⟨c,QB.mpr ⟨c1,c2⟩,rfl⟩⟩
def chs(O:List C):Nat->List (List C)
 | 0=>[[]]
 | k+1=>more O (chs O k)
theorem zC5{O:List C}:∀{k:Nat}{ch:List C},ch∈chs O k ↔ ch.length=k/\Up ch/\∀ c∈ch,c∈O
 | 0,ch=>by
  show ch∈[[]] ↔ _
  rw [Qv]
  constructor
  ·rintro rfl;exact⟨rfl,List.Pairwise.nil,fun c hc=>by cases hc⟩
  ·rintro⟨h,_⟩;exact Yy h
 | k+1,ch=>by
  show ch∈more O (chs O k) ↔ _
  rw [zGn]
  constructor
  ·rintro⟨d,c,rfl,hd,c1,c2⟩
   obtain⟨a1,a2,a3⟩:=zC5.mp hd
   refine⟨by rw [Qp,a1];rfl,zFd.mpr ⟨a2,c2⟩,fun x hx=>?_⟩
   rcases QC.mp hx with hx | hx
   ·exact a3 x hx
   ·rw [Qv.mp hx];exact c1
  ·rintro⟨h1,h2,h3⟩
   rcases zEH ch with rfl | ⟨d,c,rfl⟩
   ·cases h1
   ·obtain⟨u1,u2⟩:=zFd.mp h2
    rw [Qp,Yd]at h1
    exact⟨d,c,rfl,zC5.mpr ⟨by lia,u1,fun x hx=>h3 x (QO _ hx)⟩,h3 c (by simp),u2⟩
def wt(O ch:List C):Nat:=2 ^ (O.filter (okC ch)).length
def sm(O:List C)(L:List (List C)):Nat:=(L.map (wt O)).sum
theorem zK0:∀{P:List C},Up P->(P.map fun c=>2 ^ (P.filter (ltC c)).length).sum<=2 ^ P.length
 | [],_=>by decide
 | p::P,h=>by
  obtain⟨h1,h2⟩:=Yc.mp h
  have ih:=zK0 h2
  have e1:(p::P).filter (ltC p)=P:=by
   rw [List.filter_cons_of_neg (by rw [zJk];exact Qu)]
   exact List.filter_eq_self.mpr h1
  have e2:(P.map fun c=>2 ^ ((p::P).filter (ltC c)).length)=P.map fun c=>2 ^ (P.filter (ltC c)).length:=by
   refine JH fun c hc=>?_
   rw [List.filter_cons_of_neg]
   have:=h1 c hc
   intro z
   rw [zBX]at *
   lia
  rw [Qm,Jr,e1,e2,QL,Nat.pow_succ]
  lia
theorem zQv{O:List C}(hO:Up O)(ch:List C):(((O.filter (okC ch)).map fun c=>ch++[c]).map (wt O)).sum<=wt O ch:=by
 obtain⟨P,hP⟩:∃ P,P=O.filter (okC ch):=⟨_,rfl⟩
 have uP:Up P:=by rw [hP];exact zBv hO _
 have e:((O.filter (okC ch)).map fun c=>ch++[c]).map (wt O)=P.map fun c=>2 ^ (P.filter (ltC c)).length:=by
  rw [Q7,<- hP]
  refine JH fun c hc=>?_
  show 2 ^ (O.filter (okC (ch++[c]))).length=_
  rw [zGr,hP,List.filter_filter]
  congr 2
  refine Ju fun x _=>?_
  rw [hP]at hc
  have q:=(QB.mp hc).2
  cases z:ltC c x with
  | false=>rfl
  | true=>
   have:okC ch x=true:=by
    unfold okC at q ⊢
    cases g:ch.getLast? with
    | none=>rfl
    | some l=>rw [g]at q;exact zJl q z
   rw [this];rfl
 rw [e]
 unfold wt
 rw [<- hP]
 exact zK0 uP
theorem zE1{O:List C}(hO:Up O):∀ L:List (List C),sm O (more O L)<=sm O L
 | []=>Qh _
 | ch::L=>by
  have ih:=zE1 hO L
  have h1:=zQv hO ch
  unfold sm more at *
  rw [List.flatMap_cons,Yh,List.sum_append,Qm,Jr]
  lia
theorem zGi(O:List C):∀ L:List (List C),L.length<=sm O L
 | []=>Qh _
 | ch::L=>by
  have ih:=zGi O L
  have:0<wt O ch:=Nat.pow_pos (by decide)
  unfold sm at *
  rw [Qm,Jr,QL]
  lia
theorem zKC(O:List C)(p:List C->Bool):∀ L:List (List C),sm O (L.filter p)<=sm O L
 | []=>Qh _
 | ch::L=>by
  have ih:=zKC O p L
  unfold sm at *
  rw [List.filter_cons]
  split
  ·rw [Qm,Jr,Qm,Jr];lia
  ·rw [Qm,Jr];lia
theorem sm_0(O:List C):sm O [[]]=2 ^ O.length:=by
 show 2 ^ (O.filter fun _=>true).length+0=_
 rw [zBJ]
 rfl
theorem zKB{O:List C}(hO:Up O):∀ k,sm O (chs O k)<=2 ^ O.length
 | 0=>Nat.le_of_eq (sm_0 O)
 | k+1=>Ql (zE1 hO _) (zKB hO k)
theorem zFb{O ch:List C}(hO:Up O)(u:Up ch)(s:∀ c∈ch,c∈O):ch.length<=O.length:=by
 have:ch=O.filter fun c=>ch.contains c:=zD3 u (zBv hO _) fun c=>by
  rw [QB,Yj]
  exact⟨fun q=>⟨s c q,q⟩,fun q=>q.2⟩
 rw [this]
 exact QR _ _
theorem zKE{l:List C}(hn:l.Nodup):∃ m:List C,Up m/\m.length=l.length/\∀ c,c∈m ↔ c∈l:=by
 obtain⟨m,e,u,s⟩:=zKD hn
 refine⟨m,u,?_,s⟩
 have:=(zE3 (l.map row)).length_eq
 rw [e,Qj,Qj]at this
 exact this
section
variable (S:C->C->Bool)
def dom(O ch:List C):Bool:=O.all fun c=>ch.any fun p=>S p c
structure Few(O P:List C):Prop where
 up:Up P
 sub:∀ c∈P,c∈O
 dom:dom S O P=true
 min:∀ ch,Up ch->(∀ c∈ch,c∈O)->My.dom S O ch=true->P.length<=ch.length
def Ind(ch:List C):Prop:=∀ a∈ch,∀ b∈ch,a≠b->S a b=false
structure Mst(O F:List C):Prop where
 up:Up F
 sub:∀ c∈F,c∈O
 ind:Ind S F
 max:∀ ch,Up ch->(∀ c∈ch,c∈O)->Ind S ch->ch.length<=F.length
end
structure Sym(S:C->C->Bool)(O:List C):Prop where
 self:∀ a∈O,S a a=true
 comm:∀ a∈O,∀ b∈O,S a b=S b a
theorem zNI{S:C->C->Bool}{O F:List C}(y:Sym S O)(m:Mst S O F):dom S O F=true:=by
 unfold dom
 rw [QG]
 intro c hc
 cases q:F.any fun p=>S p c with
 | true=>rfl
 | false=>
  rw [List.any_eq_false]at q
  have nf:c∉F:=fun z=>q c z (y.self c hc)
  obtain⟨ch,u,l,s⟩:=zKE (l:=c::F) (Yl.mpr ⟨nf,zBN m.up⟩)
  have:=m.max ch u (fun x hx=>by
   rcases Qi.mp ((s x).mp hx)with rfl | hx
   ·exact hc
   ·exact m.sub x hx) (fun a ha b hb ne=>by
   rcases Qi.mp ((s a).mp ha)with rfl | ha
   ·rcases Qi.mp ((s b).mp hb)with rfl | hb
    ·exact absurd rfl ne
    ·rw [y.comm _ hc b (m.sub b hb)]
     exact Jv.mpr (q b hb)
   ·rcases Qi.mp ((s b).mp hb)with rfl | hb
    ·exact Jv.mpr (q a ha)
    ·exact m.ind a ha b hb ne)
  rw [l,QL]at this
  lia
theorem zMy{S:C->C->Bool}{O P:List C}(f:Few S O P){p:C}(hp:p∈P):dom S O (P.filter fun c => !(c == p))=false:=by
 cases q:dom S O (P.filter fun c => !(c == p))with
 | false=>rfl
 | true=>
  have:=f.min _ (zBv f.up _) (fun c hc=>f.sub c (QB.mp hc).1) q
  have lt:=(List.length_filter_lt_length_iff_exists (l:=P) (p:=fun c => !(c == p))).mpr ⟨p,hp,by simp⟩
  lia
section
variable {S S':C->C->Bool}{O O':List C}{f:C->C}(ff:∀ c,f (f c)=c)(hO:∀ c,c∈O' ↔ f c∈O)(hS:∀ a∈O,∀ b∈O,S' (f a) (f b)=S a b)
include ff hO hS
end
theorem zEw{p:Nat->Prop}:∀ n,p n->∃ k,k<=n/\p k/\∀ j,j<k->¬ p j:=by
 intro n
 induction n using Nat.strongRecOn with
 | ind n ih=>
  intro h
  by_cases q:∃ j,j<n/\p j
  ·obtain⟨j,h1,h2⟩:=q
   obtain⟨k,k1,k2,k3⟩:=ih j h1 h2
   exact⟨k,by lia,k2,k3⟩
  ·exact⟨n,Qh _,h,fun j hj z=>q ⟨j,hj,z⟩⟩
theorem zGh{cond:Nat->Bool}:∀(k n a:Nat),(∀ j,j<k->cond (a+j)=true)->cond (a+k)=false->k<n->zBg cond (·+1) n a=some (a+k)
 | _,0,_,_,_,h=>absurd h (Yt _)
 | 0,n+1,a,_,h2,_=>by
  unfold zBg
  rw [Nat.add_zero]at h2 ⊢
  rw [h2]
  rfl
 | k+1,n+1,a,h1,h2,h3=>by
  unfold zBg
  have:=h1 0 (by lia)
  rw [Nat.add_zero]at this
  rw [if_pos this,zGh k n (a+1) (fun j hj=>by have:=h1 (j+1) (by lia);rw [show a+1+j=a+(j+1) by lia];exact this) (by rw [show a+1+k=a+(k+1) by lia];exact h2) (by lia)]
  rw [show a+1+k=a+(k+1) by lia]
theorem zMz{S:C->C->Bool}{O:List C}(hO:Up O)(y:Sym S O):∃ k P r,k<=O.length/\(∀ j,j<k->(chs O j).filter (dom S O)=[])/\(chs O k).filter (dom S O)=P::r/\Few S O P:=by
 have dO:dom S O O=true:=by
  unfold dom
  rw [QG]
  exact fun c hc=>JD.mpr ⟨c,hc,y.self c hc⟩
 obtain⟨k,k1,k2,k3⟩:=zEw (p:=fun k=>(chs O k).filter (dom S O)≠[]) O.length (fun z=>by
  have:O∈(chs O O.length).filter (dom S O):=QB.mpr ⟨zC5.mpr ⟨rfl,hO,fun c hc=>hc⟩,dO⟩
  rw [z]at this
  cases this)
 obtain⟨P,r,e⟩:=List.exists_cons_of_ne_nil k2
 have m:P∈(chs O k).filter (dom S O):=by rw [e];exact Qe
 obtain⟨m1,m2⟩:=QB.mp m
 obtain⟨a1,a2,a3⟩:=zC5.mp m1
 refine⟨k,P,r,k1,fun j hj=>Classical.not_not.mp (k3 j hj),e,a2,a3,m2,fun ch u s d=>?_⟩
 rw [a1]
 refine Y2 fun z=>k3 _ z fun q=>?_
 have:ch∈(chs O ch.length).filter (dom S O):=QB.mpr ⟨zC5.mpr ⟨rfl,u,s⟩,d⟩
 rw [q]at this
 cases this
section
variable (S:C->C->Bool)
def zCw(ch:List C):Bool:=match ch.getLast? with
 | none=>true
 | some l => !(ch.dropLast.any fun c=>S l c)
theorem zI5(d:List C)(c:C):zCw S (d++[c]) = !(d.any fun x=>S c x):=by
 unfold zCw
 rw [List.getLast?_concat,List.dropLast_concat]
def aps(O:List C):Nat->List (List C)
 | 0=>[[]]
 | k+1=>(more O (aps O k)).filter (zCw S)
theorem zKA{O:List C}(hO:Up O):∀ k,sm O (aps S O k)<=2 ^ O.length
 | 0=>Nat.le_of_eq (sm_0 O)
 | k+1=>Ql (zKC O _ _) (Ql (zE1 hO _) (zKA hO k))
variable {S}
theorem zIS{O d:List C}{c:C}(y:Sym S O)(s:∀ x∈d,x∈O)(hc:c∈O)(u:Up (d++[c])):Ind S (d++[c]) ↔ Ind S d/\zCw S (d++[c])=true:=by
 rw [zI5,Bool.not_eq_true',List.any_eq_false]
 have nc:c∉d:=fun z=>by
  have:=(Jc.mp u).2.2 c z c (by simp)
  rw [zJk]at this;cases this
 constructor
 ·intro h
  refine⟨fun a ha b hb=>h a (QO _ ha) b (QO _ hb),fun x hx=>?_⟩
  rw [h c (by simp) x (QO _ hx) (fun z=>nc (by rw [z];exact hx))]
  exact Qu
 ·rintro⟨h1,h2⟩ a ha b hb ne
  rcases QC.mp ha with ha | ha
  ·rcases QC.mp hb with hb | hb
   ·exact h1 a ha b hb ne
   ·rw [Qv.mp hb,y.comm a (s a ha) c hc]
    exact Jv.mpr (h2 a ha)
  ·rw [Qv.mp ha]at ne ⊢
   rcases QC.mp hb with hb | hb
   ·exact Jv.mpr (h2 b hb)
   ·exact absurd (Qv.mp hb).symm ne
theorem zC4{O:List C}(y:Sym S O):∀{k:Nat}{ch:List C},ch∈aps S O k ↔ ch.length=k/\Up ch/\(∀ c∈ch,c∈O)/\Ind S ch
 | 0,ch=>by
  show ch∈[[]] ↔ _
  rw [Qv]
  constructor
  ·rintro rfl;exact⟨rfl,List.Pairwise.nil,(fun c hc=>by cases hc),fun a ha=>by cases ha⟩
  ·rintro⟨h,_⟩;exact Yy h
 | k+1,ch=>by
  show ch∈(more O (aps S O k)).filter (zCw S) ↔ _
  rw [QB,zGn]
  constructor
  ·rintro⟨⟨d,c,rfl,hd,c1,c2⟩,lo⟩
   obtain⟨a1,a2,a3,a4⟩:=(zC4 y).mp hd
   have u:=zFd.mpr ⟨a2,c2⟩
   refine⟨by rw [Qp,a1];rfl,u,fun x hx=>?_,(zIS y a3 c1 u).mpr ⟨a4,lo⟩⟩
   rcases QC.mp hx with hx | hx
   ·exact a3 x hx
   ·rw [Qv.mp hx];exact c1
  ·rintro⟨h1,h2,h3,h4⟩
   rcases zEH ch with rfl | ⟨d,c,rfl⟩
   ·cases h1
   ·obtain⟨u1,u2⟩:=zFd.mp h2
    have sd:∀ x∈d,x∈O:=fun x hx=>h3 x (QO _ hx)
    obtain⟨i1,i2⟩:=(zIS y sd (h3 c (by simp)) h2).mp h4
    rw [Qp,Yd]at h1
    exact⟨⟨d,c,rfl,(zC4 y).mpr ⟨by lia,u1,sd,i1⟩,h3 c (by simp),u2⟩,i2⟩
theorem zNJ{O:List C}(hO:Up O)(y:Sym S O):∃ k F r,k<=O.length/\(∀ j,j<k+1->aps S O j≠[])/\aps S O (k+1)=[]/\aps S O k=F::r/\Mst S O F:=by
 obtain⟨k,k1,k2,k3⟩:=zEw (p:=fun k=>aps S O k=[]) (O.length+1) (by
  rw [List.eq_nil_iff_forall_not_mem]
  intro ch hc
  obtain⟨a1,a2,a3,_⟩:=(zC4 y).mp hc
  have:=zFb hO a2 a3
  lia)
 cases k with
 | zero=>cases k2
 | succ k=>
  obtain⟨F,r,e⟩:=List.exists_cons_of_ne_nil (k3 k (by lia))
  obtain⟨a1,a2,a3,a4⟩:=(zC4 y).mp (show F∈aps S O k by rw [e];exact Qe)
  refine⟨k,F,r,by lia,k3,k2,e,a2,a3,a4,fun ch u s i=>?_⟩
  rw [a1]
  refine Y2 fun z=>?_
  have t:ch.take (k+1)∈aps S O (k+1):=(zC4 y).mpr ⟨by rw [QV];lia,u.sublist (List.take_sublist _ _),fun c hc=>s c (Jx hc),fun a ha b hb=>i a (Jx ha) b (Jx hb)⟩
  rw [k2]at t
  cases t
end
end My
namespace My
open PySem PySem.SeqAt L2 DL SD SL EL DC TB TX
section
variable {w h:Nat}{W:C->Bool}(hw:w<=5)(hh:h<=5){c:C}
include hw hh
end
def chD(ch:List C):D:=.list (ch.map zAb)
theorem zFk:∀ bs:List Bool,zB3 (bs.map PyData.bool)=some bs
 | []=>rfl
 | b::bs=>by
  show(zB3 (bs.map PyData.bool)).bind _=_
  rw [zFk bs]
  rfl
theorem zHq(bs:List Bool):dAny [.list (bs.map PyData.bool)]=some (.bool (bs.any id)):=by
 show(zB3 (bs.map PyData.bool)).bind _=_
 rw [zFk]
 rfl
theorem all_D(bs:List Bool):dAll [.list (bs.map PyData.bool)]=some (.bool (bs.all id)):=by
 show(zB3 (bs.map PyData.bool)).bind _=_
 rw [zFk]
 rfl
theorem at_0(x:D)(xs:List D):dIx (.list (x::xs)) (.int 0)=some x:=by
 show L2.atI (x::xs) 0=_
 unfold L2.atI L2.ixN
 rw [if_pos (Int.le_refl 0),if_pos (by rw [QL];lia)]
 rfl
theorem zHs(d:List C)(b:C):dIx (.list ((d++[b]).map zAb)) (.int (-1))=some (zAb b):=by
 show L2.atI ((d++[b]).map zAb) (-1)=_
 unfold L2.atI L2.ixN
 rw [if_neg (by decide),Qj,Qp,Yd]
 rw [if_pos (by lia)]
 rw [show((-1:Int)+((d.length+1:Nat):Int)).toNat=d.length by lia]
 simp
theorem zI6:∀ L:List (List C),PyData.canLayAll0 (L.map chD)=true/\PyData.depthAll (L.map chD)<=2
 | []=>⟨rfl,by decide⟩
 | ch::L=>by
  obtain⟨h1,h2⟩:=zI6 L
  obtain⟨g1,g2⟩:=zEu ch
  constructor
  ·simp [PyData.canLayAll0,PyData.canLay0,chD,g1,h1]
  ·show Nat.max (PyData.depthAll (ch.map zAb)+1) (PyData.depthAll (L.map chD))<=2
   exact Nat.max_le.mpr ⟨by lia,h2⟩
theorem zKt(L:List (List C)):SeqAt.shaped (.list (L.map chD))=true:=by
 obtain⟨h1,h2⟩:=zI6 L
 have:PyData.depth (.list (L.map chD))<=64:=by
  show PyData.depthAll (L.map chD)+1<=64
  lia
 simp [SeqAt.shaped,PyData.canLay0,h1,this]
theorem zH4(L:List (List C)):PyData.eqv (.list (L.map chD)) (.list [])=L.isEmpty:=by
 cases L <;> rfl
theorem zMr(L:List (List C)):dEq (.list (L.map chD)) (.list [])=some (.bool L.isEmpty):=by
 unfold dEq
 rw [zKt,zH4]
 rfl
theorem zN6(L:List (List C)):dNe (.list (L.map chD)) (.list [])=some (.bool (!L.isEmpty)):=by
 unfold dNe
 rw [zKt,zH4]
 rfl
theorem lt_c(a b:C):dLt2 (zAb a) (zAb b)=some (.bool (ltC a b)):=id rfl
theorem zMI{s:D->Rho->Option Rho}{g:Rho->Option Out}{x:D}{xs:List D}{ρ ρ1 ρ2:Rho}{r:Option Out}(h1:s x ρ=some ρ1)(h2:g ρ1=some (.nx ρ2))(h3:forN s g xs ρ2=r):forN s g (x::xs) ρ=r:=by
 unfold forN
 rw [h1,Qr,h2,Qr]
 exact h3
theorem zMv{O:List C}(lO:O.length<=25){ch:List C}(hc:ch.length<=100)(s0 s2:Sl):eLc (zAA (iSeq (eV 1)) (zAm 0) (eOr (eB (eOp dEq (eV 1) (eLst eNil))) (eB (eOp dLt2 (eOp dIx (eV 1) (eUn dNeg (eC (.int 1)))) (eV 0)))) (eOp zAx (eV 1) (eLst (zAc (eV 0) eNil))) [none,some 3]) [s0,.dat (.list (O.map zAb)),s2,.dat (chD ch)]=some (.list (((O.filter (okC ch)).map fun c=>ch++[c]).map chD)):=by
 refine zAP (xs:=O) zAb (okC ch) (fun c=>chD (ch++[c])) (fun ρ=>∃ s0,ρ=[s0,.dat (chD ch)]) (zAO rfl rfl) (by lia) ⟨.no,rfl⟩ ?_ (by rw [Q7];rfl)
 rintro c _ ρ ⟨s0,rfl⟩
 refine⟨[.dat (zAb c),.dat (chD ch)],rfl,⟨_,rfl⟩,?_,fun _=>?_⟩
 ·rcases zEH ch with rfl | ⟨d,b,rfl⟩
  ·rfl
  ·have e:dEq (chD (d++[b])) (.list [])=some (.bool false):=by
    have:=zH2 (d++[b]) []
    rw [decide_eq_false (by simp)]at this
    exact this
   rw [zGr]
   have i:dIx (chD (d++[b])) (.int (-1))=some (zAb b):=zHs d b
   exact oO0 (oB (oo rfl rfl e)) (oB (oo (oo rfl rfl i) rfl (lt_c b c)))
 ·have a:zAx (chD ch) (.list [zAb c])=some (chD (ch++[c])):=zHo ch [c] (by rw [Yd];lia)
  exact oo rfl rfl a
theorem zJr{O:List C}{L:List (List C)}(lO:O.length<=25)(hL:∀ ch∈L,ch.length<=100)(hl:(more O L).length<=1000):zB2 [.list (L.map chD),.list (O.map zAb)]=some (.list ((more O L).map chD)):=by
 have go:∀(s0:Sl) (M acc:List (List C)) (s3:Sl),(∀ ch∈M,ch.length<=100)->acc.length+(more O M).length<=1000->∃ s3',forN (zAm 3) (sExt 2 (eLc (zAA (iSeq (eV 1)) (zAm 0) (eOr (eB (eOp dEq (eV 1) (eLst eNil))) (eB (eOp dLt2 (eOp dIx (eV 1) (eUn dNeg (eC (.int 1)))) (eV 0)))) (eOp zAx (eV 1) (eLst (zAc (eV 0) eNil))) [none,some 3]))) (M.map chD) [s0,.dat (.list (O.map zAb)),.own (acc.map chD),s3]=some (.nx [s0,.dat (.list (O.map zAb)),.own ((acc++more O M).map chD),s3']):=by
  intro s0 M
  induction M with
  | nil=>intro acc s3 _ _;exact⟨s3,by unfold more;rw [List.flatMap_nil,Yk];rfl⟩
  | cons ch M ih=>
   intro acc s3 hM hb
   have e:more O (ch::M)=((O.filter (okC ch)).map fun c=>ch++[c])++more O M:=by unfold more;rw [List.flatMap_cons]
   rw [e,Qp]at hb
   obtain⟨s3',q⟩:=ih (acc++((O.filter (okC ch)).map fun c=>ch++[c])) (.dat (chD ch)) (fun x hx=>hM x (Qd _ hx)) (by rw [Qp];lia)
   refine⟨s3',?_⟩
   rw [e,<- Q9,Qm]
   refine zMI (ρ1:=[s0,.dat (.list (O.map zAb)),.own (acc.map chD),.dat (chD ch)]) rfl ?_ q
   refine(zFF (ds:=acc.map chD) (es:=((O.filter (okC ch)).map fun c=>ch++[c]).map chD) rfl (zMv lO (hM ch Qe) _ _) (by rw [Qj,Qj];lia)).trans ?_
   rw [Yh]
   rfl
 refine zAw ?_
 unfold zF8
 rw [show zAG 4 [.list (L.map chD),.list (O.map zAb)]=[.dat (.list (L.map chD)),.dat (.list (O.map zAb)),.no,.no]from rfl]
 refine zAn (ρ':=[.dat (.list (L.map chD)),.dat (.list (O.map zAb)),.own [],.no]) rfl ?_
 obtain⟨s3',q⟩:=go (.dat (.list (L.map chD))) L [] .no hL (by rw [JK];lia)
 refine zAn (zBL (zAO (d:=.list (L.map chD)) rfl rfl) q) (zAv ?_)
 rw [JN]
 rfl
section
variable {w h:Nat}{W:C->Bool}(hw:w<=5)(hh:h<=5)
abbrev sS(w h:Nat)(W:C->Bool):C->C->Bool:=fun a b=>seeB (sol w h W) a b
def fld(w h:Nat)(W:C->Bool)(p:C):List C:=(cells w h).filter fun b=>seeB (sol w h W) p b
def fiD(w h:Nat)(W:C->Bool):D:=.dict (fdD (opn w h W) fun p=>mkD (fld w h W p))
theorem zMG{p c:C}(hc:c∈opn w h W):(fld w h W p).contains c=seeB (sol w h W) p c:=by
 unfold fld
 rw [Yu,Yj,QB,zBt]
 exact⟨fun q=>q.2,fun q=>⟨(zA8.mp hc).1,q⟩⟩
include hw hh
theorem zH8:zCi [flD w h W,.list ((opn w h W).map zAb)]=some (fiD w h W):=by
 have ol:=zEJ hw hh W
 have lc:=zAP (gi:=iSeq (eV 1)) (s:=zAm 0) (t:=eT) (ge:=eTup (zAc (eV 0) (zAc (zAf zAR (zAc (zAf zCh (zAc (eV 1) (zAc (eV 0) eNil))) eNil)) eNil))) (inner:=[none,some 0]) (ρ:=[.dat (flD w h W),.dat (.list ((opn w h W).map zAb))]) (xs:=opn w h W) zAb (fun _=>true) (fun c=>PyData.tuple [zAb c,mkD (fld w h W c)]) (fun ρ=>∃ s0,ρ=[s0,.dat (flD w h W)]) (zAO rfl rfl) (by lia) ⟨.no,rfl⟩ (by
  rintro c hc ρ ⟨s0,rfl⟩
  refine⟨[.dat (zAb c),.dat (flD w h W)],rfl,⟨_,rfl⟩,rfl,fun _=>?_⟩
  obtain⟨h1,h2⟩:=zA8.mp hc
  have f:=zMA hw hh h1 h2
  have m:zAR [.list ((fld w h W c).map zAb)]=some (mkD (fld w h W c)):=zJm rfl (by unfold fld;exact Ql (QR _ _) (by rw [zBF];exact Ql (Ys hw hh) (by decide))) (zBN (zBv (zBM w h) _))
  have f':zCh [flD w h W,zAb c]=some (.list ((fld w h W c).map zAb)):=f
  exact oT2 rfl (zAh (zAB (zAh rfl f') rfl) m)) (by rw [zBJ])
 refine zAw (zAv (zAh (zEc lc) ?_))
 show(if _ then _ else _)=_
 rw [if_pos (by rw [Qj];lia),zJN fun c=>mkD (fld w h W c),Qr]
 have:=zHR (fun c=>mkD (fld w h W c)) (opn w h W) [] (by simpa using zBN (zFc w h W))
 rw [JN]at this
 unfold zCV
 rw [show([]:List (D × D))=fdD [] fun c=>mkD (fld w h W c)from rfl,this]
 rfl
theorem zHC(l12:(opn w h W).length<=12):zCf [flD w h W]=some (.list ((opn w h W).map zAb)):=by
 have oe:zBE [flD w h W]=some (.list ((opn w h W).map zAb)):=zGv hw hh
 refine zAw ?_
 unfold zFU
 rw [show zAG 2 [flD w h W]=[.dat (flD w h W),.no]from rfl]
 refine zAn (zAz (zAh rfl oe)) ?_
 have g:decide ((12:Int)<(((opn w h W).map zAb).length:Int))=false:=decide_eq_false (by rw [Qj];lia)
 exact zAn (zBk (congrArg some g)) (zAv rfl)
omit hw hh in
theorem zIP{p c:C}(hp:p∈opn w h W)(hc:c∈opn w h W):((dIx2 (fiD w h W) (zAb p)).bind fun y=>dIn2 false (zAb c) y)=some (.bool (seeB (sol w h W) p c)):=by
 unfold fiD
 rw [ix_ct (fun p=>mkD (fld w h W p)) hp,Qr,zIQ,zMG hc]
 rfl
theorem zLd{ch:List C}(hc:∀ p∈ch,p∈opn w h W)(hl:ch.length<=100):zCn [fiD w h W,chD ch]=some (.bool (dom (sS w h W) (opn w h W) ch)):=by
 have ol:=zEJ hw hh W
 have lc:=zAP (gi:=iKey (eV 0)) (s:=zAm 0) (t:=eT) (ge:=zAf dAny (zAc (eLc (zAA (iSeq (eV 1)) (zAm 0) eT (eOp (dIn2 false) (eV 1) (eOp dIx2 (eV 2) (eV 0))) [none,some 0,some 2])) eNil)) (inner:=[none,some 1,some 0]) (ρ:=[.dat (fiD w h W),.dat (chD ch)]) (xs:=opn w h W) zAb (fun _=>true) (fun c=>PyData.bool (ch.any fun p=>seeB (sol w h W) p c)) (fun ρ=>∃ s0,ρ=[s0,.dat (chD ch),.dat (fiD w h W)]) (zM2 (d:=fiD w h W) rfl (zNj _ _)) (by lia) ⟨.no,rfl⟩ (by
  rintro c hco ρ ⟨s0,rfl⟩
  refine⟨[.dat (zAb c),.dat (chD ch),.dat (fiD w h W)],rfl,⟨_,rfl⟩,rfl,fun _=>?_⟩
  have lc:=zAP (gi:=iSeq (eV 1)) (s:=zAm 0) (t:=eT) (ge:=eOp (dIn2 false) (eV 1) (eOp dIx2 (eV 2) (eV 0))) (inner:=[none,some 0,some 2]) (ρ:=[.dat (zAb c),.dat (chD ch),.dat (fiD w h W)]) (xs:=ch) (out:=(ch.map fun p=>seeB (sol w h W) p c).map PyData.bool) zAb (fun _=>true) (fun p=>PyData.bool (seeB (sol w h W) p c)) (fun ρ=>∃ s0,ρ=[s0,.dat (zAb c),.dat (fiD w h W)]) (zAO (d:=chD ch) rfl rfl) (by lia) ⟨.no,rfl⟩ (by
   rintro p hp ρ ⟨s0,rfl⟩
   exact⟨[.dat (zAb p),.dat (zAb c),.dat (fiD w h W)],rfl,⟨_,rfl⟩,rfl,fun _=>zIP (hc p hp) hco⟩) (by rw [zBJ,Q7];rfl)
  refine zAh (zEc lc) ?_
  rw [zHq,List.any_map]
  rfl) (out:=((opn w h W).map fun c=>ch.any fun p=>seeB (sol w h W) p c).map PyData.bool) (by rw [zBJ,Q7];rfl)
 refine zAw (zAv (zAh (zEc lc) ?_))
 rw [all_D,List.all_map]
 rfl
theorem zNp{d:List C}{b:C}(hd:∀ p∈d,p∈opn w h W)(hb:b∈opn w h W)(hl:d.length<=100):zCN [fiD w h W,chD (d++[b])]=some (.bool (zCw (sS w h W) (d++[b]))):=by
 have lc:=zAP (gi:=iSeq (eSl2 (eV 1) oNo (oE (eUn dNeg (eC (.int 1)))))) (s:=zAm 0) (t:=eT) (ge:=eOp (dIn2 false) (eV 0) (eOp dIx2 (eV 1) (eOp dIx (eV 2) (eUn dNeg (eC (.int 1)))))) (inner:=[none,some 0,some 1]) (ρ:=[.dat (fiD w h W),.dat (chD (d++[b]))]) (xs:=d) (out:=(d.map fun x=>seeB (sol w h W) b x).map PyData.bool) zAb (fun _=>true) (fun x=>PyData.bool (seeB (sol w h W) b x)) (fun ρ=>∃ s0,ρ=[s0,.dat (fiD w h W),.dat (chD (d++[b]))]) (by
  show some (cutD ((d++[b]).map zAb) none (some (-1)))=_
  rw [zHI,List.dropLast_concat]) (by lia) ⟨.no,rfl⟩ (by
  rintro x hx ρ ⟨s0,rfl⟩
  refine⟨[.dat (zAb x),.dat (fiD w h W),.dat (chD (d++[b]))],rfl,⟨_,rfl⟩,rfl,fun _=>?_⟩
  have i:dIx (chD (d++[b])) (.int (-1))=some (zAb b):=zHs d b
  have q:=zIP hb (hd x hx)
  show((dIx (chD (d++[b])) (.int (-1))).bind fun e=>dIx2 (fiD w h W) e).bind (fun y=>dIn2 false (zAb x) y)=_
  rw [i]
  exact q) (by rw [zBJ,Q7];rfl)
 refine zAw (zAv ?_)
 have q:zAf dAny (zAc (eLc (zAA (iSeq (eSl2 (eV 1) oNo (oE (eUn dNeg (eC (.int 1)))))) (zAm 0) eT (eOp (dIn2 false) (eV 0) (eOp dIx2 (eV 1) (eOp dIx (eV 2) (eUn dNeg (eC (.int 1)))))) [none,some 0,some 1])) eNil) [.dat (fiD w h W),.dat (chD (d++[b]))]=_:=zAh (zEc lc) (zHq _)
 show zDE _ [.dat (fiD w h W),.dat (chD (d++[b]))]=_
 rw [zLf,q,zI5,List.any_map]
 rfl
end
end My
namespace My
open PySem PySem.SeqAt L2 DL SD SL EL DC TB TX
section
variable {w h:Nat}{W:C->Bool}(hw:w<=5)(hh:h<=5)
include hw hh
theorem zGT:Sym (sS w h W) (opn w h W):=⟨fun a ha=>zKr hw hh ha,fun a ha b hb=>zPK (zDP hw hh (zA8.mp ha).1 (zA8.mp hb).1)⟩
theorem zJ2{n:Nat}(h:n<=9):2 ^ n<=512:=Ql (Nat.pow_le_pow_right (by decide) h) (by decide)
theorem zO4(l9:(opn w h W).length<=9):∃ P,Few (sS w h W) (opn w h W) P/\zDl [flD w h W]=some (chD P):=by
 have c1:=zHC hw hh (W:=W) (by lia)
 have c2:=zH8 hw hh (W:=W)
 obtain⟨O,hO⟩:∃ O,O=opn w h W:=⟨_,rfl⟩
 have uO:Up O:=by rw [hO];exact zFc w h W
 have lO:O.length<=9:=by rw [hO];exact l9
 obtain⟨k,P,r,k1,k2,k3,f⟩:=zMz (S:=sS w h W) uO (by rw [hO];exact zGT hw hh)
 have cm:∀ j,∀ ch∈chs O j,(∀ c∈ch,c∈O)/\ch.length<=9:=fun j ch hc=>by
  obtain⟨_,a2,a3⟩:=zC5.mp hc
  exact⟨a3,Ql (zFb uO a2 a3) lO⟩
 have cl:∀ j,(chs O j).length<=512:=fun j=>Ql (zGi O _) (Ql (zKB uO j) (zJ2 hw hh lO))
 have fe:∀ j s4,eLc (zAA (iSeq (eV 3)) (zAm 0) (eB (zAf zCn (zAc (eV 1) (zAc (eV 0) eNil)))) (eV 0) [none,some 2]) [.dat (flD w h W),.dat (.list (O.map zAb)),.dat (fiD w h W),.dat (.list ((chs O j).map chD)),s4]=some (.list (((chs O j).filter (dom (sS w h W) O)).map chD)):=fun j s4=>by
  refine zAP (xs:=chs O j) chD (dom (sS w h W) O) chD (fun ρ=>∃ s0,ρ=[s0,.dat (fiD w h W)]) (zAO rfl rfl) (by have:=cl j;lia) ⟨.no,rfl⟩ ?_ rfl
  rintro ch hc ρ ⟨s0,rfl⟩
  refine⟨[.dat (chD ch),.dat (fiD w h W)],rfl,⟨_,rfl⟩,?_,fun _=>rfl⟩
  obtain⟨a1,a2⟩:=cm j ch hc
  have q:=zLd hw hh (W:=W) (ch:=ch) (by rw [<- hO];exact a1) (by lia)
  rw [<- hO]at q
  exact oB (zAh rfl q)
 refine⟨P,by rw [<- hO];exact f,?_⟩
 rw [<- hO]at c1 c2
 refine zAw ?_
 unfold zFY
 rw [show zAG 5 [flD w h W]=[.dat (flD w h W),.no,.no,.no,.no]from rfl]
 refine zAn (zAz (zAh rfl c1)) (zAn (zAz (zAh rfl c2)) ?_)
 refine zAn (ρ':=[.dat (flD w h W),.dat (.list (O.map zAb)),.dat (fiD w h W),.dat (.list ((chs O 0).map chD)),.no]) rfl ?_
 refine zAn (zAz (fe 0 .no)) ?_
 refine zAn (zD4 (fun k=>[.dat (flD w h W),.dat (.list (O.map zAb)),.dat (fiD w h W),.dat (.list ((chs O k).map chD)),.dat (.list (((chs O k).filter (dom (sS w h W) O)).map chD))]) (fun k=>((chs O k).filter (dom (sS w h W) O)).isEmpty) (·+1) (fun _ _=>True) (fun n j _=>?_) (fun n j _ _=>⟨?_,trivial⟩) 900 0 (0+k) trivial (zGh k 900 0 (fun j hj=>?_) ?_ (by lia))) (zAv ?_)
 ·exact oB (oo rfl rfl (zMr ((chs O j).filter (dom (sS w h W) O))))
 ·refine zAn (zAz (zAh rfl (zJr (by lia) (fun ch hc=>Ql (cm j ch hc).2 (by decide)) (show(chs O (j+1)).length<=1000 from Ql (cl _) (by decide))))) ?_
  exact zAz (fe (j+1) _)
 ·rw [YG,k2 j hj]
  rfl
 ·rw [YG,k3]
  rfl
 ·show dIx (.list (((chs O (0+k)).filter (dom (sS w h W) O)).map chD)) (.int 0)=_
  rw [YG,k3]
  exact at_0 _ _
theorem zLh(l9:(opn w h W).length<=9):∃ F,Mst (sS w h W) (opn w h W) F/\zDs [flD w h W]=some (chD F):=by
 have c1:=zHC hw hh (W:=W) (by lia)
 have c2:=zH8 hw hh (W:=W)
 obtain⟨O,hO⟩:∃ O,O=opn w h W:=⟨_,rfl⟩
 have uO:Up O:=by rw [hO];exact zFc w h W
 have lO:O.length<=9:=by rw [hO];exact l9
 have y:Sym (sS w h W) O:=by rw [hO];exact zGT hw hh
 obtain⟨k,F,r,k1,k2,k3,k4,f⟩:=zNJ (S:=sS w h W) uO y
 have cm:∀ j,∀ ch∈aps (sS w h W) O j,(∀ c∈ch,c∈O)/\ch.length<=9:=fun j ch hc=>by
  obtain⟨_,a2,a3,_⟩:=(zC4 y).mp hc
  exact⟨a3,Ql (zFb uO a2 a3) lO⟩
 have ml:∀ j,(more O (aps (sS w h W) O j)).length<=512:=fun j=>Ql (zGi O _) (Ql (zE1 uO _) (Ql (zKA (sS w h W) uO j) (zJ2 hw hh lO)))
 have me:=fun j=>zJr (L:=aps (sS w h W) O j) (by lia:O.length<=25) (fun ch hc=>Ql (cm j ch hc).2 (by decide)) (Ql (ml j) (by decide))
 have fe:∀ j s4,eLc (zAA (iSeq (zAf zB2 (zAc (eV 3) (zAc (eV 1) eNil)))) (zAm 0) (eB (zAf zCN (zAc (eV 1) (zAc (eV 0) eNil)))) (eV 0) [none,some 2]) [.dat (flD w h W),.dat (.list (O.map zAb)),.dat (fiD w h W),.dat (.list ((aps (sS w h W) O j).map chD)),s4]=some (.list ((aps (sS w h W) O (j+1)).map chD)):=fun j s4=>by
  refine zAP (xs:=more O (aps (sS w h W) O j)) chD (zCw (sS w h W)) chD (fun ρ=>∃ s0,ρ=[s0,.dat (fiD w h W)]) (zAO (zAh rfl (me j)) rfl) (by have:=ml j;lia) ⟨.no,rfl⟩ ?_ rfl
  rintro ch hc ρ ⟨s0,rfl⟩
  refine⟨[.dat (chD ch),.dat (fiD w h W)],rfl,⟨_,rfl⟩,?_,fun _=>rfl⟩
  obtain⟨d,c,rfl,hd,c1,_⟩:=zGn.mp hc
  obtain⟨a1,a2⟩:=cm j d hd
  rw [hO]at a1 c1
  exact oB (zAh rfl (zNp hw hh (W:=W) a1 c1 (by lia)))
 refine⟨F,by rw [<- hO];exact f,?_⟩
 rw [<- hO]at c1 c2
 refine zAw ?_
 unfold zF4
 rw [show zAG 5 [flD w h W]=[.dat (flD w h W),.no,.no,.no,.no]from rfl]
 refine zAn (zAz (zAh rfl c1)) (zAn (zAz (zAh rfl c2)) ?_)
 refine zAn (ρ':=[.dat (flD w h W),.dat (.list (O.map zAb)),.dat (fiD w h W),.dat (.list ((aps (sS w h W) O 0).map chD)),.no]) rfl ?_
 refine zAn (ρ':=[.dat (flD w h W),.dat (.list (O.map zAb)),.dat (fiD w h W),.dat (.list ((aps (sS w h W) O 0).map chD)),.dat (.list ((aps (sS w h W) O 0).map chD))]) rfl ?_
 refine zAn (zD4 (fun k=>[.dat (flD w h W),.dat (.list (O.map zAb)),.dat (fiD w h W),.dat (.list ((aps (sS w h W) O (k-1)).map chD)),.dat (.list ((aps (sS w h W) O k).map chD))]) (fun k => !(aps (sS w h W) O k).isEmpty) (·+1) (fun _ _=>True) (fun n j _=>?_) (fun n j _ _=>⟨?_,trivial⟩) 900 0 (0+(k+1)) trivial (zGh (k+1) 900 0 (fun j hj=>?_) ?_ (by lia))) (zAv ?_)
 ·exact oB (oo rfl rfl (zN6 (aps (sS w h W) O j)))
 ·exact zAn (ρ':=[.dat (flD w h W),.dat (.list (O.map zAb)),.dat (fiD w h W),.dat (.list ((aps (sS w h W) O j).map chD)),.dat (.list ((aps (sS w h W) O j).map chD))]) rfl (zAz (fe j _))
 ·rw [YG]
  have:=k2 j hj
  cases q:aps (sS w h W) O j with
  | nil=>exact absurd q this
  | cons a b=>rfl
 ·rw [YG,k3]
  rfl
 ·show dIx (.list ((aps (sS w h W) O (0+(k+1)-1)).map chD)) (.int 0)=_
  rw [YG,Nat.add_sub_cancel,k4]
  exact at_0 _ _
end
end My
namespace My
abbrev Q2:=Nat × Nat
def red(p:Q2):Q2:=(p.1 / Nat.gcd p.1 p.2,p.2 / Nat.gcd p.1 p.2)
def op(a b:Q2):Q2:=(a.1 * b.2+b.1 * a.2,a.2 * b.2)
structure zD7(p q:Q2):Prop where
 pos:0<p.2
 cop:Nat.gcd p.1 p.2=1
 eq:p.1 * q.2=q.1 * p.2
theorem zCB{q:Q2}(h:0<q.2):zD7 (red q) q/\(red q).2<=q.2:=by
 have g:0<Nat.gcd q.1 q.2:=Nat.gcd_pos_of_pos_right _ h
 obtain⟨a,ha⟩:=Nat.gcd_dvd_left q.1 q.2
 obtain⟨b,hb⟩:=Nat.gcd_dvd_right q.1 q.2
 have e1:q.1 / Nat.gcd q.1 q.2=a:=Nat.div_eq_of_eq_mul_right g ha
 have e2:q.2 / Nat.gcd q.1 q.2=b:=Nat.div_eq_of_eq_mul_right g hb
 have b0:0<b:=Nat.pos_of_ne_zero fun z=>by rw [z,Nat.mul_zero]at hb;lia
 refine⟨⟨?_,?_,?_⟩,Nat.div_le_self _ _⟩
 ·show 0<q.2 / Nat.gcd q.1 q.2
  rw [e2];exact b0
 ·show Nat.gcd (q.1 / Nat.gcd q.1 q.2) (q.2 / Nat.gcd q.1 q.2)=1
  rw [Nat.gcd_div (Nat.gcd_dvd_left _ _) (Nat.gcd_dvd_right _ _),Nat.div_self g]
 ·show q.1 / Nat.gcd q.1 q.2 * q.2=q.1 * (q.2 / Nat.gcd q.1 q.2)
  rw [e1,e2]
  generalize Nat.gcd q.1 q.2=G at *
  rw [ha,hb,JE G a,Nat.mul_assoc]
theorem zQa{p p' q:Q2}(h0:0<q.2)(h:zD7 p q)(h':zD7 p' q):p=p':=by
 have e:p.1 * p'.2=p'.1 * p.2:=by
  refine Nat.eq_of_mul_eq_mul_right h0 ?_
  have a:=h.eq
  have b:=h'.eq
  calc p.1 * p'.2 * q.2=p.1 * q.2 * p'.2:=by rw [Y7]
   _=q.1 * p.2 * p'.2:=by rw [a]
   _=q.1 * p'.2 * p.2:=by rw [Y7]
   _=p'.1 * q.2 * p.2:=by rw [b]
   _=p'.1 * p.2 * q.2:=by rw [Y7]
 have d1:p.2 ∣ p'.2:=Nat.Coprime.dvd_of_dvd_mul_left (m:=p.1) (n:=p'.2) (by rw [Nat.coprime_comm];exact h.cop) ⟨p'.1,by rw [e,JE]⟩
 have d2:p'.2 ∣ p.2:=Nat.Coprime.dvd_of_dvd_mul_left (m:=p'.1) (n:=p.2) (by rw [Nat.coprime_comm];exact h'.cop) ⟨p.1,by rw [<- e,JE]⟩
 have e2:=Nat.dvd_antisymm d1 d2
 rw [e2]at e
 exact YW (Nat.eq_of_mul_eq_mul_right h'.pos e) e2
theorem zKR{p q:Q2}(h0:0<q.2)(h:zD7 p q):p=red q:=zQa h0 h (zCB h0).1
theorem zDQ{a b:Q2}(ha:0<a.2)(hb:0<b.2):0<(op a b).2:=Nat.mul_pos ha hb
theorem zOt{a a' b b':Q2}(ha:a.1 * a'.2=a'.1 * a.2)(hb:b.1 * b'.2=b'.1 * b.2):(op a b).1 * (op a' b').2=(op a' b').1 * (op a b).2:=by
 show(a.1 * b.2+b.1 * a.2) * (a'.2 * b'.2)=(a'.1 * b'.2+b'.1 * a'.2) * (a.2 * b.2)
 rw [Nat.add_mul,Nat.add_mul]
 have e1:a.1 * b.2 * (a'.2 * b'.2)=a'.1 * b'.2 * (a.2 * b.2):=by
  calc a.1 * b.2 * (a'.2 * b'.2)=(a.1 * a'.2) * (b.2 * b'.2):=by ac_rfl
   _=(a'.1 * a.2) * (b.2 * b'.2):=by rw [ha]
   _=a'.1 * b'.2 * (a.2 * b.2):=by ac_rfl
 have e2:b.1 * a.2 * (a'.2 * b'.2)=b'.1 * a'.2 * (a.2 * b.2):=by
  calc b.1 * a.2 * (a'.2 * b'.2)=(b.1 * b'.2) * (a.2 * a'.2):=by ac_rfl
   _=(b'.1 * b.2) * (a.2 * a'.2):=by rw [hb]
   _=b'.1 * a'.2 * (a.2 * b.2):=by ac_rfl
 rw [e1,e2]
theorem zPu{a b:Q2}(ha:0<a.2)(hb:0<b.2):red (op (red a) b)=red (op a b):=by
 have ra:=(zCB ha).1
 have p1:=zDQ ra.pos hb
 have p2:=zDQ ha hb
 refine zKR p2 ?_
 have t:=(zCB p1).1
 refine⟨t.pos,t.cop,?_⟩
 have e:=zOt (a:=red a) (a':=a) (b:=b) (b':=b) ra.eq rfl
 refine Nat.eq_of_mul_eq_mul_right p1 ?_
 have q:=t.eq
 calc (red (op (red a) b)).1 * (op a b).2 * (op (red a) b).2=(red (op (red a) b)).1 * (op (red a) b).2 * (op a b).2:=by rw [Y7]
  _=(op (red a) b).1 * (red (op (red a) b)).2 * (op a b).2:=by rw [q]
  _=(op (red a) b).1 * (op a b).2 * (red (op (red a) b)).2:=by rw [Y7]
  _=(op a b).1 * (op (red a) b).2 * (red (op (red a) b)).2:=by rw [e]
  _=(op a b).1 * (red (op (red a) b)).2 * (op (red a) b).2:=by rw [Y7]
theorem zJI(a b:Q2):op a b=op b a:=YW (Nat.add_comm _ _) (JE _ _)
theorem zGs(a b c:Q2):op (op a b) c=op a (op b c):=by
 refine YW ?_ (Nat.mul_assoc _ _ _)
 show(a.1 * b.2+b.1 * a.2) * c.2+c.1 * (a.2 * b.2)=a.1 * (b.2 * c.2)+(b.1 * c.2+c.1 * b.2) * a.2
 rw [Nat.add_mul,Nat.add_mul]
 have e1:a.1 * b.2 * c.2=a.1 * (b.2 * c.2):=Nat.mul_assoc _ _ _
 have e2:b.1 * a.2 * c.2=b.1 * c.2 * a.2:=by ac_rfl
 have e3:c.1 * (a.2 * b.2)=c.1 * b.2 * a.2:=by ac_rfl
 rw [e1,e2,e3,Nat.add_assoc]
theorem zCa(a:Q2):op (0,1) a=a:=YW (by show 0 * a.2+a.1 * 1=a.1;lia) (Nat.one_mul _)
theorem zPt:red (0,1)=(0,1):=by decide
section
variable {α:Type}(v:α->Bool)(f:α->Q2)
def un(l:List α):Q2:=l.foldl (fun p x=>if v x=true then op p (f x)else p) (0,1)
def li(l:List α):Q2:=l.foldl (fun p x=>if v x=true then red (op p (f x))else p) (0,1)
variable {v f}(hf:∀ x,0<(f x).2)
include hf in
theorem zIf:∀(l:List α) (p:Q2),0<p.2->0<(l.foldl (fun p x=>if v x=true then op p (f x)else p) p).2
 | [],p,h=>h
 | x::l,p,h=>by
  rw [Q5]
  refine zIf l _ ?_
  split
  ·exact zDQ h (hf x)
  ·exact h
include hf in
theorem zFL:∀(l:List α) (p:Q2),0<p.2->l.foldl (fun p x=>if v x=true then red (op p (f x))else p) (red p)=red (l.foldl (fun p x=>if v x=true then op p (f x)else p) p)
 | [],p,h=>rfl
 | x::l,p,h=>by
  rw [Q5,Q5]
  by_cases c:v x=true
  ·rw [if_pos c,if_pos c,zPu h (hf x)]
   exact zFL l _ (zDQ h (hf x))
  ·rw [if_neg c,if_neg c]
   exact zFL l _ h
include hf in
theorem zE9(l:List α):0<(un v f l).2:=zIf hf l (0,1) (by decide)
include hf in
theorem zEz(l:List α):li v f l=red (un v f l):=by
 have:=zFL (v:=v) hf l (0,1) (by decide)
 rw [zPt]at this
 exact this
theorem zC0:∀(l:List α) (p:Q2),l.foldl (fun p x=>if v x=true then op p (f x)else p) p=op p (un v f l)
 | [],p=>YW (by show p.1=p.1 * 1+0 * p.2;lia) (by show p.2=p.2 * 1;lia)
 | x::l,p=>by
  have e:=zC0 l (if v x=true then op (0,1) (f x)else(0,1))
  have u:un v f (x::l)=op (if v x=true then op (0,1) (f x)else(0,1)) (un v f l):=by
   show List.foldl _ _ (x::l)=_
   rw [Q5]
   exact e
  rw [Q5,zC0 l,u]
  by_cases c:v x=true
  ·rw [if_pos c,if_pos c,zCa,zGs]
  ·rw [if_neg c,if_neg c,zCa]
theorem zKX(l m:List α):un v f (l++m)=op (un v f l) (un v f m):=by
 show List.foldl _ _ (l++m)=_
 rw [List.foldl_append]
 exact zC0 m _
include hf in
include hf in
include hf in
end
def leF(p q:Q2):Prop:=p.1 * q.2<=q.1 * p.2
theorem le_op(p q:Q2):leF p (op p q):=by
 show p.1 * (p.2 * q.2)<=(p.1 * q.2+q.1 * p.2) * p.2
 rw [Nat.add_mul]
 exact Ql (Nat.le_of_eq (by ac_rfl)) (Yn _ _)
theorem zJb{α:Type}{v:α->Bool}{f:α->Q2}(hf:∀ x,0<(f x).2)(hs:∀ x,0<(f x).1)(l:List α):li v f l=(0,1) ↔ ∀ x∈l,v x=false:=by
 have key:∀ l:List α,(un v f l).1=0 ↔ ∀ x∈l,v x=false:=fun l=>by
  induction l with
  | nil=>exact⟨fun _ x h=>(by cases h),fun _=>rfl⟩
  | cons x l ih=>
   have e:un v f (x::l)=op (if v x=true then f x else(0,1)) (un v f l):=by
    show List.foldl _ _ (x::l)=_
    rw [Q5,zC0]
    by_cases c:v x=true
    ·rw [if_pos c,if_pos c,zCa]
    ·rw [if_neg c,if_neg c]
   have up:=zE9 (v:=v) hf l
   rw [e]
   by_cases c:v x=true
   ·rw [if_pos c]
    constructor
    ·intro z
     have z':(f x).1 * (un v f l).2+(un v f l).1 * (f x).2=0:=z
     have:=Nat.mul_pos (hs x) up
     lia
    ·intro z
     have:=z x Qe
     rw [c]at this;cases this
   ·rw [if_neg c,zCa,ih]
    constructor
    ·intro z y hy
     rcases Qi.mp hy with rfl | hy
     ·exact Jv.mpr c
     ·exact z y hy
    ·intro z y hy
     exact z y (Qd _ hy)
 rw [<- key l,zEz hf]
 have up:=zE9 (v:=v) hf l
 have t:=(zCB up).1
 constructor
 ·intro z
  have q:=t.eq
  rw [z]at q
  have q':0 * (un v f l).2=(un v f l).1 * 1:=q
  lia
 ·intro z
  refine(zKR up ⟨by decide,by decide,?_⟩).symm
  show 0 * (un v f l).2=(un v f l).1 * 1
  lia
theorem zKY{α:Type}{v:α->Bool}{f:α->Q2}{B:Nat}(hB:1<=B)(h:∀ x,(f x).2<=B):∀ l:List α,(un v f l).2<=B ^ l.length
 | []=>Qh _
 | x::l=>by
  have e:un v f (x::l)=op (if v x=true then f x else(0,1)) (un v f l):=by
   show List.foldl _ _ (x::l)=_
   rw [Q5,zC0]
   by_cases c:v x=true
   ·rw [if_pos c,if_pos c,zCa]
   ·rw [if_neg c,if_neg c]
  rw [e,QL,Nat.pow_succ,JE (B ^ l.length)]
  refine Ys ?_ (zKY hB h l)
  by_cases c:v x=true
  ·rw [if_pos c];exact h x
  ·rw [if_neg c];exact hB
theorem li_bd{α:Type}{v:α->Bool}{f:α->Q2}{B:Nat}(hB:1<=B)(hf:∀ x,0<(f x).2)(h:∀ x,(f x).2<=B)(l:List α):(li v f l).2<=B ^ l.length:=by
 rw [zEz hf]
 exact Ql (zCB (zE9 (v:=v) hf l)).2 (zKY hB h l)
end My
namespace My
open PySem PySem.SeqAt L2 DL SD SL EL DC TB TX
def sq(a b:C):Int:=(a.1-b.1) * (a.1-b.1)+(a.2-b.2) * (a.2-b.2)
theorem pow2(i:Int):i ^ (2:Int).toNat=i * i:=by
 show i ^ 2=_
 rw [Int.pow_succ,Int.pow_succ,Int.pow_zero,Int.one_mul]
theorem zKI{a b:C}(n:Near b a):zCp [zAb a,zAb b]=some (.int (sq a b)):=by
 have p:∀ i:Int,-4<=i->i<=4->dPow (.int i) (.int 2)=some (.int (i * i)):=fun i h1 h2=>by
  show(if(decide ((0:Int)<=2) && decide ((2:Int)<=64) && decide (i.natAbs<18446744073709551616))=true then some (PyData.int (i ^ (2:Int).toNat))else none)=_
  rw [pow2,if_pos]
  simp only [QH,decide_eq_true_eq]
  lia
 exact zAw (zAv (oo (oo rfl rfl (p _ n.x0 n.x1)) (oo rfl rfl (p _ n.y0 n.y1)) rfl))
def frD(p:Q2):D:=.tuple [.int (p.1:Int),.int (p.2:Int)]
def cE(s:Nat × Nat × Sl):Bool := !(s.2.1 == 0)
def sE(r:Nat->Nat->Sl)(s:Nat × Nat × Sl):Nat × Nat × Sl:=(s.2.1,s.1 % s.2.1,r s.1 s.2.1)
theorem zFT(a b:Nat):Nat.gcd b (a % b)=Nat.gcd a b:=by rw [Nat.gcd_comm a b,Nat.gcd_rec b a,Nat.gcd_comm]
theorem zMO(b r K:Nat)(h1:b<K * 2)(h2:r<b)(h3:b % r<r):b % r<K:=by
 by_cases z:r<=K
 ·exact Qz h3 z
 ·rw [Nat.mod_eq_sub_mod (YA h2),Nat.mod_eq_of_lt (by clear h3;lia)]
  clear h3
  lia
theorem zH7(r:Nat->Nat->Sl):∀(k n a b:Nat) (s:Sl),b<2 ^ k->2 * k+1<=n->∃ s',zBg cE (sE r) n (a,b,s)=some (Nat.gcd a b,0,s')
 | k,0,_,_,_,_,h=>by lia
 | k,n+1,a,b,s,hb,hn=>by
  unfold zBg
  by_cases b0:b=0
  ·subst b0
   exact⟨s,by rw [if_neg (by show ¬ ((!((0:Nat) == 0))=true);decide),Nat.gcd_zero_right]⟩
  ·have c0:cE (a,b,s)=true:=by show(!(b == 0))=true;rw [beq_eq_false_iff_ne.mpr b0];rfl
   rw [if_pos c0]
   show ∃ s',zBg cE (sE r) n (b,a % b,r a b)=_
   have lt:a % b<b:=Nat.mod_lt _ (Nat.pos_of_ne_zero b0)
   cases k with
   | zero=>rw [Nat.pow_zero]at hb;lia
   | succ k=>
    cases n with
    | zero=>lia
    | succ n=>
     unfold zBg
     by_cases d0:a % b=0
     ·rw [d0]
      refine⟨r a b,?_⟩
      rw [if_neg (by show ¬ ((!(0 == 0))=true);decide),<- zFT,d0,Nat.gcd_zero_right]
     ·have c1:cE (b,a % b,r a b)=true:=by show(!(a % b == 0))=true;rw [beq_eq_false_iff_ne.mpr d0];rfl
      rw [if_pos c1]
      show ∃ s',zBg cE (sE r) n (a % b,b % (a % b),r b (a % b))=_
      rw [<- zFT a b,<- zFT b (a % b)]
      refine zH7 r k n _ _ _ ?_ (by lia)
      rw [Nat.pow_succ]at hb
      exact zMO b (a % b) (2 ^ k) hb lt (Nat.mod_lt _ (Nat.pos_of_ne_zero d0))
theorem mod_n{a b:Nat}(h:0<b):dMod (.int (a:Int)) (.int (b:Int))=some (.int ((a % b:Nat):Int)):=by rw [zB9 (by lia)];rfl
theorem zHT{a b:Nat}(h:0<b)(h2:b<1073741824):zBo (.int (a:Int)) (.int (b:Int))=some (.int ((a / b:Nat):Int)):=by rw [zEn (okD (by lia) (by lia))];rfl
theorem ne_0(b:Nat):dNe (.int (b:Int)) (.int 0)=some (.bool (!(b == 0))):=by
 rw [ne_i]
 have:((b:Int) == 0)=(b == 0):=by rw [Yu,beq_iff_eq,beq_iff_eq];lia
 rw [this]
theorem zMJ{a b:Nat}(hb:b<2 ^ 60):zDh [.int (a:Int),.int (b:Int)]=some (.int ((Nat.gcd a b:Nat):Int)):=by
 obtain⟨s',it⟩:=zH7 (fun a b=>.dat (.int ((a % b:Nat):Int))) 60 900 a b .no hb (by decide)
 refine zAw ?_
 unfold zFV
 rw [show zAG 3 [.int (a:Int),.int (b:Int)]=[.dat (.int (a:Int)),.dat (.int (b:Int)),.no]from rfl]
 refine zAn (zD4 (fun s:Nat × Nat × Sl=>[.dat (.int (s.1:Int)),.dat (.int (s.2.1:Int)),s.2.2]) cE (sE fun a b=>.dat (.int ((a % b:Nat):Int))) (fun _ _=>True) (fun n s _=>?_) (fun n s _ hc=>⟨?_,trivial⟩) 900 (a,b,.no) (Nat.gcd a b,0,s') trivial it) (zAv rfl)
 ·exact oB (oo rfl rfl (ne_0 s.2.1))
 ·have b0:0<s.2.1:=Nat.pos_of_ne_zero fun z=>by unfold cE at hc;rw [z]at hc;exact absurd hc (by decide)
  exact zAn (zAz (oo rfl rfl (mod_n (a:=s.1) b0))) (zAn (zAz rfl) (zAz rfl))
theorem zPN{t u:Nat}(u0:0<u)(u1:u<1073741824):zCP [.int (t:Int),.int (u:Int)]=some (frD (red (t,u))):=by
 have g0:0<Nat.gcd t u:=Nat.gcd_pos_of_pos_right _ u0
 have g1:Nat.gcd t u<=u:=Nat.gcd_le_right _ u0
 have e:=zMJ (a:=t) (b:=u) (YZ u1 (by decide))
 have d1:=zHT (a:=t) g0 (QX g1 u1)
 have d2:=zHT (a:=u) g0 (QX g1 u1)
 refine zAw ?_
 unfold zF7
 rw [show zAG 3 [.int (t:Int),.int (u:Int)]=[.dat (.int (t:Int)),.dat (.int (u:Int)),.no]from rfl]
 exact zAn (zAz (zAh rfl e)) (zAv (oT2 (oo rfl rfl d1) (oo rfl rfl d2)))
theorem zDO{a b:Nat}(h:a<18446744073709551616 ∨ b<18446744073709551616):zAy (.int (a:Int)) (.int (b:Int))=some (.int ((a * b:Nat):Int)):=by
 rcases h with h | h
 ·rw [zBi (okS (by lia) (by lia))];rfl
 ·rw [zBi (okT (by lia) (by lia))];rfl
theorem zK9{p q:Q2}(q1:q.1<1000)(p0:0<(op p q).2)(p1:(op p q).2<1073741824)(q2:q.2<1000):zCK [frD p,frD q]=some (frD (red (op p q))):=by
 have m1:=zDO (a:=p.1) (b:=q.2) (.inr (YZ q2 (by decide)))
 have m2:=zDO (a:=q.1) (b:=p.2) (.inl (YZ q1 (by decide)))
 have m3:=zDO (a:=p.2) (b:=q.2) (.inr (YZ q2 (by decide)))
 have e:zCP [.int (((p.1 * q.2:Nat):Int)+((q.1 * p.2:Nat):Int)),.int ((p.2 * q.2:Nat):Int)]=some (frD (red (op p q))):=zPN (t:=p.1 * q.2+q.1 * p.2) (u:=p.2 * q.2) p0 p1
 exact zAw (zAv (zAh (zAB (oo (oo rfl rfl m1) (oo rfl rfl m2) rfl) (zAB (oo rfl rfl m3) rfl)) e))
end My
namespace My
open PySem PySem.SeqAt L2 DL SD SL EL DC TB TX
abbrev La:=C × Nat
def zAo(x:La):D:=.tuple [zAb x.1,.int (x.2:Int)]
def dq(o c:C):Nat:=max 1 (min 19 (1+sq o c).toNat)
def fl(c:C)(x:La):Q2:=(max 1 (min 99 x.2),dq x.1 c)
theorem zCu(c:C)(x:La):0<(fl c x).2:=Nat.le_max_left 1 _
theorem zFI(c:C)(x:La):0<(fl c x).1:=Nat.le_max_left 1 _
theorem zFH(c:C)(x:La):(fl c x).2<=19:=Nat.max_le.mpr ⟨by decide,Nat.min_le_left 19 _⟩
theorem zKH{w h:Nat}(w4:w<=4)(h4:h<=4){a b:C}(ha:inR w h a=true)(hb:inR w h b=true):0<=sq a b/\sq a b<=18:=by
 have qa:=zBK.mp ha
 have qb:=zBK.mp hb
 have s:∀ i:Int,-3<=i->i<=3->0<=i * i/\i * i<=9:=fun i h1 h2=>by
  have k:∀ n:Fin 7,0<=((n.val:Int)-3) * ((n.val:Int)-3)/\((n.val:Int)-3) * ((n.val:Int)-3)<=9:=by decide
  have e:(((i+3).toNat:Nat):Int)-3=i:=by lia
  have:=k ⟨(i+3).toNat,by lia⟩
  rw [e]at this
  exact this
 have x:=s (a.1-b.1) (by lia) (by lia)
 have y:=s (a.2-b.2) (by lia) (by lia)
 unfold sq
 lia
theorem dq_eq{w h:Nat}(w4:w<=4)(h4:h<=4){a b:C}(ha:inR w h a=true)(hb:inR w h b=true):((dq a b:Nat):Int)=1+sq a b:=by
 have:=zKH w4 h4 ha hb
 unfold dq
 rw [Jz (by lia),Nat.max_eq_right (by lia),YY (by lia)]
def lt(S:C->Bool)(c:C)(L:List La):Q2:=li (fun x:La=>seeB S x.1 c) (fl c) L
theorem zJ1{n:Nat}(h:n<=6):19 ^ n<=47045881:=Ql (Nat.pow_le_pow_right (by decide) h) (by decide)
theorem lt_bd{S:C->Bool}{c:C}{L:List La}(h:L.length<=6):(lt S c L).2<=47045881:=Ql (li_bd (by decide) (zCu c) (zFH c) L) (zJ1 h)
theorem zFN{α β γ:Type}(f:β->α->β)(g:α->γ):∀(l:List α) (b:β) (c:γ),(l.foldl (fun(p:β × γ) x=>(f p.1 x,g x)) (b,c)).1=l.foldl f b
 | [],_,_=>rfl
 | x::l,b,c=>zFN f g l (f b x) (g x)
section
variable {w h:Nat}{W:C->Bool}(w4:w<=4)(h4:h<=4)
include w4 h4
theorem zJd{L:List La}{c:C}(hL:∀ x∈L,inR w h x.1=true/\1<=x.2/\x.2<=99)(hl:L.length<=6)(hc:inR w h c=true):zCk [solD w h W,.list (L.map zAo),zAb c]=some (frD (lt (sol w h W) c L)):=by
 refine zAw ?_
 unfold zF2
 rw [show zAG 6 [solD w h W,.list (L.map zAo),zAb c]=[.dat (solD w h W),.dat (.list (L.map zAo)),.dat (zAb c),.no,.no,.no]from rfl]
 refine zAn (zAz (d:=frD (0,1)) rfl) ?_
 rw [show [Sl.dat (solD w h W),.dat (.list (L.map zAo)),.dat (zAb c),Sl.no,Sl.no,Sl.no].set 3 (.dat (frD (0,1)))=[.dat (solD w h W),.dat (.list (L.map zAo)),.dat (zAb c),.dat (frD (0,1)),.no,.no]from rfl]
 refine zAn (zPG rfl rfl (zC1 zAo (fun(b:Q2 × Sl × Sl)=>[.dat (solD w h W),.dat (.list (L.map zAo)),.dat (zAb c),.dat (frD b.1),b.2.1,b.2.2]) (fun b x=>(if seeB (sol w h W) x.1 c=true then red (op b.1 (fl c x))else b.1,.dat (zAb x.1),.dat (.int (x.2:Int)))) (fun i b=>0<b.1.2/\b.1.2<=19 ^ i) 6 L 0 ((0,1),.no,.no) (by lia) ⟨by decide,by decide⟩ fun x hx i b hi hp=>?_)) ?_
 ·obtain⟨p,s4,s5⟩:=b
  obtain⟨hx1,hx2,hx3⟩:=hL x hx
  have hp1:0<p.2:=hp.1
  have hp2:p.2<=19 ^ i:=hp.2
  have see:=zHZ (W:=W) (QU w4) (QU h4) hx1 hc
  have sqe:=zKI (a:=x.1) (b:=c) (zDP (QU w4) (QU h4) hc hx1)
  have de:=dq_eq w4 h4 hx1 hc
  have f0:fl c x=(x.2,dq x.1 c):=by unfold fl;rw [Jz hx3,Nat.max_eq_right hx2]
  have bd:=zFH c x
  have po:=zDQ hp1 (zCu c x)
  have ob:(op p (fl c x)).2<=19 ^ (i+1):=by
   rw [Nat.pow_succ]
   exact Ys hp2 bd
  have p19:=zJ1 (n:=i+1) (by lia)
  refine⟨⟨[.dat (solD w h W),.dat (.list (L.map zAo)),.dat (zAb c),.dat (frD p),.dat (zAb x.1),.dat (.int (x.2:Int))],rfl,?_⟩,?_⟩
  ·by_cases s:seeB (sol w h W) x.1 c=true
   ·have ad:=zK9 (p:=p) (q:=fl c x) (by rw [f0];show x.2<1000;lia) po (by lia) (by lia)
    have ad':zCK [frD p,zAb ((x.2:Int),1+sq x.1 c)]=some (frD (red (op p (fl c x)))):=by
     rw [<- de]
     rw [f0]at ad ⊢
     exact ad
    rw [s]at see
    refine zCe (b:=true) (oB (zAh rfl see)) (fun _=>?_) fun z=>by cases z
    refine(zAz (d:=frD (red (op p (fl c x)))) (zAh (ds:=[frD p,zAb ((x.2:Int),1+sq x.1 c)]) (zAB rfl (zAB (oT2 rfl (oo rfl (zAh rfl sqe) rfl)) rfl)) ad')).trans ?_
    dsimp only
    rw [if_pos s]
    rfl
   ·have s':seeB (sol w h W) x.1 c=false:=by simpa using s
    rw [s']at see
    refine(zDY (oB (zAh rfl see))).trans ?_
    dsimp only
    rw [if_neg s]
  ·show 0<(if seeB (sol w h W) x.1 c=true then red (op p (fl c x))else p).2/\(if seeB (sol w h W) x.1 c=true then red (op p (fl c x))else p).2<=19 ^ (i+1)
   by_cases s:seeB (sol w h W) x.1 c=true
   ·rw [if_pos s]
    have t:=zCB po
    exact⟨t.1.pos,Ql t.2 ob⟩
   ·rw [if_neg s]
    exact⟨hp1,Ql hp2 (Nat.pow_le_pow_right (by decide) (Nat.le_succ _))⟩
 ·refine zAv ?_
  have e:=zFN (fun(p:Q2) (x:La)=>if seeB (sol w h W) x.1 c=true then red (op p (fl c x))else p) (fun(x:La)=>((Sl.dat (zAb x.1),Sl.dat (.int (x.2:Int))):Sl × Sl)) L (0,1) (.no,.no)
  show some (frD (L.foldl (fun(b:Q2 × Sl × Sl) x=>(if seeB (sol w h W) x.1 c=true then red (op b.1 (fl c x))else b.1,.dat (zAb x.1),.dat (.int (x.2:Int)))) ((0,1),.no,.no)).1)=_
  rw [e]
  rfl
def LOk(w h:Nat)(W:C->Bool)(L:List La):Prop:=∀ x∈L,inR w h x.1=true/\W x.1=false/\1<=x.2/\x.2<=99
omit w4 h4 in
theorem zJ6{L:List La}(o:LOk w h W L):zCm [flD w h W,.list (L.map zAo)]=some .none:=by
 have key:∃ ρ,zDI (zAG 3 [flD w h W,.list (L.map zAo)])=some (.nx ρ):=by
  unfold zDI
  rw [show zAG 3 [flD w h W,.list (L.map zAo)]=[.dat (flD w h W),.dat (.list (L.map zAo)),.no]from rfl]
  obtain⟨ρ,e,_⟩:=zEo (g:=zBa (zAf zBx (zAc (eV 0) (zAc (eOp dIx (eV 2) (eC (.int 0))) eNil)))) (s:=zAm 2) zAo (fun ρ=>∃ s2,ρ=[.dat (flD w h W),.dat (.list (L.map zAo)),s2]) L [.dat (flD w h W),.dat (.list (L.map zAo)),.no] ⟨_,rfl⟩ (by
   rintro x hx ρ ⟨s2,rfl⟩
   refine⟨[.dat (flD w h W),.dat (.list (L.map zAo)),.dat (zAo x)],[.dat (flD w h W),.dat (.list (L.map zAo)),.dat (zAo x)],rfl,?_,⟨_,rfl⟩⟩
   obtain⟨a,b,_⟩:=o x hx
   have q:=zGw (W:=W) a b
   exact zBZ (zAh rfl q))
  exact⟨ρ,zBL (zAO rfl rfl).symm.symm e⟩
 obtain⟨ρ,e⟩:=key
 show fnD 3 zDI _=_
 rw [ap_fn,e]
theorem zNy{L:List La}{c:C}(o:LOk w h W L)(hl:L.length<=6)(hc:inR w h c=true):zDr [flD w h W,.list (L.map zAo),zAb c]=some (frD (lt (sol w h W) c L)):=by
 have r:=zJ6 o
 have r2:=zGF (W:=W) hc
 have m:zAR [zAT w h W]=some (solD w h W):=zED (QU w4) (QU h4)
 have e:=zJd (W:=W) w4 h4 (fun x hx=>⟨(o x hx).1,(o x hx).2.2⟩) hl hc
 refine zAw ?_
 unfold zF1
 rw [show zAG 3 [flD w h W,.list (L.map zAo),zAb c]=[.dat (flD w h W),.dat (.list (L.map zAo)),.dat (zAb c)]from rfl]
 exact zAn (zBZ (zAh rfl r)) (zAn (zBZ (zAh rfl r2)) (zAv (zAh (zAB (zAh rfl m) rfl) e)))
def plD(S:C->Bool)(L:List La)(c:C):D:=.tuple [zAb c,frD (lt S c L)]
theorem zJe{L:List La}(o:LOk w h W L)(hl:L.length<=6):zCl [flD w h W,.list (L.map zAo)]=some (.list ((opn w h W).map (plD (sol w h W) L))):=by
 have r:=zJ6 o
 have m:zAR [zAT w h W]=some (solD w h W):=zED (QU w4) (QU h4)
 have op':=zGv (W:=W) (QU w4) (QU h4)
 refine zAw ?_
 unfold zF3
 rw [show zAG 3 [flD w h W,.list (L.map zAo)]=[.dat (flD w h W),.dat (.list (L.map zAo)),.no]from rfl]
 refine zAn (zBZ (zAh rfl r)) (zAn (zAz (zAh rfl m)) ?_)
 have cl:(opn w h W).length<=16:=Ql (QR _ _) (by rw [zBF];exact Ys w4 h4)
 refine zAv (zAP (xs:=opn w h W) zAb (fun _=>true) (plD (sol w h W) L) (fun ρ=>∃ s0,ρ=[s0,.dat (solD w h W),.dat (.list (L.map zAo))]) (zAO (zAh rfl op') rfl) (by lia) ⟨.no,rfl⟩ ?_ (by rw [zBJ]))
 rintro c hc ρ ⟨s0,rfl⟩
 refine⟨[.dat (zAb c),.dat (solD w h W),.dat (.list (L.map zAo))],rfl,⟨_,rfl⟩,rfl,fun _=>?_⟩
 have e:=zJd (W:=W) w4 h4 (fun x hx=>⟨(o x hx).1,(o x hx).2.2⟩) hl (zA8.mp hc).1
 exact oT2 rfl (zAh rfl e)
omit w4 h4 in
theorem zNu{p q:Q2}(hp:p.2<=47045881)(hq:q.2<=47045881):zDo [frD p,frD q]=some (.bool (decide (p.1 * q.2<q.1 * p.2))):=by
 have m1:=zDO (a:=p.1) (b:=q.2) (.inr (QX hq (by decide)))
 have m2:=zDO (a:=q.1) (b:=p.2) (.inr (QX hp (by decide)))
 have e:decide (((p.1 * q.2:Nat):Int)<((q.1 * p.2:Nat):Int))=decide (p.1 * q.2<q.1 * p.2):=decide_eq_decide.mpr Y1
 exact zAw (zAv (oo (oo rfl rfl m1) (oo rfl rfl m2) (congrArg (fun b=>some (PyData.bool b)) e)))
end
theorem zEX(p:Q2):SeqAt.shaped (frD p)=true:=id rfl
theorem zH3(p q:Q2):PyData.eqv (frD p) (frD q)=(p == q):=by
 show(((p.1:Int) == q.1) && (((p.2:Int) == q.2) && true))=_
 have:∀ a b:Nat,(((a:Int) == (b:Int)))=(a == b):=fun a b=>by rw [Yu,beq_iff_eq,beq_iff_eq];lia
 rw [Bool.and_true,this,this]
 obtain⟨x,y⟩:=p
 obtain⟨u,v⟩:=q
 rfl
theorem ne_fr(p q:Q2):dNe (frD p) (frD q)=some (.bool (!(p == q))):=by
 unfold dNe
 rw [zEX,zEX,zH3]
 rfl
theorem eq_fr(p q:Q2):dEq (frD p) (frD q)=some (.bool (p == q)):=by
 unfold dEq
 rw [zEX,zEX,zH3]
 rfl
end My
namespace My
open PySem PySem.SeqAt L2 DL SD SL EL DC TB TX
def lsF(p q:Q2):Bool:=decide (p.1 * q.2<q.1 * p.2)
section
variable {w h:Nat}{W:C->Bool}(w4:w<=4)(h4:h<=4){L:List La}(o:LOk w h W L)(hl:L.length<=6)
include w4 h4 o hl
theorem zJK(W:C->Bool):(opn w h W).length<=16:=Ql (QR _ _) (by rw [zBF];exact Ys w4 h4)
theorem zJh{q:Q2}(hq:q.2<=47045881):zCO [flD w h W,.list (L.map zAo),frD q]=some (.list (((opn w h W).filter fun c => !lsF (lt (sol w h W) c L) q).map zAb)):=by
 have e:=zJe w4 h4 o hl
 have cl:=zJK w4 h4 o hl W
 refine zAw (zAv (zAP (xs:=opn w h W) (plD (sol w h W) L) (fun c => !lsF (lt (sol w h W) c L) q) zAb (fun ρ=>∃ s0 s1,ρ=[s0,s1,.dat (frD q)]) (zAO (zAh rfl e) rfl) (by lia) ⟨.no,.no,rfl⟩ ?_ rfl))
 rintro c hc ρ ⟨s0,s1,rfl⟩
 refine⟨[.dat (zAb c),.dat (frD (lt (sol w h W) c L)),.dat (frD q)],rfl,⟨_,_,rfl⟩,?_,fun _=>rfl⟩
 have ls:=zNu (p:=lt (sol w h W) c L) (q:=q) (lt_bd hl) hq
 exact oN (oB (zAh rfl ls))
theorem zFs:zCg [flD w h W,.list (L.map zAo)]=some (.list (((opn w h W).filter fun c=>lt (sol w h W) c L == (0,1)).map zAb)):=by
 have e:=zJe w4 h4 o hl
 have cl:=zJK w4 h4 o hl W
 refine zAw (zAv (zAP (xs:=opn w h W) (plD (sol w h W) L) (fun c=>lt (sol w h W) c L == (0,1)) zAb (fun ρ=>∃ s0 s1,ρ=[s0,s1]) (zAO (zAh rfl e) rfl) (by lia) ⟨.no,.no,rfl⟩ ?_ rfl))
 rintro c hc ρ ⟨s0,s1,rfl⟩
 refine⟨[.dat (zAb c),.dat (frD (lt (sol w h W) c L))],rfl,⟨_,_,rfl⟩,?_,fun _=>rfl⟩
 have ls:dEq (frD (lt (sol w h W) c L)) (zAb (0,1))=_:=eq_fr (lt (sol w h W) c L) (0,1)
 exact oB (oo rfl rfl ls)
end
end My
namespace My
open PySem PySem.SeqAt L2 DL SD SL EL DC TB TX
section
variable {α:Type}{v:α->Bool}{f:α->Q2}
theorem zOu(p:Q2):op p (0,1)=p:=by rw [zJI,zCa]
theorem zGU(x:α)(l:List α):un v f (x::l)=op (if v x=true then f x else(0,1)) (un v f l):=by
 show List.foldl _ _ (x::l)=_
 rw [Q5,zC0]
 by_cases c:v x=true
 ·rw [if_pos c,if_pos c,zCa]
 ·rw [if_neg c,if_neg c]
theorem zGV:∀{l:List α},(∀ x∈l,v x=false)->un v f l=(0,1)
 | [],_=>rfl
 | x::l,h=>by
  rw [zGU,zGV fun y hy=>h y (Qd _ hy),h x Qe]
  rfl
theorem zQp{x:α}{l:List α}(hx:x∈l)(hv:v x=true):leF (f x) (un v f l):=by
 obtain⟨A,B,rfl⟩:=List.append_of_mem hx
 have e:un v f (A++x::B)=op (f x) (op (un v f A) (un v f B)):=by
  rw [zKX,zGU,if_pos hv,<- zGs,zJI (un v f A),zGs]
 rw [e]
 exact le_op _ _
theorem zNt{p q:Q2}(hq:0<q.2)(h:leF p q):leF p (red q):=by
 have b:=(zCB hq).1
 refine Nat.le_of_mul_le_mul_right (c:=q.2) ?_ hq
 calc p.1 * (red q).2 * q.2=(p.1 * q.2) * (red q).2:=by ac_rfl
  _<=(q.1 * p.2) * (red q).2:=Nat.mul_le_mul_right _ h
  _=(q.1 * (red q).2) * p.2:=by ac_rfl
  _=((red q).1 * q.2) * p.2:=by rw [b.eq]
  _=(red q).1 * p.2 * q.2:=by ac_rfl
end
theorem zNF{S:C->Bool}{c:C}{L:List La}{x:La}(hx:x∈L)(hv:seeB S x.1 c=true):(lt S c L == (0,1))=false:=by
 refine beq_eq_false_iff_ne.mpr fun z=>?_
 have:=(zJb (v:=fun x:La=>seeB S x.1 c) (zCu c) (zFI c) L).mp z x hx
 have this:seeB S x.1 c=false:=this
 rw [hv]at this
 cases this
theorem lt_no{S:C->Bool}{c:C}{L:List La}(h:∀ x∈L,seeB S x.1 c=false):(lt S c L == (0,1))=true:=beq_iff_eq.mpr ((zJb (v:=fun x:La=>seeB S x.1 c) (zCu c) (zFI c) L).mpr h)
theorem zND{S:C->Bool}{c:C}{L:List La}{x:La}(hx:x∈L)(hv:seeB S x.1 c=true):lsF (lt S c L) (1,1000)=false:=by
 have a:=zNt (zE9 (v:=fun x:La=>seeB S x.1 c) (zCu c) L) (zQp (v:=fun x:La=>seeB S x.1 c) (f:=fl c) hx hv)
 rw [<- zEz (v:=fun x:La=>seeB S x.1 c) (zCu c) L]at a
 have a:(fl c x).1 * (lt S c L).2<=(lt S c L).1 * (fl c x).2:=a
 have b:=Nat.mul_le_mul_right (lt S c L).2 (zFI c x)
 have d:=Nat.mul_le_mul_left (lt S c L).1 (zFH c x)
 refine decide_eq_false (Nat.not_lt.mpr ?_)
 show 1 * (lt S c L).2<=(lt S c L).1 * 1000
 generalize (fl c x).1 * (lt S c L).2=u at a b
 generalize (lt S c L).1 * (fl c x).2=t at a d
 lia
theorem zNE{S:C->Bool}{x:La}{L:List La}(hn:(L.map Prod.fst).Nodup)(hx:x∈L)(h1:1<=x.2)(h2:x.2<=99)(hs:seeB S x.1 x.1=true)(ho:∀ y∈L,y.1≠x.1->seeB S y.1 x.1=false):lt S x.1 L=(x.2,1):=by
 obtain⟨A,B,rfl⟩:=List.append_of_mem hx
 have ne:∀ y,y∈A ∨ y∈B->y.1≠x.1:=fun y hy z=>by
  rw [Yh,Qm,List.nodup_append]at hn
  rcases hy with hy | hy
  ·exact hn.2.2 y.1 (YI hy) x.1 Qe z
  ·exact(Yl.mp hn.2.1).1 (z ▸ YI (f:=Prod.fst) hy)
 have f0:fl x.1 x=(x.2,1):=by
  have:sq x.1 x.1=0:=by unfold sq;rw [Int.sub_self,Int.sub_self];rfl
  unfold fl dq
  rw [this,Jz h2,Nat.max_eq_right h1]
  rfl
 show li _ _ _=_
 rw [zEz (zCu x.1),zKX,zGU,zGV (l:=A) (fun y hy=>ho y (QO _ hy) (ne y (.inl hy))),zGV (l:=B) (fun y hy=>ho y (Qx _ (Qd _ hy)) (ne y (.inr hy))),if_pos hs,zCa,zOu,f0]
 show(x.2 / Nat.gcd x.2 1,1 / Nat.gcd x.2 1)=_
 rw [Nat.gcd_one_right,Nat.div_one]
theorem zGq{α:Type}(f:α->D):∀(l:List α) (n:Nat),zA9 n (l.map f)=(l.zipIdx n).map fun p=>PyData.tuple [.int ((p.2:Nat):Int),f p.1]
 | [],_=>rfl
 | a::l,n=>by
  show PyData.tuple [.int n,f a]::zA9 (n+1) (l.map f)=_
  rw [zGq f l (n+1)]
  rfl
def lamL(ns:List Int)(at':Int)(cs:List C):List La:=cs.zipIdx.map fun p=>(p.1,(1+dr ns (at'+(p.2:Int)) 99).toNat)
theorem zEt(ns:List Int)(at':Int)(cs:List C):(lamL ns at' cs).map Prod.fst=cs:=by
 unfold lamL
 rw [Q7]
 exact List.zipIdx_map_fst 0 cs
theorem zDL{ns:List Int}{at':Int}{cs:List C}{x:La}(h:x∈lamL ns at' cs):x.1∈cs:=by
 have:=YI (f:=Prod.fst) h
 rwa [zEt]at this
theorem zNo{ns:List Int}{at':Int}{cs:List C}{c:C}(h:c∈cs):∃ x∈lamL ns at' cs,x.1=c:=by
 rw [<- zEt ns at' cs]at h
 obtain⟨x,hx,e⟩:=QJ.mp h
 exact⟨x,hx,e⟩
theorem zI2(ns:List Int)(at':Int)(cs:List C):(lamL ns at' cs).length=cs.length:=by
 have:=congrArg List.length (zEt ns at' cs)
 rwa [Qj]at this
theorem zI3{ns:List Int}(hn:ns.length<=63){at':Int}{cs:List C}{x:La}(h:x∈lamL ns at' cs):1<=x.2/\x.2<=99:=by
 obtain⟨p,_,rfl⟩:=QJ.mp h
 obtain⟨_,d0,d1⟩:=zCW ns hn (at'+(p.2:Int)) 99 (by decide)
 constructor
 ·show 1<=(1+dr ns (at'+(p.2:Int)) 99).toNat
  lia
 ·show(1+dr ns (at'+(p.2:Int)) 99).toNat<=99
  lia
theorem zI4(ns:List Int)(hn:ns.length<=63)(at':Int){cs:List C}(hl:cs.length<=100):zCI [scr ns,.int at',chD cs]=some (.list ((lamL ns at' cs).map zAo)):=by
 have it:zCv (zAc (eV 2) eNil) [.dat (scr ns),.dat (.int at'),.dat (chD cs)]=some (cs.zipIdx.map fun p=>PyData.tuple [.int ((p.2:Nat):Int),zAb p.1]):=by
  show some (zA9 0 (cs.map zAb))=_
  rw [zGq]
 refine zAw (zAv (zAP (xs:=cs.zipIdx) (fun p=>PyData.tuple [.int ((p.2:Nat):Int),zAb p.1]) (fun _=>true) (fun p=>zAo (p.1,(1+dr ns (at'+(p.2:Int)) 99).toNat)) (fun ρ=>∃ s0 s1,ρ=[s0,s1,.dat (scr ns),.dat (.int at')]) it (by rw [List.length_zipIdx];lia) ⟨.no,.no,rfl⟩ ?_ ?_))
 ·rintro p _ ρ ⟨s0,s1,rfl⟩
  refine⟨[.dat (.int (p.2:Int)),.dat (zAb p.1),.dat (scr ns),.dat (.int at')],rfl,⟨_,_,rfl⟩,rfl,fun _=>?_⟩
  obtain⟨e,d0,d1⟩:=zCW ns hn (at'+(p.2:Int)) 99 (by decide)
  have q:zAo (p.1,(1+dr ns (at'+(p.2:Int)) 99).toNat)=.tuple [zAb p.1,.int (1+dr ns (at'+(p.2:Int)) 99)]:=by
   show PyData.tuple [zAb p.1,.int (((1+dr ns (at'+(p.2:Int)) 99).toNat:Nat):Int)]=_
   rw [YY (by lia)]
  rw [q]
  exact oT2 rfl (oo rfl (zAh rfl e) rfl)
 ·rw [zBJ]
  unfold lamL
  rw [Q7]
  rfl
def dirS(k:Nat):Str:=match k with
 | 0=>"n"
 | 1=>"e"
 | 2=>"s"
 | _=>"w"
def dv(k:Nat):C:=match k with
 | 0=>(0,-1)
 | 1=>(1,0)
 | 2=>(0,1)
 | _=>(-1,0)
theorem four{k:Nat}(h:k<4):k=0 ∨ k=1 ∨ k=2 ∨ k=3:=by lia
abbrev Ey:=C × Nat
def eyeD(e:Ey):D:=.tuple [zAb e.1,.str (dirS e.2),.int 17]
theorem zPH{tb:List (Str × D)}{ga:Rho->Option D}{ρ:Rho}{x:Str}{d:D}(h1:ga ρ=some (.str x))(h2:tb.lookup x=some d):eTab tb ga ρ=some d:=by
 unfold eTab
 rw [h1]
 exact h2
theorem st_k{k:Nat}(h:k<4):zCG.lookup (dirS k)=some (zAb (dv k)):=by rcases four h with rfl | rfl | rfl | rfl <;> rfl
theorem zP4{k:Nat}(h:k<4):zDg [zAb (0,0),.str (dirS k)]=some (zAb (dv k)):=by
 have t:eTab zCG (eV 1) ((zAG 2 [zAb (0,0),.str (dirS k)]).map frz)=some (zAb (dv k)):=zPH rfl (st_k h)
 have e:zAb (dv k)=.tuple [.int (0+(dv k).1),.int (0+(dv k).2)]:=by rw [Int.zero_add,Int.zero_add];rfl
 refine zAw (zAv ?_)
 conv=>rhs;rw [e]
 exact oT2 (oo rfl (oo t rfl rfl) rfl) (oo rfl (oo t rfl rfl) rfl)
def zDw(k:Nat)(x y:Int):Bool:=decide (iabs (x * (dv k).2-y * (dv k).1)<=x * (dv k).1+y * (dv k).2)
theorem zLb{e:Ey}{c:C}(h:e.2<4):zDm [eyeD e,zAb c]=some (.bool (zDw e.2 (c.1-e.1.1) (c.2-e.1.2))):=by
 have m:∀ i j:Int,j=0 ∨ j=1 ∨ j=-1->zAy (.int i) (.int j)=some (.int (i * j)):=fun i j hj=>zBi (okT (by lia) (by lia))
 have s1:(dv e.2).1=0 ∨ (dv e.2).1=1 ∨ (dv e.2).1=-1:=by rcases four h with z | z | z | z <;> rw [z] <;> decide
 have s2:(dv e.2).2=0 ∨ (dv e.2).2=1 ∨ (dv e.2).2=-1:=by rcases four h with z | z | z | z <;> rw [z] <;> decide
 have b:=zP4 h
 refine zAw (zAn (zAz (zAh rfl b)) (zAn (zAz (d:=.int (c.1-e.1.1)) rfl) (zAn (zAz (d:=.int (c.2-e.1.2)) rfl) (zAv ?_))))
 exact oo (zAh (zAB (oo (oo rfl rfl (m _ _ s2)) (oo rfl rfl (m _ _ s1)) rfl) rfl) rfl) (oo (oo rfl rfl (m _ _ s1)) (oo rfl rfl (m _ _ s2)) rfl) rfl
theorem zPU(x y:Int):∃ k,k<4/\zDw k x y=true:=by
 have g:∀ k,(iabs (x * (dv k).2-y * (dv k).1)<=x * (dv k).1+y * (dv k).2)->zDw k x y=true:=fun k h=>decide_eq_true h
 by_cases c1:iabs x<=-y
 ·refine⟨0,by decide,g 0 ?_⟩
  show iabs (x * -1-y * 0)<=x * 0+y * -1
  unfold iabs at c1 ⊢
  split <;> split at c1 <;> lia
 by_cases c2:iabs y<=x
 ·refine⟨1,by decide,g 1 ?_⟩
  show iabs (x * 0-y * 1)<=x * 1+y * 0
  unfold iabs at c2 ⊢
  split <;> split at c2 <;> lia
 by_cases c3:iabs x<=y
 ·refine⟨2,by decide,g 2 ?_⟩
  show iabs (x * 1-y * 0)<=x * 0+y * 1
  unfold iabs at c3 ⊢
  split <;> split at c3 <;> lia
 ·refine⟨3,by decide,g 3 ?_⟩
  show iabs (x * 0-y * -1)<=x * -1+y * 0
  unfold iabs at c1 c2 c3 ⊢
  split <;> split at c1 <;> split at c2 <;> split at c3 <;> lia
section
variable {w h:Nat}{W:C->Bool}(w4:w<=4)(h4:h<=4)
def spot(S:C->Bool)(e:Ey)(c:C):Bool:=zDw e.2 (c.1-e.1.1) (c.2-e.1.2) && seeB S e.1 c
include w4 h4
theorem zP0{e:Ey}{c:C}(hk:e.2<4)(ho:inR w h e.1=true)(hc:inR w h c=true):zDj [solD w h W,eyeD e,zAb c]=some (.bool (spot (sol w h W) e c)):=by
 have a:=zLb (e:=e) (c:=c) hk
 have s:=zKI (a:=e.1) (b:=c) (zDP (QU w4) (QU h4) hc ho)
 have m:zAy (.int 17) (.int 17)=some (.int 289):=rfl
 have bd:=zKH w4 h4 ho hc
 have ea:=zHZ (W:=W) (QU w4) (QU h4) ho hc
 have g:dGt (.int (sq e.1 c)) (.int 289)=some (.bool false):=by
  show some (PyData.bool (decide ((289:Int)<sq e.1 c)))=_
  rw [decide_eq_false (by lia)]
 refine zAw ?_
 unfold spot
 cases c1:zDw e.2 (c.1-e.1.1) (c.2-e.1.2)with
 | true=>
  rw [c1]at a
  refine zAn (zDY (oO0 (oN (oB (zAh rfl a))) (oB (oo (zAh rfl s) (oo rfl rfl m) g)))) (zAv ?_)
  rw [JI]
  exact zAh rfl ea
 | false=>
  rw [c1]at a
  refine zER (zCe (b:=true) ?_ (fun _=>zAv rfl) fun z=>nomatch z)
  have t:=oN (oB (zAh (gr:=zAc (eV 1) (zAc (eV 2) eNil)) (ρ:=(zAG 3 [solD w h W,eyeD e,zAb c]).map frz) rfl a))
  unfold eOr
  rw [t]
  rfl
def EOk(w h:Nat)(W:C->Bool)(E:List Ey):Prop:=∀ e∈E,e.2<4/\inR w h e.1=true/\W e.1=false
omit w4 h4 in
theorem zPv{E:List Ey}(o:EOk w h W E):zDu [flD w h W,.list (E.map eyeD)]=some .none:=by
 obtain⟨ρ,e,_⟩:=zEo (g:=zBa (zAf zBx (zAc (eV 0) (zAc (eOp dIx (eV 2) (eC (.int 0))) eNil)))) (s:=zAm 2) eyeD (fun ρ=>∃ s2,ρ=[.dat (flD w h W),.dat (.list (E.map eyeD)),s2]) E [.dat (flD w h W),.dat (.list (E.map eyeD)),.no] ⟨_,rfl⟩ (by
  rintro x hx ρ ⟨s2,rfl⟩
  refine⟨[.dat (flD w h W),.dat (.list (E.map eyeD)),.dat (eyeD x)],[.dat (flD w h W),.dat (.list (E.map eyeD)),.dat (eyeD x)],rfl,?_,⟨_,rfl⟩⟩
  obtain⟨_,a,b⟩:=o x hx
  have q:=zGw (W:=W) a b
  exact zBZ (zAh rfl q))
 exact zFK (zBL (zAO rfl rfl) e)
theorem zMs(ns:List Int):dEq (scr ns) (.list [])=some (.bool ns.isEmpty):=by
 unfold dEq
 rw [zKu]
 cases ns <;> rfl
theorem zMw{E:List Ey}{c:C}(o:EOk w h W E)(hl:E.length<=900)(hc:inR w h c=true):∃ ns,zDk [flD w h W,.list (E.map eyeD),zAb c]=some (scr ns)/\((∃ e∈E,spot (sol w h W) e c=true)->ns.isEmpty=false):=by
 have re:=zPv o
 have rf:=zGF (W:=W) hc
 have mk:=zED (W:=W) (QU w4) (QU h4)
 refine⟨(E.zipIdx.filter fun p=>spot (sol w h W) p.1 c).map fun p=>((p.2:Nat):Int),?_,?_⟩
 ·have nu:zDt [solD w h W,.list (E.map eyeD),zAb c]=some (scr ((E.zipIdx.filter fun p=>spot (sol w h W) p.1 c).map fun p=>((p.2:Nat):Int))):=by
   have it:zCv (zAc (eV 1) eNil) [.dat (solD w h W),.dat (.list (E.map eyeD)),.dat (zAb c)]=some (E.zipIdx.map fun p=>PyData.tuple [.int ((p.2:Nat):Int),eyeD p.1]):=by
    show some (zA9 0 (E.map eyeD))=_
    rw [zGq]
   refine zAw (zAv (zAP (xs:=E.zipIdx) (fun p=>PyData.tuple [.int ((p.2:Nat):Int),eyeD p.1]) (fun p=>spot (sol w h W) p.1 c) (fun p=>.int ((p.2:Nat):Int)) (fun ρ=>∃ s0 s1,ρ=[s0,s1,.dat (solD w h W),.dat (zAb c)]) it (by rw [List.length_zipIdx];lia) ⟨.no,.no,rfl⟩ ?_ (by rw [Q7];rfl)))
   rintro p hp ρ ⟨s0,s1,rfl⟩
   refine⟨[.dat (.int (p.2:Int)),.dat (eyeD p.1),.dat (solD w h W),.dat (zAb c)],rfl,⟨_,_,rfl⟩,?_,fun _=>rfl⟩
   have m:p.1∈E:=by
    have:=YI (f:=Prod.fst) hp
    rwa [List.zipIdx_map_fst]at this
   obtain⟨a,b,_⟩:=o p.1 m
   exact oB (zAh rfl (zP0 w4 h4 (W:=W) a b hc))
  exact zAw (zAn (zBZ (zAh rfl re)) (zAn (zBZ (zAh rfl rf)) (zAv (zAh (zAB (zAh rfl mk) rfl) nu))))
 ·rintro⟨e,he,hs⟩
  rw [<- List.zipIdx_map_fst 0 E]at he
  obtain⟨p,hp,rfl⟩:=QJ.mp he
  rw [List.isEmpty_map]
  refine List.isEmpty_eq_false_iff.mpr fun z=>?_
  have:p∈E.zipIdx.filter fun p=>spot (sol w h W) p.1 c:=QB.mpr ⟨hp,hs⟩
  rw [z]at this
  cases this
end
end My
namespace My
open PySem PySem.SeqAt L2 DL SD SL EL DC TB TX
theorem zJL{t u:Rho->Option Bool}{ρ:Rho}(h1:t ρ=some false)(h2:u ρ=some false):eOr t u ρ=some false:=by
 exact oO0 h1 h2
theorem zKP{ga gb:Rho->Option D}{ρ:Rho}{l m:List C}(h1:ga ρ=some (.list (l.map zAb)))(h2:gb ρ=some (.list (m.map zAb))):eOp dEq ga gb ρ=some (.bool (decide (l=m))):=by
 exact oo h1 h2 (zH2 l m)
theorem min_i(i j:Int):dMin [.int i,.int j]=some (.int (if j<i then j else i)):=id rfl
theorem zNC{w h h3:Nat}{W:C->Bool}(e:h3=min h 3):(((cells w h).filter W).filter fun c=>decide (c.2<3))=(cells w h3).filter W:=by
 refine zD3 (zBv (zBv (zBM w h) _) _) (zBv (zBM w h3) _) fun c=>?_
 rw [QB,QB,QB,zBt,zBt,zBK,zBK,decide_eq_true_eq]
 constructor
 ·rintro⟨⟨⟨a,b,c',d⟩,x⟩,z⟩
  exact⟨⟨a,b,c',by lia⟩,x⟩
 ·rintro⟨⟨a,b,c',d⟩,x⟩
  exact⟨⟨⟨a,b,c',by lia⟩,x⟩,by lia⟩
section
variable {w h:Nat}{W:C->Bool}(hw:w<=5)(hh:h<=5)
abbrev W9(w h:Nat)(W:C->Bool):C->Bool:=fun c=>W c || ((opn w h W).drop 9).contains c
include hw hh
theorem zPZ:zBQ [.list (((cells w h).filter W++(opn w h W).drop 9).map zAb)]=some (.list (((cells w h).filter (W9 w h W)).map zAb)):=by
 have wl:=zGX hw hh W
 have ol:=zEJ hw hh W
 have mo:∀ c∈(opn w h W).drop 9,c∈opn w h W:=fun c hc=>List.mem_of_mem_drop hc
 refine zKG ?_ (by rw [Qp,Yp];lia) (zBv (zBM w h) _) fun c=>?_
 ·rw [List.nodup_append]
  refine⟨zBN (zBv (zBM w h) W),(zBN (zFc w h W)).sublist (List.drop_sublist _ _),fun a ha b hb z=>?_⟩
  have p:=(QB.mp ha).2
  have q:=(zA8.mp (mo b hb)).2
  rw [z,q]at p
  cases p
 ·rw [QB,QC,QB,Bool.or_eq_true,Yj]
  constructor
  ·rintro⟨a,b | b⟩
   ·exact .inl ⟨a,b⟩
   ·exact .inr b
  ·rintro(⟨a,b⟩ | b)
   ·exact⟨a,.inl b⟩
   ·exact⟨zBt.mpr (zA8.mp (mo c b)).1,.inr b⟩
omit hw hh in
theorem opn_9:(opn w h (W9 w h W)).length<=9:=by
 obtain⟨O,hO⟩:∃ O,O=opn w h W:=⟨_,rfl⟩
 have e:opn w h (W9 w h W)=O.filter fun c => !(O.drop 9).contains c:=by
  rw [hO]
  unfold opn
  rw [List.filter_filter]
  refine Ju fun c _=>?_
  show(!(W c || ((opn w h W).drop 9).contains c))=_
  rw [Bool.not_or,JJ]
  rfl
 rw [e]
 conv=>lhs;rw [<- Q3 9 O]
 have z:((O.drop 9).filter fun c => !((O.take 9++O.drop 9).drop 9).contains c)=[]:=zFG fun c hc=>by
  rw [Q3,Yj.mpr hc]
  rfl
 rw [List.filter_append,z,Yk]
 exact Ql (QR _ _) (by rw [QV];lia)
end
def hf(c:C):C:=(c.1 / 2,c.2)
theorem zLg{w h:Nat}{V:C->Bool}{F:List C}(w4:w<=4)(h3:h<=3)(u:Up F)(s:∀ c∈F,c∈opn w h V)(i:Ind (sS w h V) F):F.length<=6:=by
 have w5:w<=5:=by lia
 have h5:h<=5:=by lia
 have nd:(F.map hf).Nodup:=by
  refine Q1.mpr ((zBN u).imp_of_mem fun{a b} ha hb ne z=>?_)
  have no:=i a ha b hb ne
  have no:seeB (sol w h V) a b=false:=no
  have oa:=zA8.mp (s a ha)
  rw [zKq w5 h5 (s a ha) (s b hb),zLL]at no
  ·cases no
  ·have z1:(hf a).1=(hf b).1:=congrArg Prod.fst z
   have z1:a.1 / 2=b.1 / 2:=z1
   have z2:(hf a).2=(hf b).2:=congrArg Prod.snd z
   have z2:a.2=b.2:=z2
   unfold iabs
   split <;> split <;> lia
  ·rw [zE2 w5 h5 oa.1]
   exact oa.2
 obtain⟨m,um,lm,mm⟩:=zKE nd
 have sub:∀ c∈m,c∈cells 2 3:=fun c hc=>by
  obtain⟨a,ha,rfl⟩:=QJ.mp ((mm c).mp hc)
  have q:=zBK.mp (zA8.mp (s a ha)).1
  refine zBt.mpr (zBK.mpr ?_)
  show 0<=a.1 / 2/\a.1 / 2<2/\0<=a.2/\a.2<3
  lia
 have:=zFb (zBM 2 3) um sub
 rw [lm,Qj,zBF]at this
 exact this
theorem zK8(A B:List Ey)(h:A.length+B.length<=1000):zAx (.list (A.map eyeD)) (.list (B.map eyeD))=some (.list ((A++B).map eyeD)):=by
 show(if(A.map eyeD).length+(B.map eyeD).length<=1000 then _ else _)=_
 rw [if_pos (by rw [Qj,Qj];exact h),Yh]
def zBf(x:La):List Ey:=(List.range 4).map fun k=>(x.1,k)
theorem zMx{n:Nat}(hn:n<=100){s0 s1 s2 s3 s4 s5 s6 s7 s8 s9 s10:Sl}{L:List La}(hl:L.length<=n):∃ a b,forN (uTup 2 (zAH (zAm 9) (zAH (zAm 10) uNil))) (sSet 11 (eOp zAx (eV 11) (eLc (zAA (iStr (eC (.str "nesw"))) (zAm 0) eT (eTup (zAc (eV 1) (zAc (eV 0) (zAc (eC (.int 17)) eNil)))) [none,some 9])))) (L.map zAo) [s0,s1,s2,s3,s4,s5,s6,s7,s8,s9,s10,.dat (.list [])]=some (.nx [s0,s1,s2,s3,s4,s5,s6,s7,s8,a,b,.dat (.list ((L.flatMap zBf).map eyeD))]):=by
 have r:=zC1 zAo (s:=uTup 2 (zAH (zAm 9) (zAH (zAm 10) uNil))) (g:=sSet 11 (eOp zAx (eV 11) (eLc (zAA (iStr (eC (.str "nesw"))) (zAm 0) eT (eTup (zAc (eV 1) (zAc (eV 0) (zAc (eC (.int 17)) eNil)))) [none,some 9]))))
  (fun(b:List Ey × Sl × Sl)=>[s0,s1,s2,s3,s4,s5,s6,s7,s8,b.2.1,b.2.2,.dat (.list (b.1.map eyeD))]) (fun b x=>(b.1++zBf x,.dat (zAb x.1),.dat (.int (x.2:Int)))) (fun i b=>b.1.length=4 * i) n L 0 ([],s9,s10) (by lia) rfl (fun x _ i b hi hb=>by
   refine⟨⟨[s0,s1,s2,s3,s4,s5,s6,s7,s8,.dat (zAb x.1),.dat (.int (x.2:Int)),.dat (.list (b.1.map eyeD))],rfl,?_⟩,?_⟩
   ·have hb:b.1.length=4 * i:=hb
    have c:=zAP (gi:=iStr (eC (.str "nesw"))) (s:=zAm 0) (t:=eT) (ge:=eTup (zAc (eV 1) (zAc (eV 0) (zAc (eC (.int 17)) eNil)))) (inner:=[none,some 9]) (ρ:=[s0,s1,s2,s3,s4,s5,s6,s7,s8,.dat (zAb x.1),.dat (.int (x.2:Int)),.dat (.list (b.1.map eyeD))]) (xs:=List.range 4) (fun k=>.str (dirS k)) (fun _=>true) (fun k=>eyeD (x.1,k)) (fun ρ=>∃ z,ρ=[z,.dat (zAb x.1)]) rfl (by decide) ⟨.no,rfl⟩ (by
     rintro k _ ρ ⟨z,rfl⟩
     exact⟨[.dat (.str (dirS k)),.dat (zAb x.1)],rfl,⟨_,rfl⟩,rfl,fun _=>rfl⟩) (out:=(zBf x).map eyeD) rfl
    exact zAz (oo rfl c (zK8 b.1 (zBf x) (by rw [hb];show 4 * i+4<=1000;lia)))
   ·have hb:b.1.length=4 * i:=hb
    show(b.1++zBf x).length=4 * (i+1)
    rw [Qp,hb]
    show 4 * i+4=_
    lia)
 obtain⟨B,hB⟩:∃ B,B=L.foldl (fun(b:List Ey × Sl × Sl) x=>(b.1++zBf x,.dat (zAb x.1),.dat (.int (x.2:Int)))) ([],s9,s10):=⟨_,rfl⟩
 rw [<- hB]at r
 have e:B.1=L.flatMap zBf:=by
  rw [hB]
  exact(zFN (fun(b:List Ey) (x:La)=>b++zBf x) (fun(x:La)=>((Sl.dat (zAb x.1),Sl.dat (.int (x.2:Int))):Sl × Sl)) L [] (s9,s10)).trans List.flatMap_eq_foldl.symm
 refine⟨B.2.1,B.2.2,r.trans ?_⟩
 rw [e]
theorem main(ns:List Int)(hn:ns.length<=63):Glaw [.list (ns.map PyData.int)]=some (.bool true):=by
 obtain⟨w,h,W,eF,w1,w4,h1,h4⟩:=zMH ns hn 0 4 (by decide) (by decide)
 have eF:zCH [scr ns,.int 0,.int 4]=some (flD w h W):=eF
 have w5:w<=5:=by lia
 obtain⟨h3,e3⟩:∃ h3,h3=min h 3:=⟨_,rfl⟩
 have h30:0<h3:=by lia
 have h5:h3<=5:=by lia
 have hi:(if(h:Int)<3 then(h:Int)else 3)=(h3:Int):=by split <;> lia
 refine zAw ?_
 unfold glaw
 show _=some (Out.rt (.bool true))
 rw [show zAG 12 [PyData.list (ns.map PyData.int)]=[.dat (scr ns),.no,.no,.no,.no,.no,.no,.no,.no,.no,.no,.no]from rfl]
 refine zAn (zPE (zAh rfl eF) rfl) ?_
 have cA:=zAP (gi:=iSeq (eV 3)) (s:=zAm 0) (t:=eB (eOp dLt2 (eOp dIx (eV 0) (eC (.int 1))) (eC (.int 3)))) (ge:=eV 0) (inner:=[none]) (ρ:=[.dat (scr ns),.dat (.int w),.dat (.int h),.dat (zAT w h W),.no,.no,.no,.no,.no,.no,.no,.no]) (xs:=(cells w h).filter W) zAb (fun c=>decide (c.2<3)) zAb (fun ρ=>∃ s0,ρ=[s0]) (zAO rfl rfl) (by have:=zGX w5 (by lia:h<=5) W;lia) ⟨.no,rfl⟩ (by
  rintro c _ ρ ⟨s0,rfl⟩
  exact⟨[.dat (zAb c)],rfl,⟨_,rfl⟩,rfl,fun _=>rfl⟩) (out:=((cells w h3).filter W).map zAb) (by rw [zNC e3])
 have mn:dMin [.int 3,.int (h:Int)]=some (.int (h3:Int)):=by rw [min_i,hi]
 refine zAn (ρ':=[.dat (scr ns),.dat (.int w),.dat (.int h),.dat (zAT w h W),.dat (flD w h3 W),.no,.no,.no,.no,.no,.no,.no]) (zAz (oT3 rfl (zAh rfl mn) (zAh (zAB cA rfl) rfl))) ?_
 have lo:=zJj (W:=W) w5 h30 h5
 have s2:dSl2 (.list ((opn w h3 W).map zAb)) (some 9) none=some (.list (((opn w h3 W).drop 9).map zAb)):=by
  show some (PyData.list (cutD ((opn w h3 W).map zAb) (some ((9:Nat):Int)) none))=_
  rw [zLU]
 have ad:=zHo ((cells w h3).filter W) ((opn w h3 W).drop 9) (by have:=zGX w5 h5 W;have:=zEJ w5 h5 W;rw [Yp];lia)
 have so:=zPZ (W:=W) w5 h5
 refine zAn (ρ':=[.dat (scr ns),.dat (.int w),.dat (.int h),.dat (zAT w h W),.dat (flD w h3 (W9 w h3 W)),.no,.no,.no,.no,.no,.no,.no]) (zAz (oo rfl (oT1 (zAh (zAB (zAh (zAB (oo rfl (oS (zAh rfl lo) rfl rfl s2) ad) rfl) so) rfl) rfl)) rfl)) ?_
 have l9:=opn_9 (w:=w) (h:=h3) (W:=W)
 clear cA lo s2 ad so
 generalize W9 w h3 W=V at l9 ⊢
 have lo:=zJj (W:=V) w5 h30 h5
 obtain⟨P,fP,eP⟩:=zO4 w5 h5 l9
 obtain⟨F,fF,eF2⟩:=zLh w5 h5 l9
 have y:=zGT (W:=V) w5 h5
 have dF:=zNI y fF
 have h33:h3<=3:=by lia
 have h44:h3<=4:=by lia
 have lF:F.length<=6:=zLg w4 h33 fF.up fF.sub fF.ind
 have lP:P.length<=6:=Ql (fP.min F fF.up fF.sub dF) lF
 have LP:=zI4 ns hn 60 (cs:=P) (by lia)
 have LF:=zI4 ns hn 70 (cs:=F) (by lia)
 refine zAn (zAz (zAh rfl lo)) (zAn (zAz (zAh (zAB rfl (zAB rfl (zAB (zAh rfl eP) rfl))) LP)) (zAn (zAz (zAh (zAB rfl (zAB rfl (zAB (zAh rfl eF2) rfl))) LF)) ?_))
 have ok:∀(at':Int) (cs:List C),(∀ c∈cs,c∈opn w h3 V)->LOk w h3 V (lamL ns at' cs):=fun at' cs hc x hx=>by
  have o:=zA8.mp (hc x.1 (zDL hx))
  have s:=zI3 hn hx
  exact⟨o.1,o.2,s.1,s.2⟩
 have oP:=ok 60 P fP.sub
 have oF:=ok 70 F fF.sub
 have nP:(lamL ns 60 P).length<=6:=by rw [zI2];exact lP
 have nF:(lamL ns 70 F).length<=6:=by rw [zI2];exact lF
 have seen:∀(at':Int) (cs:List C),dom (sS w h3 V) (opn w h3 V) cs=true->∀ c∈opn w h3 V,∃ x∈lamL ns at' cs,seeB (sol w h3 V) x.1 c=true:=fun at' cs hd c hc=>by
  unfold dom at hd
  obtain⟨p,hp,hs⟩:=JD.mp (QG.mp hd c hc)
  obtain⟨x,hx,e⟩:=zNo (ns:=ns) (at':=at') hp
  exact⟨x,hx,by rw [e];exact hs⟩
 have dk:∀(at':Int) (cs:List C),dom (sS w h3 V) (opn w h3 V) cs=true->((opn w h3 V).filter fun c=>lt (sol w h3 V) c (lamL ns at' cs) == (0,1))=[]:=fun at' cs hd=>zFG fun c hc=>by
  obtain⟨x,hx,hs⟩:=seen at' cs hd c hc
  exact zNF hx hs
 have li:∀(at':Int) (cs:List C),dom (sS w h3 V) (opn w h3 V) cs=true->((opn w h3 V).filter fun c => !lsF (lt (sol w h3 V) c (lamL ns at' cs)) (1,1000))=opn w h3 V:=fun at' cs hd=>by
  refine List.filter_eq_self.mpr fun c hc=>?_
  obtain⟨x,hx,hs⟩:=seen at' cs hd c hc
  rw [zND hx hs]
  rfl
 refine zAn (zDY (zJL (zE7 (zAh rfl (zFs w4 h44 oP nP)) (zEC _) (dk 60 P fP.dom)) (zE7 (zAh rfl (zFs w4 h44 oF nF)) (zEC _) (dk 70 F dF)))) ?_
 refine zAn (zDY (zJL (zE7 (zAh rfl (zJh w4 h44 oP nP (q:=(1,1000)) (by decide))) rfl (li 60 P fP.dom)) (zE7 (zAh rfl (zJh w4 h44 oF nF (q:=(1,1000)) (by decide))) rfl (li 70 F dF)))) ?_
 refine zKf zAo (fun ρ=>∃ s8,ρ=[.dat (scr ns),.dat (.int w),.dat (.int h),.dat (zAT w h W),.dat (flD w h3 V),.dat (.list ((opn w h3 V).map zAb)),.dat (.list ((lamL ns 60 P).map zAo)),.dat (.list ((lamL ns 70 F).map zAo)),s8,.no,.no,.no]) (lamL ns 60 P) (zAO (d:=.list ((lamL ns 60 P).map zAo)) rfl rfl) ⟨_,rfl⟩ ?_ ?_
 ·rintro x hx ρ ⟨s8,rfl⟩
  refine⟨[.dat (scr ns),.dat (.int w),.dat (.int h),.dat (zAT w h W),.dat (flD w h3 V),.dat (.list ((opn w h3 V).map zAb)),.dat (.list ((lamL ns 60 P).map zAo)),.dat (.list ((lamL ns 70 F).map zAo)),.dat (zAo x),.no,.no,.no],rfl,zJG ?_ ⟨_,rfl⟩⟩
  have ls:=zAP (gi:=iSeq (eV 6)) (s:=zAm 0) (t:=eB (eOp dNe (eOp dIx (eV 0) (eC (.int 0))) (eOp dIx (eV 1) (eC (.int 0))))) (ge:=eV 0) (inner:=[none,some 8]) (ρ:=[.dat (scr ns),.dat (.int w),.dat (.int h),.dat (zAT w h W),.dat (flD w h3 V),.dat (.list ((opn w h3 V).map zAb)),.dat (.list ((lamL ns 60 P).map zAo)),.dat (.list ((lamL ns 70 F).map zAo)),.dat (zAo x),.no,.no,.no]) (xs:=lamL ns 60 P) zAo (fun y => !(y.1 == x.1)) zAo (fun ρ=>∃ s0,ρ=[s0,.dat (zAo x)]) (zAO (d:=.list ((lamL ns 60 P).map zAo)) rfl rfl) (by lia) ⟨.no,rfl⟩ (by
   rintro y _ ρ ⟨s0,rfl⟩
   exact⟨[.dat (zAo y),.dat (zAo x)],rfl,⟨_,rfl⟩,oB (oo rfl rfl (ne_c y.1 x.1)),fun _=>rfl⟩) rfl
  have da:=zFs w4 h44 (W:=V) (L:=(lamL ns 60 P).filter fun y => !(y.1 == x.1)) (fun y hy=>oP y (QB.mp hy).1) (Ql (QR _ _) nP)
  have fl:=zMy fP (zDL hx)
  have nd:¬ ((opn w h3 V).filter fun c=>lt (sol w h3 V) c ((lamL ns 60 P).filter fun y => !(y.1 == x.1)) == (0,1))=[]:=fun z=>by
   refine absurd fl (Bool.not_eq_false _ ▸ ?_)
   unfold dom
   refine QG.mpr fun c hc=>?_
   have nz:=List.filter_eq_nil_iff.mp z c hc
   refine JD.mpr (Yo fun no=>nz ?_)
   refine lt_no fun y hy=>?_
   obtain⟨my,ny⟩:=QB.mp hy
   cases q:seeB (sol w h3 V) y.1 c with
   | false=>rfl
   | true=>exact absurd ⟨y.1,QB.mpr ⟨zDL my,ny⟩,q⟩ no
  refine oB ((zKP (zAh (ds:=[flD w h3 V,.list (((lamL ns 60 P).filter fun y => !(y.1 == x.1)).map zAo)]) (zAB rfl (zAB ls rfl)) da) (zEC _)).trans ?_)
  rw [decide_eq_false nd]
 rintro ρ ⟨s8,rfl⟩
 refine zKf zAo (fun ρ=>∃ s9 s10,ρ=[.dat (scr ns),.dat (.int w),.dat (.int h),.dat (zAT w h W),.dat (flD w h3 V),.dat (.list ((opn w h3 V).map zAb)),.dat (.list ((lamL ns 60 P).map zAo)),.dat (.list ((lamL ns 70 F).map zAo)),s8,s9,s10,.no]) (lamL ns 70 F) (zAO (d:=.list ((lamL ns 70 F).map zAo)) rfl rfl) ⟨_,_,rfl⟩ ?_ ?_
 ·rintro x hx ρ ⟨s9,s10,rfl⟩
  refine⟨[.dat (scr ns),.dat (.int w),.dat (.int h),.dat (zAT w h W),.dat (flD w h3 V),.dat (.list ((opn w h3 V).map zAb)),.dat (.list ((lamL ns 60 P).map zAo)),.dat (.list ((lamL ns 70 F).map zAo)),s8,.dat (zAb x.1),.dat (.int (x.2:Int)),.no],rfl,zJG ?_ ⟨_,_,rfl⟩⟩
  have mx:=zDL hx
  have la:=zNy w4 h44 oF nF (zA8.mp (fF.sub x.1 mx)).1
  have st:=zI3 hn hx
  have lo:=zNE (S:=sol w h3 V) (L:=lamL ns 70 F) (by rw [zEt];exact zBN fF.up) hx st.1 st.2 (zKr w5 h5 (fF.sub x.1 mx)) fun z hz ne=>fF.ind z.1 (zDL hz) x.1 mx ne
  have ne:dNe (frD (lt (sol w h3 V) x.1 (lamL ns 70 F))) (frD (x.2,1))=some (.bool false):=by
   rw [ne_fr,lo,beq_self_eq_true]
   rfl
  exact oB (oo (zAh rfl la) (oT2 rfl rfl) ne)
 rintro ρ ⟨s9,s10,rfl⟩
 refine zAn (zAz (d:=.list []) rfl) ?_
 obtain⟨a,b,em⟩:=zMx (n:=6) (by decide) (s0:=.dat (scr ns)) (s1:=.dat (.int w)) (s2:=.dat (.int h)) (s3:=.dat (zAT w h W)) (s4:=.dat (flD w h3 V)) (s5:=.dat (.list ((opn w h3 V).map zAb))) (s6:=.dat (.list ((lamL ns 60 P).map zAo))) (s7:=.dat (.list ((lamL ns 70 F).map zAo))) (s8:=s8) (s9:=s9) (s10:=s10) nP
 refine zAn (zBL (zAO (d:=.list ((lamL ns 60 P).map zAo)) rfl rfl) em) ?_
 have oE:EOk w h3 V ((lamL ns 60 P).flatMap zBf):=fun e he=>by
  obtain⟨x,hx,hk⟩:=List.mem_flatMap.mp he
  obtain⟨k,k4,rfl⟩:=QJ.mp hk
  have o:=oP x hx
  exact⟨QE.mp k4,o.1,o.2.1⟩
 have lE:((lamL ns 60 P).flatMap zBf).length<=900:=by
  have:∀ L:List La,(L.flatMap zBf).length=4 * L.length:=fun L=>by
   induction L with
   | nil=>rfl
   | cons x L ih=>rw [List.flatMap_cons,Qp,ih,QL];show 4+4 * L.length=_;lia
  rw [this]
  lia
 refine zAv ((zKP (l:=[]) (m:=[]) ?_ (zEC _)).trans rfl)
 refine zAP (xs:=opn w h3 V) zAb (fun _=>false) zAb (fun ρ=>∃ s0,ρ=[s0,.dat (flD w h3 V),.dat (.list (((lamL ns 60 P).flatMap zBf).map eyeD))]) (zAO (d:=.list ((opn w h3 V).map zAb)) rfl rfl) (by lia) ⟨.no,rfl⟩ ?_ (by rw [zFG fun _ _=>rfl])
 rintro c hc ρ ⟨s0,rfl⟩
 refine⟨[.dat (zAb c),.dat (flD w h3 V),.dat (.list (((lamL ns 60 P).flatMap zBf).map eyeD))],rfl,⟨_,rfl⟩,?_,fun z=>by cases z⟩
 obtain⟨ks,e,no⟩:=zMw w4 h44 oE lE (zA8.mp hc).1
 obtain⟨x,hx,hs⟩:=seen 60 P fP.dom c hc
 obtain⟨k,k4,ha⟩:=zPU (c.1-x.1.1) (c.2-x.1.2)
 have ne:=no ⟨(x.1,k),List.mem_flatMap.mpr ⟨x,hx,QJ.mpr ⟨k,QE.mpr k4,rfl⟩⟩,by unfold spot;rw [ha,hs];rfl⟩
 exact oB (oo (zAh rfl e) rfl ((zMs w4 h44 ks).trans (by rw [ne])))
end My
namespace My
open PySem PySem.Spec PySem.SeqAt PyProof.Rows L2 CL DL SD ZL SL EL DC TB TX
theorem us1{p:List Value->Prop}{us:List Value}(h:us.length=1)(q:∀ a,p [a]):p us:=by
 rcases us with _ | ⟨a,_ | ⟨b,r⟩⟩
 ·cases h
 ·exact q a
 ·simp at h
theorem us2{p:List Value->Prop}{us:List Value}(h:us.length=2)(q:∀ a b,p [a,b]):p us:=by
 rcases us with _ | ⟨a,r⟩
 ·cases h
 ·exact us1 (p:=fun r=>p (a::r)) (us:=r) (by simpa using h) fun b=>q a b
theorem us3{p:List Value->Prop}{us:List Value}(h:us.length=3)(q:∀ a b c,p [a,b,c]):p us:=by
 rcases us with _ | ⟨a,r⟩
 ·cases h
 ·exact us2 (p:=fun r=>p (a::r)) (us:=r) (by simpa using h) fun b c=>q a b c
theorem us4{p:List Value->Prop}{us:List Value}(h:us.length=4)(q:∀ a b c d,p [a,b,c,d]):p us:=by
 rcases us with _ | ⟨a,r⟩
 ·cases h
 ·exact us3 (p:=fun r=>p (a::r)) (us:=r) (by simpa using h) fun b c d=>q a b c d
theorem all_mk(main:∀ ns:List Int,ns.length<=63->Glaw [.list (ns.map PyData.int)]=some (.bool true)){l:PySem.W.OpenLaw}{w:World}{K:PySem.W.Frag}{mg:Str->Option Value}{fa:Addr}(hfa:mg "law"=some (.ref fa))(T:∃ a d ta,Txt K mg a d w ta):
  ∃ fd:FuncData,(∀(s:Shared) (v:Value),BindsTo s fd ⟨[v],[]⟩ [("_law_script",v)])/\∀ base:Heap,K.In base->base.Ns mainGlobals mg->FnOk l.prog w K mg base CX0 10 fa fd ["_law_script"] (zE4 K Glaw):=by
 obtain⟨a,d,ta,T⟩:=T
 have e:=T.F_p8.m.symm.trans hfa
 cases e
 obtain⟨oc,od,kV,doc,pm,an,cdv,ct,osl,e,_⟩:=T.F_p8.F.ex
 refine⟨d 44,fun s v=>by rw [e];exact .of_eq rfl,fun base _ _=>?_⟩
 have G_qt:=ok_qt (P:=l.prog) (w:=w) (base:=base) T
 have G_qq:=ok_qq (P:=l.prog) (w:=w) (base:=base) T
 have G_p6:=ok_p6 (P:=l.prog) (w:=w) (base:=base) T
 have G_p0:=ok_p0 (P:=l.prog) (w:=w) (base:=base) T
 have G_q7:=ok_q7 (P:=l.prog) (w:=w) (base:=base) T
 have G_q9:=ok_q9 (P:=l.prog) (w:=w) (base:=base) T
 have G_p2:=ok_p2 (P:=l.prog) (w:=w) (base:=base) T
 have G_q6:=ok_q6 (P:=l.prog) (w:=w) (base:=base) T
 have G_q5:=ok_q5 (P:=l.prog) (w:=w) (base:=base) T
 have G_p4:=ok_p4 (P:=l.prog) (w:=w) (base:=base) T
 have G_qc:=ok_qc (P:=l.prog) (w:=w) (base:=base) T
 have G_p5:=ok_p5 (P:=l.prog) (w:=w) (base:=base) T
 have G_qr:=ok_qr (P:=l.prog) (w:=w) (base:=base) T
 have G_qj:=ok_qj (P:=l.prog) (w:=w) (base:=base) T
 have G_q2:=ok_q2 (P:=l.prog) (w:=w) (base:=base) T G_qt
 have G_qk:=ok_qk (P:=l.prog) (w:=w) (base:=base) T G_qq
 have G_qy:=ok_qy (P:=l.prog) (w:=w) (base:=base) T G_p0 G_q7
 have G_qo:=ok_qo (P:=l.prog) (w:=w) (base:=base) T G_q5
 have G_qv:=ok_qv (P:=l.prog) (w:=w) (base:=base) T G_p5
 have G_qi:=ok_qi (P:=l.prog) (w:=w) (base:=base) T G_qr
 have G_qp:=ok_qp (P:=l.prog) (w:=w) (base:=base) T G_qj
 have G_p3:=ok_p3 (P:=l.prog) (w:=w) (base:=base) T G_q2
 have G_q4:=ok_q4 (P:=l.prog) (w:=w) (base:=base) T G_qy
 have G_q3:=ok_q3 (P:=l.prog) (w:=w) (base:=base) T G_qk
 have G_p7:=ok_p7 (P:=l.prog) (w:=w) (base:=base) T G_qo
 have G_qe:=ok_qe (P:=l.prog) (w:=w) (base:=base) T G_qi
 have G_qg:=ok_qg (P:=l.prog) (w:=w) (base:=base) T G_qi
 have G_q0:=ok_q0 (P:=l.prog) (w:=w) (base:=base) T G_p3
 have G_qu:=ok_qu (P:=l.prog) (w:=w) (base:=base) T G_q4 G_p7 G_qc
 have G_qs:=ok_qs (P:=l.prog) (w:=w) (base:=base) T G_q4 G_qv G_qc
 have G_qx:=ok_qx (P:=l.prog) (w:=w) (base:=base) T G_q0
 have G_qf:=ok_qf (P:=l.prog) (w:=w) (base:=base) T G_qs
 have G_q1:=ok_q1 (P:=l.prog) (w:=w) (base:=base) T G_qx
 have G_qz:=ok_qz (P:=l.prog) (w:=w) (base:=base) T G_q1 G_p6 G_qk G_qy
 have G_qb:=ok_qb (P:=l.prog) (w:=w) (base:=base) T G_q1
 have G_qd:=ok_qd (P:=l.prog) (w:=w) (base:=base) T G_q1
 have G_q8:=ok_q8 (P:=l.prog) (w:=w) (base:=base) T G_p6 G_qz
 have G_qw:=ok_qw (P:=l.prog) (w:=w) (base:=base) T G_qb G_q0 G_qu G_p6
 have G_qm:=ok_qm (P:=l.prog) (w:=w) (base:=base) T G_qb G_p6 G_qu G_qk
 have G_p1:=ok_p1 (P:=l.prog) (w:=w) (base:=base) T G_qd G_q0 G_qf G_p6
 have G_qa:=ok_qa (P:=l.prog) (w:=w) (base:=base) T G_q3 G_q8 G_q9 G_p2
 have G_ql:=ok_ql (P:=l.prog) (w:=w) (base:=base) T G_q3 G_q8 G_q9 G_q6
 have G_qn:=ok_qn (P:=l.prog) (w:=w) (base:=base) T G_qm G_p4
 have G_qh:=ok_qh (P:=l.prog) (w:=w) (base:=base) T G_qm
 have G_p8:=ok_p8 (P:=l.prog) (w:=w) (base:=base) T G_qe G_qp G_qg G_qa G_ql G_qh G_qn G_qw G_p1
 exact law_D G_p8 main
theorem fo1{K:PySem.W.Frag}{h:Heap}{mg:Str->Option Value}{n:Str}{st:Stmt}{ps:List Str}{f:Addr}{od an:Option Addr}{sl:Array (Option Value)}{oc kV dc pm cd ct:Value}(X:K.In h)(G:h.Ns mainGlobals mg)(hl:ps.length=1)(hb:∀ x0,bindArgs (PySem.W.fnOf n n (zBp st) (zA3 st) (zAg st) .none kV dc pm an cd ct) ⟨[x0],[]⟩=pure (List.zip ps [x0]))
  (a:PySem.W.nsIn K mainGlobals n=some (some (.ref f))) (l:K.lookup f=some ⟨oc,od,.func (PySem.W.fnOf n n (zBp st) (zA3 st) (zAg st) .none kV dc pm an cd ct),sl⟩) (c:PySem.W.codeIn K cd n=true) (k:PySem.W.keepIn K (.ref f)=true):Fo K mg n st ps f (PySem.W.fnOf n n (zBp st) (zA3 st) (zAg st) .none kV dc pm an cd ct):=
 ⟨zFQ l c k,PySem.W.mg_of X G a,.all fun us hu=>us1 (p:=fun us=>bindArgs _ ⟨us,[]⟩=pure (List.zip _ us)) (hu.trans hl) hb⟩
theorem fo2{K:PySem.W.Frag}{h:Heap}{mg:Str->Option Value}{n:Str}{st:Stmt}{ps:List Str}{f:Addr}{od an:Option Addr}{sl:Array (Option Value)}{oc kV dc pm cd ct:Value}(X:K.In h)(G:h.Ns mainGlobals mg)(hl:ps.length=2)(hb:∀ x0 x1,bindArgs (PySem.W.fnOf n n (zBp st) (zA3 st) (zAg st) .none kV dc pm an cd ct) ⟨[x0,x1],[]⟩=pure (List.zip ps [x0,x1]))
  (a:PySem.W.nsIn K mainGlobals n=some (some (.ref f))) (l:K.lookup f=some ⟨oc,od,.func (PySem.W.fnOf n n (zBp st) (zA3 st) (zAg st) .none kV dc pm an cd ct),sl⟩) (c:PySem.W.codeIn K cd n=true) (k:PySem.W.keepIn K (.ref f)=true):Fo K mg n st ps f (PySem.W.fnOf n n (zBp st) (zA3 st) (zAg st) .none kV dc pm an cd ct):=
 ⟨zFQ l c k,PySem.W.mg_of X G a,.all fun us hu=>us2 (p:=fun us=>bindArgs _ ⟨us,[]⟩=pure (List.zip _ us)) (hu.trans hl) hb⟩
theorem fo3{K:PySem.W.Frag}{h:Heap}{mg:Str->Option Value}{n:Str}{st:Stmt}{ps:List Str}{f:Addr}{od an:Option Addr}{sl:Array (Option Value)}{oc kV dc pm cd ct:Value}(X:K.In h)(G:h.Ns mainGlobals mg)(hl:ps.length=3)(hb:∀ x0 x1 x2,bindArgs (PySem.W.fnOf n n (zBp st) (zA3 st) (zAg st) .none kV dc pm an cd ct) ⟨[x0,x1,x2],[]⟩=pure (List.zip ps [x0,x1,x2]))
  (a:PySem.W.nsIn K mainGlobals n=some (some (.ref f))) (l:K.lookup f=some ⟨oc,od,.func (PySem.W.fnOf n n (zBp st) (zA3 st) (zAg st) .none kV dc pm an cd ct),sl⟩) (c:PySem.W.codeIn K cd n=true) (k:PySem.W.keepIn K (.ref f)=true):Fo K mg n st ps f (PySem.W.fnOf n n (zBp st) (zA3 st) (zAg st) .none kV dc pm an cd ct):=
 ⟨zFQ l c k,PySem.W.mg_of X G a,.all fun us hu=>us3 (p:=fun us=>bindArgs _ ⟨us,[]⟩=pure (List.zip _ us)) (hu.trans hl) hb⟩
theorem ex1{α:Type}{p:α->Prop}{t:α}(h:p t):∃ t,p t:=⟨t,h⟩
def cn{α:Type}(x:α)(f:Nat->α):Nat->α
 | 0=>x
 | n+1=>f n
theorem tab_STEPS{K:PySem.W.Frag}{h:Heap}{mg:Str->Option Value}{w:World}{z_STEPS zp_STEPS:Nat}{zh0_STEPS:Int}{zt0_STEPS:Tok}{za0_STEPS zn0_STEPS:Nat}{zd0_STEPS:Option Addr}{zs0_STEPS:Array (Option Value)}{zu0_0_STEPS:Tok}{zu0_1_STEPS:Tok}{zh1_STEPS:Int}{zt1_STEPS:Tok}{za1_STEPS zn1_STEPS:Nat}{zd1_STEPS:Option Addr}{zs1_STEPS:Array (Option Value)}{zu1_0_STEPS:Tok}{zu1_1_STEPS:Tok}{zh2_STEPS:Int}{zt2_STEPS:Tok}{za2_STEPS zn2_STEPS:Nat}{zd2_STEPS:Option Addr}{zs2_STEPS:Array (Option Value)}{zu2_0_STEPS:Tok}{zu2_1_STEPS:Tok}{zh3_STEPS:Int}{zt3_STEPS:Tok}{za3_STEPS zn3_STEPS:Nat}{zd3_STEPS:Option Addr}{zs3_STEPS:Array (Option Value)}{zu3_0_STEPS:Tok}{zu3_1_STEPS:Tok}(X:K.In h)(G:h.Ns mainGlobals mg)(ytn:PySem.W.nsIn K mainGlobals "STEPS"=some (some (.ref z_STEPS)))(yts:K.lookup z_STEPS=some ⟨.type "dict",none,.dict #[⟨zh0_STEPS,.str "n" zt0_STEPS,.ref za0_STEPS⟩,⟨zh1_STEPS,.str "e" zt1_STEPS,.ref za1_STEPS⟩,⟨zh2_STEPS,.str "s" zt2_STEPS,.ref za2_STEPS⟩,⟨zh3_STEPS,.str "w" zt3_STEPS,.ref za3_STEPS⟩] zp_STEPS,#[]⟩)(yuv0_STEPS:K.lookup za0_STEPS=some ⟨.type "tuple",zd0_STEPS,.seq #[.int 0 zu0_0_STEPS,.int (-1) zu0_1_STEPS] zn0_STEPS,zs0_STEPS⟩)(yvh0_STEPS:zh0_STEPS=PySem.hashStr w "n")(yuv1_STEPS:K.lookup za1_STEPS=some ⟨.type "tuple",zd1_STEPS,.seq #[.int 1 zu1_0_STEPS,.int 0 zu1_1_STEPS] zn1_STEPS,zs1_STEPS⟩)(yvh1_STEPS:zh1_STEPS=PySem.hashStr w "e")(yuv2_STEPS:K.lookup za2_STEPS=some ⟨.type "tuple",zd2_STEPS,.seq #[.int 0 zu2_0_STEPS,.int 1 zu2_1_STEPS] zn2_STEPS,zs2_STEPS⟩)(yvh2_STEPS:zh2_STEPS=PySem.hashStr w "s")(yuv3_STEPS:K.lookup za3_STEPS=some ⟨.type "tuple",zd3_STEPS,.seq #[.int (-1) zu3_0_STEPS,.int 0 zu3_1_STEPS] zn3_STEPS,zs3_STEPS⟩)(yvh3_STEPS:zh3_STEPS=PySem.hashStr w "w"):∃ x,mg "STEPS"=some (.ref x)/\Tab K w x zCG:=⟨_,PySem.W.mg_of X G ytn,⟨_,_,yts,(TEnt.cons (v:=.ref za0_STEPS) yvh0_STEPS rfl (fun F H=>Rep.tup (vs:=[.int 0,.int (-1)]) (.inr ⟨_,_,_,yuv0_STEPS,rfl,rfl,zAY (show 2<=1000 by decide),(.cons ⟨_,rfl⟩ (.cons ⟨_,rfl⟩ .nil))⟩) (.cons (.int _) (.cons (.int _) .nil))) (TEnt.cons (v:=.ref za1_STEPS) yvh1_STEPS rfl (fun F H=>Rep.tup (vs:=[.int 1,.int 0]) (.inr ⟨_,_,_,yuv1_STEPS,rfl,rfl,zAY (show 2<=1000 by decide),(.cons ⟨_,rfl⟩ (.cons ⟨_,rfl⟩ .nil))⟩) (.cons (.int _) (.cons (.int _) .nil))) (TEnt.cons (v:=.ref za2_STEPS) yvh2_STEPS rfl (fun F H=>Rep.tup (vs:=[.int 0,.int 1]) (.inr ⟨_,_,_,yuv2_STEPS,rfl,rfl,zAY (show 2<=1000 by decide),(.cons ⟨_,rfl⟩ (.cons ⟨_,rfl⟩ .nil))⟩) (.cons (.int _) (.cons (.int _) .nil))) (TEnt.cons (v:=.ref za3_STEPS) yvh3_STEPS rfl (fun F H=>Rep.tup (vs:=[.int (-1),.int 0]) (.inr ⟨_,_,_,yuv3_STEPS,rfl,rfl,zAY (show 2<=1000 by decide),(.cons ⟨_,rfl⟩ (.cons ⟨_,rfl⟩ .nil))⟩) (.cons (.int _) (.cons (.int _) .nil))) TEnt.nil))))⟩⟩
theorem mk_txt{K:PySem.W.Frag}{mg:Str->Option Value}{w:World}{f0 f1 f2 f3 f4 f5 f6 f7 f8 f9 f10 f11 f12 f13 f14 f15 f16 f17 f18 f19 f20 f21 f22 f23 f24 f25 f26 f27 f28 f29 f30 f31 f32 f33 f34 f35 f36 f37 f38 f39 f40 f41 f42 f43 f44:Addr}{d0 d1 d2 d3 d4 d5 d6 d7 d8 d9 d10 d11 d12 d13 d14 d15 d16 d17 d18 d19 d20 d21 d22 d23 d24 d25 d26 d27 d28 d29 d30 d31 d32 d33 d34 d35 d36 d37 d38 d39 d40 d41 d42 d43 d44:FuncData}(F0:Fo K mg "is_whole" s_qt ["thing"] f0 d0)(F1:Fo K mg "all_cells" s_qq ["floor"] f1 d1)(F2:Fo K mg "marked" s_p6 ["things"] f2 d2)(F3:Fo K mg "crossed" s_p0 ["one","other"] f3 d3)(F4:Fo K mg "couples_beside" s_q7 ["cells"] f4 d4)(F5:Fo K mg "with_one_more" s_q9 ["choices","cells"] f5 d5)(F6:Fo K mg "see_all" s_p2 ["fields","posts"] f6 d6)(F7:Fo K mg "last_sees_none" s_q6 ["fields","chosen"] f7 d7)(F8:Fo K mg "common_divisor" s_q5 ["one","other"] f8 d8)(F9:Fo K mg "is_less" s_p4 ["one","other"] f9 d9)(F10:Fo K mg "square_apart" s_qc ["one","other"] f10 d10)(F11:Fo K mg "beside" s_p5 ["cell","word"] f11 d11)(F12:Fo K mg "_law_cell" s_qr ["_law_script","_law_k"] f12 d12)(F13:Fo K mg "_law_cells" s_qj ["_law_floor_here"] f13 d13)(F14:Fo K mg "is_whole_couple" s_q2 ["thing"] f14 d14)(F15:Fo K mg "open_cells" s_qk ["floor"] f15 d15)(F16:Fo K mg "lets_see" s_qy ["solids","one","other"] f16 d16)(F17:Fo K mg "shortened" s_qo ["top","under"] f17 d17)(F18:Fo K mg "is_ahead" s_qv ["eye","cell"] f18 d18)(F19:Fo K mg "_law_drawn" s_qi ["_law_script","_law_k","_law_many"] f19 d19)(F20:Fo K mg "_law_open" s_qp ["_law_floor_here"] f20 d20)(F21:Fo K mg "is_cell" s_p3 ["floor","thing"] f21 d21)(F22:Fo K mg "see_each_other" s_q4 ["solids","one","other"] f22 d22)(F23:Fo K mg "cells_to_choose" s_q3 ["floor"] f23 d23)(F24:Fo K mg "added" s_p7 ["one","other"] f24 d24)(F25:Fo K mg "_law_floor" s_qe ["_law_script","_law_at","_law_most"] f25 d25)(F26:Fo K mg "_law_lamps" s_qg ["_law_script","_law_at","_law_some"] f26 d26)(F27:Fo K mg "refuse_off_floor" s_q0 ["floor","cell"] f27 d27)(F28:Fo K mg "light_in" s_qu ["solids","lamps","cell"] f28 d28)(F29:Fo K mg "does_spot" s_qs ["solids","eye","cell"] f29 d29)(F30:Fo K mg "is_solid" s_qx ["floor","cell"] f30 d30)(F31:Fo K mg "numbers_on" s_qf ["solids","eyes","cell"] f31 d31)(F32:Fo K mg "refuse_not_open" s_q1 ["floor","cell"] f32 d32)(F33:Fo K mg "field_of" s_qz ["floor","cell"] f33 d33)(F34:Fo K mg "refuse_lamps" s_qb ["floor","lamps"] f34 d34)(F35:Fo K mg "refuse_eyes" s_qd ["floor","eyes"] f35 d35)(F36:Fo K mg "fields_by_cell" s_q8 ["floor","cells"] f36 d36)(F37:Fo K mg "light_at" s_qw ["floor","lamps","cell"] f37 d37)(F38:Fo K mg "lights_of" s_qm ["floor","lamps"] f38 d38)(F39:Fo K mg "eyes_on" s_p1 ["floor","eyes","cell"] f39 d39)(F40:Fo K mg "fewest_posts" s_qa ["floor"] f40 d40)(F41:Fo K mg "most_apart" s_ql ["floor"] f41 d41)(F42:Fo K mg "lit_cells" s_qn ["floor","lamps","least"] f42 d42)(F43:Fo K mg "dark_cells" s_qh ["floor","lamps"] f43 d43)(F44:Fo K mg "law" s_p8 ["_law_script"] f44 d44)(z0:mg "isinstance"=none)(z1:mg "int"=none)(z2:mg "bool"=none)(z3:mg "range"=none)(z4:mg "dict"=none)(z5:mg "abs"=none)(z6:mg "zip"=none)(z7:mg "sorted"=none)(z8:mg "tuple"=none)(z9:mg "any"=none)(z10:mg "all"=none)(z11:mg "len"=none)(z12:mg "set"=none)(z13:mg "enumerate"=none)(z14:mg "min"=none)(z15:mg "list"=none)(c0:∃ t,mg "MOST_CELLS"=some (.int 12 t))(t0:∃ x,mg "STEPS"=some (.ref x)/\Tab K w x zCG):∃ a d ta,Txt K mg a d w ta:=by
 obtain⟨x0,u0,v0⟩:=t0
 exact⟨(cn f0 (cn f1 (cn f2 (cn f3 (cn f4 (cn f5 (cn f6 (cn f7 (cn f8 (cn f9 (cn f10 (cn f11 (cn f12 (cn f13 (cn f14 (cn f15 (cn f16 (cn f17 (cn f18 (cn f19 (cn f20 (cn f21 (cn f22 (cn f23 (cn f24 (cn f25 (cn f26 (cn f27 (cn f28 (cn f29 (cn f30 (cn f31 (cn f32 (cn f33 (cn f34 (cn f35 (cn f36 (cn f37 (cn f38 (cn f39 (cn f40 (cn f41 (cn f42 (cn f43 (fun _=>f44))))))))))))))))))))))))))))))))))))))))))))),(cn d0 (cn d1 (cn d2 (cn d3 (cn d4 (cn d5 (cn d6 (cn d7 (cn d8 (cn d9 (cn d10 (cn d11 (cn d12 (cn d13 (cn d14 (cn d15 (cn d16 (cn d17 (cn d18 (cn d19 (cn d20 (cn d21 (cn d22 (cn d23 (cn d24 (cn d25 (cn d26 (cn d27 (cn d28 (cn d29 (cn d30 (cn d31 (cn d32 (cn d33 (cn d34 (cn d35 (cn d36 (cn d37 (cn d38 (cn d39 (cn d40 (cn d41 (cn d42 (cn d43 (fun _=>d44))))))))))))))))))))))))))))))))))))))))))))),(fun _=>x0),F0,F1,F2,F3,F4,F5,F6,F7,F8,F9,F10,F11,F12,F13,F14,F15,F16,F17,F18,F19,F20,F21,F22,F23,F24,F25,F26,F27,F28,F29,F30,F31,F32,F33,F34,F35,F36,F37,F38,F39,F40,F41,F42,F43,F44,z0,z1,z2,z3,z4,z5,z6,z7,z8,z9,z10,z11,z12,z13,z14,z15,c0,u0,v0⟩
theorem walkZ{q:Program}{loose:List Str}{XP:(Str->Option Value)->Heap->Prop}{K:Params->PySem.W.Frag}{as:List Addr}{n t:Nat}{r:PySem.W.RowW}{d:DefRec}{kwd:List (Str × Expr)}{run:Value->List Value->Sem Value}(e:∀ P,as=(K P).map (·.1))
  (h:PySem.W.WalkO q loose XP (fun w h=>(K w.params).In h) r d kwd run):PySem.W.WalkX q loose XP (PySem.W.X.obsZ as) (PySem.W.X.valZ K n t) r d kwd run:=
 fun w s₀ s₁ mg mb G y a o pm cd doc dV kV ho hd hcd hD hmg hg args vals as_ L=>h w s₀ s₁ mg mb G (PySem.W.InK.keeps w _ _ (PySem.W.X.z_facts e y).2.1 L.keeps) a o pm cd doc dV kV ho hd hcd hD hmg hg args vals as_
theorem walk{l:PySem.W.OpenLaw}{q:Program}{loose:List Str}{XP:(Str->Option Value)->Heap->Prop}{YP:World->Heap->Prop}{d:DefRec}{K:Params->PySem.W.Frag}(hn:l.most=some 63)(hdf:d.params.defaults=[])
  (hY:∀(w:World) (h:Heap),YP w h->(K w.params).In h)
  (F:∀(w:World) (mg:Str->Option Value) (fa:Addr) (h:Heap),(K w.params).In h->h.Ns mainGlobals mg->mg d.name=some (.ref fa)->
   ∃ fd:FuncData,(∀(s:Shared) (u:Value),BindsTo s fd ⟨[u],[]⟩ [("_law_script",u)])/\∀ base:Heap,(K w.params).In base->base.Ns mainGlobals mg->FnOk l.prog w (K w.params) mg base CX0 10 fa fd ["_law_script"] (zE4 (K w.params) Glaw)):
  PySem.W.WalkO q loose XP YP l.row.toRowW d [] (fun f vs=>PySem.call f vs):=
 L2.walk_of (n:=63) (k:=10) (x:="_law_script") (CX:=fun _=>CX0) (sp:=fun w=>zE4 (K w.params) Glaw) hn (by decide) hdf ⟨rfl,by decide,by decide,rfl⟩ hY F (fun _ _ a ns hl _ hS=>⟨a,ns,rfl,hS,hl,fun _=>rfl⟩) fun _ _ _ _ _ z=>z
end My
open PySem PySem.W PyProof.Rows
namespace PySem.W.Fast
def tw17465134702430661634:=0
def tw334574950746787606:=0
def tw582609366043358083:=0
def tw5617358327711773397:=0
def tw15453444634953397590:=0
def tw6225521831025805215:=0
def tw7448816175405270648:=0
def tw8726268124934559568:=0
def tw8691366072833086433:=0
def tw6604069431311002574:=0
def tw1521491778543020172:=0
def tw7650981062981460468:=0
def tw16080175462063205560:=0
def tw8226916441386998256:=0
def tw16655631612455694431:=0
def tw4790513528217247518:=0
def tw160292600454900453:=0
def tw16120357219764824112:=0
def tw16416755428394872034:=0
def tw5575664146555340758:=0
def tw4424614161432280601:=0
def tw12287960859898676299:=0
def tw14687049768503464519:=0
def tw2873950028827753043:=0
def tw14088513995155715863:=0
def tw16926614415343066037:=0
def tw8321470276765907848:=0
def tw2025016870866143757:=0
def tw17347226469497873684:=0
def tw2036847991163322023:=0
def tw13598095857502517119:=0
def tw8467023356158335871:=0
def tw7575171042729790275:=0
def tw9483235587917857708:=0
def tw17298674850878947552:=0
def tw4982610449349067012:=0
def tw5994769087172523240:=0
def tw13721402438347183796:=0
def tw11522511171279512361:=0
def tw17008373324909407728:=0
def tw5312728248188840448:=0
def tw9822793477098776144:=0
def tw7573068325948643081:=0
def tw18040455998454079893:=0
def tw8793389443986103466:=0
def tw5326209059305814783:=0
def tw1876173989239738168:=0
def tw2586153977308953826:=0
def tw13816200951294296107:=0
def tw16049685158893499889:=0
def tw12542755149739220925:=0
def tw17132565215930206903:=0
def tw14767374071373509571:=0
def tw12181167027047724805:=0
def tw15854955355350918606:=0
def tw13241476321260840499:=0
def tw8944831688977325369:=0
def tw5885679367398233198:=0
def tw6070553426777867108:=0
def tw6353461124841881355:=0
def tw3784356378748158454:=0
def tw12366335485398195020:=0
def tw12887070362310569161:=0
def tw9493419121040688519:=0
def tw5568464393013313100:=0
def tw5047228064095168656:=0
def tw2027579668623259374:=0
def tw55936294896205315:=0
def tw10475915193688769560:=0
def tw17213804313100517278:=0
def tw281822179244215492:=0
def tw17128953007189559750:=0
def tw4046519120572229262:=0
def tw1444410902710304230:=0
def tw2537821415134831790:=0
def tw1626977239811618826:=0
def tw1276422154436289324:=0
def tw12015894088826443380:=0
def tw7267220423612739499:=0
def tw4706171282396500400:=0
def tw4029671084853323698:=0
def tw12599182577131153287:=0
def tw15567497131103588531:=0
def tw17264340409472174228:=0
def tw15486631948205128458:=0
def tw1399270089406315374:=0
def tw9748076289687856519:=0
def tw16466391503783337416:=0
def tw2826490597446280713:=0
def tw17832043840881103921:=0
def tw10100561505350355971:=0
def tw4151384029736716979:=0
def tw13001516629488023406:=0
def tw4612473752199299556:=0
def tw5144983673694040696:=0
def tw10661794890637455820:=0
def tw2045317399864003833:=0
def tw3640787603258250240:=0
def tw1680400012260718545:=0
def tw4246410816356146121:=0
def tw9409229477177391605:=0
def tw7989943183742789516:=0
def tw16047569004576738730:=0
def tw9551835089925776020:=0
def tw7222223395878253949:=0
def tw13839012055489698649:=0
def tw1297065459253523009:=0
def tw15595635699849735057:=0
def tw6451184077460468982:=0
def tw14181141851707928744:=0
def tw17227427875291002353:=0
def tw12444718141352141950:=0
def tw3310799335524135144:=0
def tw12689854339225200642:=0
def tw10449728624232760151:=0
def tw5327183467214788156:=0
def tw12286354334364433613:=0
def tw4560934276183443879:=0
def tw7492535730061966495:=0
def tw6709190876439227462:=0
def tw1576471802177584901:=0
def tw9619444464785261323:=0
def tw890246694222589846:=0
def tw6615260962976107201:=0
def tw15058840838610668535:=0
def tw16758657034507568371:=0
def tw15587011421206721189:=0
def tw123121573403611710:=0
def tw12184551622789758041:=0
def tw2351791509810921387:=0
def tw16269593789102216861:=0
def tw1569410937423650969:=0
def tw819760771726745000:=0
def tw15042511133338163766:=0
def tw17074718370503844428:=0
def tw8217160846578505759:=0
def tw7726686287966528092:=0
def tw2289699917536440085:=0
def tw11584323560576031016:=0
def tw13178875484247607689:=0
def tw1862027464352299186:=0
def tw5221986875757703751:=0
def tw17745138050078167990:=0
def tw10547007607140259479:=0
def tw6923509970462876056:=0
def tw5753440231196397927:=0
def tw18009448387675044950:=0
def tw918209710384262023:=0
def tw13708338670870655023:=0
def tw12670565653973118481:=0
def tw13503851786598315116:=0
def tw10928908033185530402:=0
def tw5360594391136303095:=0
def tw10494038613131652056:=0
def tw16167198391156935855:=0
def tw7255428466630707513:=0
def tw516741451830202028:=0
def tw95829565227083445:=0
def tw17159793514282997194:=0
def tw6095044535894399608:=0
def tw684192663458322734:=0
def tw5796274647847528588:=0
def tw8567039408178457835:=0
def tw6787713324871381593:=0
def tw9757764617341910615:=0
def tw8845734825867308855:=0
def tw13039463753075071093:=0
def tw4252578485518051498:=0
def tw1261755300558940556:=0
def tw11169211071140672437:=0
def tw15332804316522830771:=0
def tw7026114580145581238:=0
def tw5226983760386863132:=0
def tw6076653911540071153:=0
def tw15208347313282691192:=0
def tw4954741977389851851:=0
def tw16037849532132054522:=0
def tw13873455860252418001:=0
def tw527630520321966230:=0
def tw10641276253599672829:=0
def tw933482184929758893:=0
def tw16106355758442402356:=0
def tw62215087655379577:=0
def tw16410023061197347478:=0
def tw11770735763041088205:=0
def tw4351719021527775727:=0
def tw2219838749393752152:=0
def tw3278107601397183933:=0
def tw5162548869651013705:=0
def tw8134086341072119844:=0
def tw7806024348317544548:=0
def tw464712832386130932:=0
def tw16363429390041402084:=0
def tw4338248553431189762:=0
def tw861560920002358804:=0
def tw9901758533443786672:=0
def tw716535404267626825:=0
def tw11647003445058349537:=0
def tw10499806824758326827:=0
def tw1863246670008454985:=0
def tw15035623293495987355:=0
def tw12867449995958212202:=0
def tw17500749320538679903:=0
def tw1229560342736325254:=0
def tw10391102661359192792:=0
def tw7484450888119576374:=0
def tw10689016897973864931:=0
def tw15103463802915451597:=0
def tw2530385226799144652:=0
def tw2488018048661221809:=0
def tw3316750867711578514:=0
def tw7615465797614204004:=0
def tw1347631825204832168:=0
def tw12589162009996179773:=0
def tw1527863041851944539:=0
def tw10734718776538364006:=0
def tw5056554671968743006:=0
def tw9471184416585825777:=0
def tw15307745101649506497:=0
def tw15325913177214856980:=0
def tw12443762200983654464:=0
def tw13532961992717767820:=0
def tw6597353758004110401:=0
def tw385356950949898200:=0
def tw14258695736724077071:=0
def tw5517320111828153638:=0
def tw9210794604929800253:=0
def tw2119335096068096950:=0
def tw5364274694150390331:=0
def tw17267089351336914720:=0
def tw7120710553389984955:=0
def tw13076499479779927458:=0
def tw3951034792049032394:=0
def tw18344037243673811144:=0
def tw17109297942303288024:=0
def tw8431176067537735692:=0
def tw17643259376321510540:=0
def tw18255612302539531376:=0
def tw3746517372223184116:=0
def tw5979656667401210860:=0
def tw820557989497522619:=0
def tw4111959373465454682:=0
def tw9746979755035128391:=0
def tw5266337517769604800:=0
def tw3733708806643523023:=0
def tw8987260533578367957:=0
def tw892942693921857105:=0
def tw17975734285661754505:=0
def tw1837881763347884625:=0
def tw16851203003427736853:=0
def tw754940307445063477:=0
def tw979528208393990783:=0
def tw1008969090582638344:=0
def tw1950760497610023206:=0
def tw12160466960219091212:=0
def tw11349047075657276733:=0
def tw8484557675752020757:=0
def tw64378991309601816:=0
def tw2727228315778806640:=0
def tw16445603583297385258:=0
def tw14051505427143840033:=0
def tw3685164519431235682:=0
def tw5025201427646159564:=0
def tw7973345594833415817:=0
def tw18226312541800072533:=0
def tw10532596293874805143:=0
def tw11499668526849997467:=0
def tw9943955443384032073:=0
def tw16491495658007349090:=0
def tw978570132715483670:=0
def tw5428465784593994895:=0
def tw7449149644451335740:=0
def tw2965117361958188483:=0
def tw262029354917176800:=0
def tw16846373135757035542:=0
def tw8161076088163449025:=0
def tw10300660408574213526:=0
def tw7840832898914005643:=0
def tw4235491413876978256:=0
def tw9446536417622900513:=0
def tw18193675141228499637:=0
def tw2870677162086886673:=0
def tw8464991366377354733:=0
def tw17869320028004914338:=0
def tw4321727405956431558:=0
def tw17187893731431411819:=0
def tw445910559360349942:=0
def tw7205187022275724651:=0
def tw12994439772748078286:=0
def tw5961395892315465902:=0
def tw11836595414499053569:=0
def tw10527348236913952912:=0
def tw16420599177790913671:=0
def tw10284707451034607386:=0
def tw9184129480637029684:=0
def tw11515032355158453229:=0
def tw9437779325552988524:=0
def tw16456597996792982146:=0
def tw3432431405739641579:=0
def tw2171646402312547472:=0
def tw2242264939181239833:=0
def tw13641396220976425241:=0
def tw10909326284751325565:=0
def tw7468541113399884184:=0
def tw13632155406104847959:=0
def tw14397394217194263732:=0
def tw3454972625712958773:=0
def tw4363158131674855002:=0
def tw13556942927421220216:=0
def tw592015134958326419:=0
def tw12630400601330173503:=0
def tw4788564041382790362:=0
def tw17082850259068042051:=0
def tw15623393681789693408:=0
def tw13852398980186008289:=0
def tw5939450642688298794:=0
def tw2823930292620540361:=0
def tw16799870175704789339:=0
def tw4641961035223519385:=0
def tw9781562009394004046:=0
def tw1039097011702223406:=0
def tw9138494675466882093:=0
def tw7574748690870200587:=0
def tw11897789695263962478:=0
def tw6409682733184847377:=0
def tw9839694493711907440:=0
def tw3381047408925360217:=0
end PySem.W.Fast
set_option maxRecDepth 100000 in
set_option maxHeartbeats 0 in
theorem PySem.Challenge.cw_lampfloor_k84_whole_lit_posts_holds : PySem.Challenge.rw_lampfloor_k84_whole_lit_posts.Holds := by
 w_on;o_law;z_head;(case hw=>w_witness2)
 k_fill
 refine My.walkZ (fun _=>rfl) (My.walk (l:=PySem.Challenge.rw_lampfloor_k84_whole_lit_posts) rfl rfl (fun w h Y=>Y) ?F)
 case F=>
  intro w mg fa h KX G hmg
  refine' My.all_mk My.main hmg (My.mk_txt (My.fo1 KX G rfl (fun _=>rfl) ?_ ?_ ?_ ?_) (My.fo1 KX G rfl (fun _=>rfl) ?_ ?_ ?_ ?_) (My.fo1 KX G rfl (fun _=>rfl) ?_ ?_ ?_ ?_) (My.fo2 KX G rfl (fun _ _=>rfl) ?_ ?_ ?_ ?_) (My.fo1 KX G rfl (fun _=>rfl) ?_ ?_ ?_ ?_) (My.fo2 KX G rfl (fun _ _=>rfl) ?_ ?_ ?_ ?_) (My.fo2 KX G rfl (fun _ _=>rfl) ?_ ?_ ?_ ?_) (My.fo2 KX G rfl (fun _ _=>rfl) ?_ ?_ ?_ ?_) (My.fo2 KX G rfl (fun _ _=>rfl) ?_ ?_ ?_ ?_) (My.fo2 KX G rfl (fun _ _=>rfl) ?_ ?_ ?_ ?_) (My.fo2 KX G rfl (fun _ _=>rfl) ?_ ?_ ?_ ?_) (My.fo2 KX G rfl (fun _ _=>rfl) ?_ ?_ ?_ ?_) (My.fo2 KX G rfl (fun _ _=>rfl) ?_ ?_ ?_ ?_) (My.fo1 KX G rfl (fun _=>rfl) ?_ ?_ ?_ ?_) (My.fo1 KX G rfl (fun _=>rfl) ?_ ?_ ?_ ?_) (My.fo1 KX G rfl (fun _=>rfl) ?_ ?_ ?_ ?_) (My.fo3 KX G rfl (fun _ _ _=>rfl) ?_ ?_ ?_ ?_) (My.fo2 KX G rfl (fun _ _=>rfl) ?_ ?_ ?_ ?_) (My.fo2 KX G rfl (fun _ _=>rfl) ?_ ?_ ?_ ?_) (My.fo3 KX G rfl (fun _ _ _=>rfl) ?_ ?_ ?_ ?_) (My.fo1 KX G rfl (fun _=>rfl) ?_ ?_ ?_ ?_) (My.fo2 KX G rfl (fun _ _=>rfl) ?_ ?_ ?_ ?_) (My.fo3 KX G rfl (fun _ _ _=>rfl) ?_ ?_ ?_ ?_) (My.fo1 KX G rfl (fun _=>rfl) ?_ ?_ ?_ ?_) (My.fo2 KX G rfl (fun _ _=>rfl) ?_ ?_ ?_ ?_) (My.fo3 KX G rfl (fun _ _ _=>rfl) ?_ ?_ ?_ ?_) (My.fo3 KX G rfl (fun _ _ _=>rfl) ?_ ?_ ?_ ?_) (My.fo2 KX G rfl (fun _ _=>rfl) ?_ ?_ ?_ ?_) (My.fo3 KX G rfl (fun _ _ _=>rfl) ?_ ?_ ?_ ?_) (My.fo3 KX G rfl (fun _ _ _=>rfl) ?_ ?_ ?_ ?_) (My.fo2 KX G rfl (fun _ _=>rfl) ?_ ?_ ?_ ?_) (My.fo3 KX G rfl (fun _ _ _=>rfl) ?_ ?_ ?_ ?_) (My.fo2 KX G rfl (fun _ _=>rfl) ?_ ?_ ?_ ?_) (My.fo2 KX G rfl (fun _ _=>rfl) ?_ ?_ ?_ ?_) (My.fo2 KX G rfl (fun _ _=>rfl) ?_ ?_ ?_ ?_) (My.fo2 KX G rfl (fun _ _=>rfl) ?_ ?_ ?_ ?_) (My.fo2 KX G rfl (fun _ _=>rfl) ?_ ?_ ?_ ?_) (My.fo3 KX G rfl (fun _ _ _=>rfl) ?_ ?_ ?_ ?_) (My.fo2 KX G rfl (fun _ _=>rfl) ?_ ?_ ?_ ?_) (My.fo3 KX G rfl (fun _ _ _=>rfl) ?_ ?_ ?_ ?_) (My.fo1 KX G rfl (fun _=>rfl) ?_ ?_ ?_ ?_) (My.fo1 KX G rfl (fun _=>rfl) ?_ ?_ ?_ ?_) (My.fo3 KX G rfl (fun _ _ _=>rfl) ?_ ?_ ?_ ?_) (My.fo2 KX G rfl (fun _ _=>rfl) ?_ ?_ ?_ ?_) (My.fo1 KX G rfl (fun _=>rfl) ?_ ?_ ?_ ?_) (mg_none_of KX G ?_) (mg_none_of KX G ?_) (mg_none_of KX G ?_) (mg_none_of KX G ?_) (mg_none_of KX G ?_) (mg_none_of KX G ?_) (mg_none_of KX G ?_) (mg_none_of KX G ?_) (mg_none_of KX G ?_) (mg_none_of KX G ?_) (mg_none_of KX G ?_) (mg_none_of KX G ?_) (mg_none_of KX G ?_) (mg_none_of KX G ?_) (mg_none_of KX G ?_) (mg_none_of KX G ?_) (My.ex1 (mg_of KX G ?_)) (My.tab_STEPS KX G ?_ ?_ ?_ ?_ ?_ ?_ ?_ ?_ ?_ ?_))
  any_goals k_is
  all_goals rfl
